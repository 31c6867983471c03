/- Package circle: a circle at a minute. -/
import Derived.Test.YtpaihnjgpookjaaCC2
set_option linter.unusedVariables false
set_option linter.unusedSimpArgs false
namespace Go.Proofs.Ytpaihnjgpookjaa
open Go Go.RowKit

theorem ThOwn.keep {w w' : World} {v : Value} (h : ThOwn w v) (hb : Below w.heap.size w w') : ThOwn w' v := by
  obtain ⟨g, n, cap, C, rfl, hC⟩ := h
  exact ⟨g, n, cap, C, rfl, (hb.block _ (Array.getElem?_eq_some_iff.1 hC).1).trans hC⟩
theorem same9 {W : World} {q g : Nat} (h : g ≠ q) (y0 y1 y2 y3 y4 y5 y6 y7 y8 : Value) : (((((((((W.setCell ⟨q, 0, none⟩ y0).setCell ⟨q, 1, none⟩ y1).setCell ⟨q, 2, none⟩ y2).setCell ⟨q, 3, none⟩ y3).setCell ⟨q, 4, none⟩ y4).setCell ⟨q, 5, none⟩ y5).setCell ⟨q, 6, none⟩ y6).setCell ⟨q, 7, none⟩ y7).setCell ⟨q, 8, none⟩ y8).heap[g]? = W.heap[g]? := by
  rw [heap_other _ _ _ _ _ h, heap_other _ _ _ _ _ h, heap_other _ _ _ _ _ h, heap_other _ _ _ _ _ h, heap_other _ _ _ _ _ h, heap_other _ _ _ _ _ h, heap_other _ _ _ _ _ h, heap_other _ _ _ _ _ h, heap_other _ _ _ _ _ h]
/-- The code that dialAt answers. -/
def dtE (R : Option Ci) (ks : List Ck) (t : Int) : Int :=
  match R with
  | none => 5
  | some z => if ciB t z.f z.t = true then (if ctB z.dr (dlL z ks) = true then 9 else 0) else 1
/-- The answer of dialAt. -/
def DtOut (R : Option Ci) (ks : List Ck) (t : Int) (w : World) (e : Ending) (w' : World) : Prop :=
  Below w.heap.size w w' ∧ (dtE R ks t ≠ 0 → e = .returned (.tuple #[dl0, .int .i64 (dtE R ks t)])) ∧ (dtE R ks t = 0 → ∃ z v, R = some z ∧ e = .returned (.tuple #[dlV z v, .int .i64 0]) ∧ ThRow w' v (dlL z ks) ∧ ThOwn w' v)
set_option maxRecDepth 100000 in
set_option maxHeartbeats 8000000 in
theorem dialAt_any (v1 v2 : Value) (cs : List Ci) (ks : List Ck) (id t : Int) (w : World) (hv1 : CiRow w v1 cs) (hv2 : CkRow w v2 ks) (ho : CcOk cs ks) :
    Calls Try.prog 58 #[.agg #[v1, v2], .int .i64 id, .int .i64 t] w fun e w' => DtOut (ciF cs id) ks t w e w' := by
  have HDO := Lib.hid (fun w' (h : Below w.heap.size w w') => dialOf_one v1 v2 cs ks id w' (hv1.keep h) (hv2.keep h) ho)
  have HOK := Lib.hid (fun z h => dlL_ok ho (id := id) (z := z) h)
  have HCI := Lib.hid (fun z h => ciF_ok ho (id := id) (z := z) h)
  have HLE := Lib.hid (fun z => dlL_len ho z)
  have HE : Hid (dtE (ciF cs id) ks t = _) := Lib.hid (dtE.eq_def (ciF cs id) ks t)
  obtain ⟨R, hR⟩ : ∃ R, ciF cs id = R := ⟨_, rfl⟩
  obtain ⟨E, hE⟩ : ∃ E, dtE (ciF cs id) ks t = E := ⟨_, rfl⟩
  unfold DtOut
  rw [hE] at HE ⊢
  rw [hR] at HDO HOK HCI HE ⊢
  clear hE hR hv1 hv2
  go_enter Try.func58, Try.ntmps58
  go_wp2_with fail
  have HA := Lib.hid (fun W' => two_cells w #[v1, v2] #[.int .i64 0, .int .i64 0, .int .i64 0, .int .i64 0, .int .i64 0, .int .i64 0, .int .i64 0, .int .i64 0, .slice none 0 0] 46 112 (W := W'))
  have HB0 := Lib.hid (Below.refl ((w.alloc (.cells #[v1, v2] 46)).alloc (.cells #[.int .i64 0, .int .i64 0, .int .i64 0, .int .i64 0, .int .i64 0, .int .i64 0, .int .i64 0, .int .i64 0, .slice none 0 0] 112)).heap.size ((w.alloc (.cells #[v1, v2] 46)).alloc (.cells #[.int .i64 0, .int .i64 0, .int .i64 0, .int .i64 0, .int .i64 0, .int .i64 0, .int .i64 0, .int .i64 0, .slice none 0 0] 112)))
  obtain ⟨Z, hZ⟩ : ∃ Z, (w.alloc (.cells #[v1, v2] 46)).alloc (.cells #[.int .i64 0, .int .i64 0, .int .i64 0, .int .i64 0, .int .i64 0, .int .i64 0, .int .i64 0, .int .i64 0, .slice none 0 0] 112) = Z := ⟨_, rfl⟩
  rw [hZ] at HA HB0 ⊢
  have HRD : Hid (∀ W', Below Z.heap.size Z W' → Below w.heap.size w W') := Lib.hid (fun W' h => (HA.out W' h).2.2.2)
  clear hZ
  refine (HDO.out Z (HRD.out Z HB0.out)).mono ?_
  rintro e w1 ⟨hb1, hd1⟩
  have HB1 := Lib.hid hb1
  clear hb1
  cases R with
  | none =>
    simp only at hd1
    subst hd1
    have HN : Hid (E = 5) := Lib.hid HE.out
    unfold dl0
    have HY : Hid (Below Z.heap.size Z (w1.alloc (.cells #[.int .i64 0, .int .i64 0, .int .i64 0, .int .i64 0, .int .i64 0, .int .i64 0, .int .i64 0, .int .i64 0, .slice none 0 0] 112))) := Lib.hid (HB1.out.alloc HB1.out.size _)
    have HW : Hid ((w1.alloc (.cells #[.int .i64 0, .int .i64 0, .int .i64 0, .int .i64 0, .int .i64 0, .int .i64 0, .int .i64 0, .int .i64 0, .slice none 0 0] 112)).heap[w1.heap.size]? = some (.cells #[.int .i64 0, .int .i64 0, .int .i64 0, .int .i64 0, .int .i64 0, .int .i64 0, .int .i64 0, .int .i64 0, .slice none 0 0] 112 (0, 0))) := Lib.hid (heap_alloc_new _ _)
    have r0 := cellH (HA.out _ HY.out).2.1 0
    have r1 := cellH (HA.out _ HY.out).2.1 1
    have r2 := cellH (HA.out _ HY.out).2.1 2
    have r3 := cellH (HA.out _ HY.out).2.1 3
    have r4 := cellH (HA.out _ HY.out).2.1 4
    have r5 := cellH (HA.out _ HY.out).2.1 5
    have r6 := cellH (HA.out _ HY.out).2.1 6
    have r7 := cellH (HA.out _ HY.out).2.1 7
    have r8 := cellH (HA.out _ HY.out).2.1 8
    have rf := freeH (HA.out _ HY.out).2.1
    have d0 := cellH HW.out 0
    have d1 := cellH HW.out 1
    have d2 := cellH HW.out 2
    have d3 := cellH HW.out 3
    have d4 := cellH HW.out 4
    have d5 := cellH HW.out 5
    have d6 := cellH HW.out 6
    have d7 := cellH HW.out 7
    have d8 := cellH HW.out 8
    simp only [List.getElem?_toArray, List.getElem?_cons_zero, List.getElem?_cons_succ] at r0 r1 r2 r3 r4 r5 r6 r7 r8 d0 d1 d2 d3 d4 d5 d6 d7 d8
    go_wp2_with fail
    obtain ⟨z1, z2⟩ := set9 (HA.out _ HY.out).2.1 (HRD.out _ HY.out) (by omega) (.int .i64 0) (.int .i64 0) (.int .i64 0) (.int .i64 0) (.int .i64 0) (.int .i64 0) (.int .i64 0) (.int .i64 0) (.slice none 0 0)
    refine bodyPost_ret (res_ct Try.results58 _ _ (w.heap.size + 1) 112 #[.int .i64 0, .int .i64 0, .int .i64 0, .int .i64 0, .int .i64 0, .int .i64 0, .int .i64 0, .int .i64 0, .slice none 0 0] (0, 0) _ rfl z1 Try.underlying112 rfl info_di9) rfl ?_
    exact ⟨z2, fun _ => by rw [HN.out]; rfl, fun h => absurd h (by rw [HN.out]; decide)⟩
  | some z =>
    obtain ⟨v, rfl, hr, hO⟩ := hd1
    have HR := Lib.hid hr
    have HTO := Lib.hid hO
    obtain ⟨g, n, cap, _, rfl, _⟩ := hO
    have hzo := Ci.ok_iff.1 (HCI.out z rfl)
    have HZO := Lib.hid hzo
    have HTT := Lib.hid (HOK.out z rfl)
    have HL := Lib.hid (HLE.out z)
    obtain ⟨L, hL⟩ : ∃ L, dlL z ks = L := ⟨_, rfl⟩
    simp only at HE
    rw [hL] at HE HR HTT HL
    obtain ⟨zi, zx, zy, zf, zt, zl, zh, dr⟩ := z
    simp only at HE HZO
    have HCT : Hid (∀ w', Below w1.heap.size w1 w' → Calls Try.prog 84 #[.agg #[.int .i64 zi, .int .i64 zx, .int .i64 zy, .int .i64 zf, .int .i64 zt, .int .i64 zl, .int .i64 zh, .int .i64 dr, .slice (some ⟨g, 0, none⟩) n cap]] w' fun e w'' => e = .returned (.bool (ctB dr L)) ∧ Below w'.heap.size w' w'') := Lib.hid (fun w' h => contradicted_any ⟨zi, zx, zy, zf, zt, zl, zh, dr⟩ (.slice (some ⟨g, 0, none⟩) n cap) L w' (HR.out.keep h) (HTO.out.keep h) (by have := HL.out; omega) (by have := HZO.out; simp only; omega) HTT.out)
    have HWI : Hid (∀ w', Calls Try.prog 71 #[.int .i64 t, .int .i64 zf, .int .i64 zt] w' fun e w'' => e = .returned (.bool (ciB t zf zt)) ∧ w'' = w') := Lib.hid (fun w' => qwithin_any t zf zt w')
    clear hr hzo
    unfold dlV
    simp only
    obtain ⟨c1, hc1⟩ : ∃ c, ciB t zf zt = c := ⟨_, rfl⟩
    obtain ⟨c2, hc2⟩ : ∃ c, ctB dr L = c := ⟨_, rfl⟩
    rw [hc1] at HWI HE
    rw [hc2] at HCT HE
    clear hc1 hc2
    have HY : Hid (Below Z.heap.size Z (w1.alloc (.cells #[.int .i64 zi, .int .i64 zx, .int .i64 zy, .int .i64 zf, .int .i64 zt, .int .i64 zl, .int .i64 zh, .int .i64 dr, .slice (some ⟨g, 0, none⟩) n cap] 112))) := Lib.hid (HB1.out.alloc HB1.out.size _)
    have HW : Hid ((w1.alloc (.cells #[.int .i64 zi, .int .i64 zx, .int .i64 zy, .int .i64 zf, .int .i64 zt, .int .i64 zl, .int .i64 zh, .int .i64 dr, .slice (some ⟨g, 0, none⟩) n cap] 112)).heap[w1.heap.size]? = some (.cells #[.int .i64 zi, .int .i64 zx, .int .i64 zy, .int .i64 zf, .int .i64 zt, .int .i64 zl, .int .i64 zh, .int .i64 dr, .slice (some ⟨g, 0, none⟩) n cap] 112 (0, 0))) := Lib.hid (heap_alloc_new _ _)
    have r0 := cellH (HA.out _ HY.out).2.1 0
    have r1 := cellH (HA.out _ HY.out).2.1 1
    have r2 := cellH (HA.out _ HY.out).2.1 2
    have r3 := cellH (HA.out _ HY.out).2.1 3
    have r4 := cellH (HA.out _ HY.out).2.1 4
    have r5 := cellH (HA.out _ HY.out).2.1 5
    have r6 := cellH (HA.out _ HY.out).2.1 6
    have r7 := cellH (HA.out _ HY.out).2.1 7
    have r8 := cellH (HA.out _ HY.out).2.1 8
    have rf := freeH (HA.out _ HY.out).2.1
    have d0 := cellH HW.out 0
    have d1 := cellH HW.out 1
    have d2 := cellH HW.out 2
    have d3 := cellH HW.out 3
    have d4 := cellH HW.out 4
    have d5 := cellH HW.out 5
    have d6 := cellH HW.out 6
    have d7 := cellH HW.out 7
    have d8 := cellH HW.out 8
    simp only [List.getElem?_toArray, List.getElem?_cons_zero, List.getElem?_cons_succ] at r0 r1 r2 r3 r4 r5 r6 r7 r8 d0 d1 d2 d3 d4 d5 d6 d7 d8
    have HL1 : Hid (w1.heap.size < (w1.alloc (.cells #[.int .i64 zi, .int .i64 zx, .int .i64 zy, .int .i64 zf, .int .i64 zt, .int .i64 zl, .int .i64 zh, .int .i64 dr, .slice (some ⟨g, 0, none⟩) n cap] 112)).heap.size) := Lib.hid (by simp)
    have HQ1 : Hid (Below w1.heap.size w1 (w1.alloc (.cells #[.int .i64 zi, .int .i64 zx, .int .i64 zy, .int .i64 zf, .int .i64 zt, .int .i64 zl, .int .i64 zh, .int .i64 dr, .slice (some ⟨g, 0, none⟩) n cap] 112))) := Lib.hid ((Below.refl _ w1).alloc (Nat.le_refl _) _)
    obtain ⟨Y, hY⟩ : ∃ Y, w1.alloc (.cells #[.int .i64 zi, .int .i64 zx, .int .i64 zy, .int .i64 zf, .int .i64 zt, .int .i64 zl, .int .i64 zh, .int .i64 dr, .slice (some ⟨g, 0, none⟩) n cap] 112) = Y := ⟨_, rfl⟩
    rw [hY] at HY HW HL1 HQ1 r0 r1 r2 r3 r4 r5 r6 r7 r8 rf d0 d1 d2 d3 d4 d5 d6 d7 d8
    obtain ⟨db, hdb⟩ : ∃ n, w1.heap.size = n := ⟨_, rfl⟩
    rw [hdb] at HW d0 d1 d2 d3 d4 d5 d6 d7 d8
    go_wp2_with fail
    clear hY
    refine (HWI.out Y).mono ?_
    rintro e w2 ⟨rfl, rfl⟩
    cases c1
    · have HN : Hid (E = 1) := Lib.hid HE.out
      go_wp2_with fail
      obtain ⟨z1, z2⟩ := set9 (HA.out _ HY.out).2.1 (HRD.out _ HY.out) (by omega) (.int .i64 0) (.int .i64 0) (.int .i64 0) (.int .i64 0) (.int .i64 0) (.int .i64 0) (.int .i64 0) (.int .i64 0) (.slice none 0 0)
      refine bodyPost_ret (res_ct Try.results58 _ _ (w.heap.size + 1) 112 #[.int .i64 0, .int .i64 0, .int .i64 0, .int .i64 0, .int .i64 0, .int .i64 0, .int .i64 0, .int .i64 0, .slice none 0 0] (0, 0) _ rfl z1 Try.underlying112 rfl info_di9) rfl ?_
      exact ⟨z2, fun _ => by rw [HN.out]; rfl, fun h => absurd h (by rw [HN.out]; decide)⟩
    · go_wp2_with fail
      refine (HCT.out _ HQ1.out).mono ?_
      rintro e w3 ⟨rfl, hb3⟩
      have HQ3 := Lib.hid (HQ1.out.trans (hb3.mono HQ1.out.size))
      have HY3 := Lib.hid (HY.out.trans (hb3.mono HY.out.size))
      have HW3 := Lib.hid ((hb3.block _ (by have := HL1.out; omega)).trans HW.out)
      clear hb3 r0 r1 r2 r3 r4 r5 r6 r7 r8 rf d0 d1 d2 d3 d4 d5 d6 d7 d8
      have r0 := cellH (HA.out _ HY3.out).2.1 0
      have r1 := cellH (HA.out _ HY3.out).2.1 1
      have r2 := cellH (HA.out _ HY3.out).2.1 2
      have r3 := cellH (HA.out _ HY3.out).2.1 3
      have r4 := cellH (HA.out _ HY3.out).2.1 4
      have r5 := cellH (HA.out _ HY3.out).2.1 5
      have r6 := cellH (HA.out _ HY3.out).2.1 6
      have r7 := cellH (HA.out _ HY3.out).2.1 7
      have r8 := cellH (HA.out _ HY3.out).2.1 8
      have rf := freeH (HA.out _ HY3.out).2.1
      have d0 := cellH HW3.out 0
      have d1 := cellH HW3.out 1
      have d2 := cellH HW3.out 2
      have d3 := cellH HW3.out 3
      have d4 := cellH HW3.out 4
      have d5 := cellH HW3.out 5
      have d6 := cellH HW3.out 6
      have d7 := cellH HW3.out 7
      have d8 := cellH HW3.out 8
      simp only [List.getElem?_toArray, List.getElem?_cons_zero, List.getElem?_cons_succ] at r0 r1 r2 r3 r4 r5 r6 r7 r8 d0 d1 d2 d3 d4 d5 d6 d7 d8
      cases c2
      · have HN : Hid (E = 0) := Lib.hid HE.out
        go_wp2_with fail
        obtain ⟨z1, z2⟩ := set9 (HA.out _ HY3.out).2.1 (HRD.out _ HY3.out) (by omega) (.int .i64 zi) (.int .i64 zx) (.int .i64 zy) (.int .i64 zf) (.int .i64 zt) (.int .i64 zl) (.int .i64 zh) (.int .i64 dr) (.slice (some ⟨g, 0, none⟩) n cap)
        refine bodyPost_ret (res_ct Try.results58 _ _ (w.heap.size + 1) 112 #[.int .i64 zi, .int .i64 zx, .int .i64 zy, .int .i64 zf, .int .i64 zt, .int .i64 zl, .int .i64 zh, .int .i64 dr, .slice (some ⟨g, 0, none⟩) n cap] (0, 0) _ rfl z1 Try.underlying112 rfl info_di9) rfl ?_
        have hr3 := HR.out.keep HQ3.out
        obtain ⟨g', n', cap', C', hv', hC'⟩ := HTO.out.keep HQ3.out
        cases hv'
        have hne : g ≠ w.heap.size + 1 := by
          rintro rfl
          have h1 := hC'.symm.trans (HA.out _ HY3.out).2.1
          simp at h1
        have hs := same9 (W := w3) hne (.int .i64 zi) (.int .i64 zx) (.int .i64 zy) (.int .i64 zf) (.int .i64 zt) (.int .i64 zl) (.int .i64 zh) (.int .i64 dr) (.slice (some ⟨g, 0, none⟩) n cap)
        exact ⟨z2, fun h => absurd HN.out h, fun _ => ⟨_, _, rfl, rfl, by rw [hL]; exact hr3.same hs, ⟨g, n, cap, C', rfl, hs.trans hC'⟩⟩⟩
      · have HN : Hid (E = 9) := Lib.hid HE.out
        go_wp2_with fail
        obtain ⟨z1, z2⟩ := set9 (HA.out _ HY3.out).2.1 (HRD.out _ HY3.out) (by omega) (.int .i64 0) (.int .i64 0) (.int .i64 0) (.int .i64 0) (.int .i64 0) (.int .i64 0) (.int .i64 0) (.int .i64 0) (.slice none 0 0)
        refine bodyPost_ret (res_ct Try.results58 _ _ (w.heap.size + 1) 112 #[.int .i64 0, .int .i64 0, .int .i64 0, .int .i64 0, .int .i64 0, .int .i64 0, .int .i64 0, .int .i64 0, .slice none 0 0] (0, 0) _ rfl z1 Try.underlying112 rfl info_di9) rfl ?_
        exact ⟨z2, fun _ => by rw [HN.out]; rfl, fun h => absurd h (by rw [HN.out]; decide)⟩
end Go.Proofs.Ytpaihnjgpookjaa
