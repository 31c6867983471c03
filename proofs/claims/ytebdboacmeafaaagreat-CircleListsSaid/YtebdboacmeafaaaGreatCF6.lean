/- Package firetowerref05: use, Zero. -/
import Derived.Test.YtebdboacmeafaaaGreatCF5
set_option linter.unusedVariables false
set_option linter.unusedSimpArgs false
namespace Go.Proofs.YtebdboacmeafaaaGreat
open Go Go.RowKit

/-- The code that use answers. -/
def usE (cs : List Ci) (ks : List Ck) (id lo hi : Int) : Int :=
  if ccE cs ks = 0 then (match ciF cs id with | none => 5 | some z => if (decide (hi < lo) || decide (lo < z.f) || decide (z.t < hi)) = true then 1 else 0) else ccE cs ks
def UsHit (F : Option Ci) (E lo hi : Int) (e : Ending) : Prop := ∃ z, F = some z ∧ E = 0 ∧ (lo ≤ hi ∧ z.f ≤ lo ∧ hi ≤ z.t) ∧ e = .returned (.agg #[.int .i64 z.id, .int .i64 z.x, .int .i64 z.y, .int .i64 z.f, .int .i64 z.t, .int .i64 z.lo, .int .i64 z.hi, .int .i64 z.dr, .int .i64 0])
def UsOut (cs : List Ci) (ks : List Ck) (id lo hi : Int) (w : World) (e : Ending) (w' : World) : Prop :=
  Below w.heap.size w w' ∧ (usE cs ks id lo hi ≠ 0 → e = .returned (.agg #[.int .i64 0, .int .i64 0, .int .i64 0, .int .i64 0, .int .i64 0, .int .i64 0, .int .i64 0, .int .i64 0, .int .i64 (usE cs ks id lo hi)])) ∧ (usE cs ks id lo hi = 0 → UsHit (ciF cs id) (ccE cs ks) lo hi e)
theorem info_us9 : (Tryz.prog.info? 111).map (·.size) = some 9 := by kernel_rfl
set_option maxRecDepth 100000 in
set_option maxHeartbeats 8000000 in
theorem use_any (v1 v2 : Value) (cs : List Ci) (ks : List Ck) (id lo hi : Int) (w : World) (hv1 : CiRow w v1 cs) (hv2 : CkRow w v2 ks) (hl1 : cs.length ≤ 9223372036854775807) (hl2 : ks.length ≤ 9223372036854775807) :
    Calls Tryz.prog 56 #[.agg #[v1, v2], .int .i64 id, .agg #[.int .i64 lo, .int .i64 hi]] w fun e w' => UsOut cs ks id lo hi w e w' := by
  obtain ⟨a1, c1, rfl, _⟩ := hv1.form
  obtain ⟨a2, c2, rfl, _⟩ := hv2.form
  have HCH := Lib.hid (fun w' (h : Below w.heap.size w w') => pCheck_any (.slice a1 cs.length c1) (.slice a2 ks.length c2) cs ks w' (hv1.keep h) (hv2.keep h) hl1 hl2)
  have HOK := Lib.hid (ccE_ok (cs := cs) (ks := ks))
  have H5 := Lib.hid (fun (ho : CcOk cs ks) w' (h : Below w.heap.size w w') => pfind_any (.slice a1 cs.length c1) (.slice a2 ks.length c2) cs id w' (hv1.keep h) (by have := ho.n; omega))
  have H6 : Hid (CcOk cs ks → ∀ w', Below w.heap.size w w' → ∀ z, ciF cs id = some z → Calls Tryz.prog 65 #[.agg #[.slice a1 cs.length c1, .slice a2 ks.length c2], .int .i64 id] w' fun e w'' => e = .returned (.tuple #[z.val, .bool true]) ∧ Below w'.heap.size w' w'') := Lib.hid (fun ho w' h z hz => by have h2 := H5.out ho w' h; rw [hz] at h2; exact h2)
  have H7 : Hid (CcOk cs ks → ∀ w', Below w.heap.size w w' → ciF cs id = none → Calls Tryz.prog 65 #[.agg #[.slice a1 cs.length c1, .slice a2 ks.length c2], .int .i64 id] w' fun e w'' => e = .returned (.tuple #[.agg #[.int .i64 0, .int .i64 0, .int .i64 0, .int .i64 0, .int .i64 0, .int .i64 0, .int .i64 0, .int .i64 0], .bool false]) ∧ Below w'.heap.size w' w'') := Lib.hid (fun ho w' h hz => by have h2 := H5.out ho w' h; rw [hz] at h2; exact h2)
  have HU1 : Hid (ccE cs ks ≠ 0 → usE cs ks id lo hi = ccE cs ks) := Lib.hid (fun h => by unfold usE; rw [if_neg h])
  have HU2 : Hid (ccE cs ks = 0 → ciF cs id = none → usE cs ks id lo hi = 5) := Lib.hid (fun h h2 => by unfold usE; rw [if_pos h, h2])
  have HU3 : Hid (ccE cs ks = 0 → ∀ z, ciF cs id = some z → usE cs ks id lo hi = if (decide (hi < lo) || decide (lo < z.f) || decide (z.t < hi)) = true then 1 else 0) := Lib.hid (fun h z h2 => by unfold usE; rw [if_pos h, h2])
  unfold UsOut
  obtain ⟨U, hU⟩ : ∃ U, usE cs ks id lo hi = U := ⟨_, rfl⟩
  obtain ⟨E, hE⟩ : ∃ z, ccE cs ks = z := ⟨_, rfl⟩
  obtain ⟨F, hF⟩ : ∃ z, ciF cs id = z := ⟨_, rfl⟩
  rw [hU, hE] at HU1
  rw [hU, hE, hF] at HU2 HU3
  rw [hE] at HCH HOK
  rw [hF] at H6 H7
  rw [hU, hE, hF]
  clear hv1 hv2 hU hE hF H5
  obtain ⟨x0, x1, x2, xlt, xb⟩ := cells3 w #[.slice a1 cs.length c1, .slice a2 ks.length c2] #[.int .i64 lo, .int .i64 hi] #[.int .i64 0, .int .i64 0, .int .i64 0, .int .i64 0, .int .i64 0, .int .i64 0, .int .i64 0, .int .i64 0, .int .i64 0] 25 36 111 (Below.refl _ _)
  have HNc : Hid ((((w.alloc (.cells #[.slice a1 cs.length c1, .slice a2 ks.length c2] 25)).alloc (.cells #[.int .i64 lo, .int .i64 hi] 36)).alloc (.cells #[.int .i64 0, .int .i64 0, .int .i64 0, .int .i64 0, .int .i64 0, .int .i64 0, .int .i64 0, .int .i64 0, .int .i64 0] 111)).heap[w.heap.size]? = some (.cells #[.slice a1 cs.length c1, .slice a2 ks.length c2] 25 (0, 0))) := Lib.hid x0
  have HNsp : Hid ((((w.alloc (.cells #[.slice a1 cs.length c1, .slice a2 ks.length c2] 25)).alloc (.cells #[.int .i64 lo, .int .i64 hi] 36)).alloc (.cells #[.int .i64 0, .int .i64 0, .int .i64 0, .int .i64 0, .int .i64 0, .int .i64 0, .int .i64 0, .int .i64 0, .int .i64 0] 111)).heap[w.heap.size + 1]? = some (.cells #[.int .i64 lo, .int .i64 hi] 36 (0, 0))) := Lib.hid x1
  have HNr : Hid ((((w.alloc (.cells #[.slice a1 cs.length c1, .slice a2 ks.length c2] 25)).alloc (.cells #[.int .i64 lo, .int .i64 hi] 36)).alloc (.cells #[.int .i64 0, .int .i64 0, .int .i64 0, .int .i64 0, .int .i64 0, .int .i64 0, .int .i64 0, .int .i64 0, .int .i64 0] 111)).heap[w.heap.size + 1 + 1]? = some (.cells #[.int .i64 0, .int .i64 0, .int .i64 0, .int .i64 0, .int .i64 0, .int .i64 0, .int .i64 0, .int .i64 0, .int .i64 0] 111 (0, 0))) := Lib.hid x2
  have HB : Hid (Below w.heap.size w (((w.alloc (.cells #[.slice a1 cs.length c1, .slice a2 ks.length c2] 25)).alloc (.cells #[.int .i64 lo, .int .i64 hi] 36)).alloc (.cells #[.int .i64 0, .int .i64 0, .int .i64 0, .int .i64 0, .int .i64 0, .int .i64 0, .int .i64 0, .int .i64 0, .int .i64 0] 111))) := Lib.hid xb
  obtain ⟨Z, hZ⟩ : ∃ Z, (((w.alloc (.cells #[.slice a1 cs.length c1, .slice a2 ks.length c2] 25)).alloc (.cells #[.int .i64 lo, .int .i64 hi] 36)).alloc (.cells #[.int .i64 0, .int .i64 0, .int .i64 0, .int .i64 0, .int .i64 0, .int .i64 0, .int .i64 0, .int .i64 0, .int .i64 0] 111)) = Z := ⟨_, rfl⟩
  rw [hZ] at HB HNc HNsp HNr
  have HZ := Lib.hid hZ
  clear hZ xlt xb x0 x1 x2
  go_enter Tryz.func56, Tryz.ntmps56
  go_wp2_with fail
  rw [HZ.out]
  refine (HCH.out _ HB.out).mono ?_
  rintro e w1 ⟨rfl, hb⟩
  replace HB := Lib.hid (HB.out.trans (hb.mono HB.out.size))
  replace HNc := Lib.hid ((hb.block _ (Array.getElem?_eq_some_iff.1 HNc.out).1).trans HNc.out)
  replace HNsp := Lib.hid ((hb.block _ (Array.getElem?_eq_some_iff.1 HNsp.out).1).trans HNsp.out)
  replace HNr := Lib.hid ((hb.block _ (Array.getElem?_eq_some_iff.1 HNr.out).1).trans HNr.out)
  clear hb
  by_cases hE0 : E = 0
  case neg =>
    have HN := Lib.hid (HU1.out hE0)
    have gE : (E == 0) = false := by simpa using hE0
    have HE0 := Lib.hid hE0
    clear hE0
    have zr0 := cellH HNr.out 0
    have zr1 := cellH HNr.out 1
    have zr2 := cellH HNr.out 2
    have zr3 := cellH HNr.out 3
    have zr4 := cellH HNr.out 4
    have zr5 := cellH HNr.out 5
    have zr6 := cellH HNr.out 6
    have zr7 := cellH HNr.out 7
    have zr8 := cellH HNr.out 8
    simp only [List.getElem?_toArray, List.getElem?_cons_zero, List.getElem?_cons_succ] at zr0 zr1 zr2 zr3 zr4 zr5 zr6 zr7 zr8
    have zfr := freeH HNr.out
    go_wp2_with fail
    obtain ⟨y1, y2⟩ := set9 HNr.out HB.out (by omega) (.int .i64 0) (.int .i64 0) (.int .i64 0) (.int .i64 0) (.int .i64 0) (.int .i64 0) (.int .i64 0) (.int .i64 0) (.int .i64 E)
    refine bodyPost_ret (results_cell_row Tryz.results56 _ _ (w.heap.size + 1 + 1) 111 _ (0, 0) _ rfl y1 Tryz.underlying111 rfl info_us9) rfl ?_
    exact ⟨y2, fun _ => by rw [HN.out], fun h => absurd (HN.out ▸ h) HE0.out⟩
  subst hE0
  have HCO := Lib.hid (HOK.out rfl)
  have HU4 := Lib.hid (HU3.out rfl)
  have HU5 := Lib.hid (HU2.out rfl)
  clear HU1 HU2 HU3 HOK
  rcases F with _ | ⟨z0, z1, z2, z3, z4, z5, z6, z7⟩
  · have HN : Hid (U = 5) := Lib.hid (HU5.out rfl)
    have zc0 := cellH HNc.out 0
    have zc1 := cellH HNc.out 1
    have zsp0 := cellH HNsp.out 0
    have zsp1 := cellH HNsp.out 1
    have zr0 := cellH HNr.out 0
    have zr1 := cellH HNr.out 1
    have zr2 := cellH HNr.out 2
    have zr3 := cellH HNr.out 3
    have zr4 := cellH HNr.out 4
    have zr5 := cellH HNr.out 5
    have zr6 := cellH HNr.out 6
    have zr7 := cellH HNr.out 7
    have zr8 := cellH HNr.out 8
    simp only [List.getElem?_toArray, List.getElem?_cons_zero, List.getElem?_cons_succ] at zc0 zc1 zsp0 zsp1 zr0 zr1 zr2 zr3 zr4 zr5 zr6 zr7 zr8
    go_wp2_with fail
    refine (H7.out HCO.out _ HB.out (by trivial)).mono ?_
    rintro e w2 ⟨rfl, hb⟩
    clear zc0 zc1 zsp0 zsp1 zr0 zr1 zr2 zr3 zr4 zr5 zr6 zr7 zr8
    replace HB := Lib.hid (HB.out.trans (hb.mono HB.out.size))
    replace HNc := Lib.hid ((hb.block _ (Array.getElem?_eq_some_iff.1 HNc.out).1).trans HNc.out)
    replace HNsp := Lib.hid ((hb.block _ (Array.getElem?_eq_some_iff.1 HNsp.out).1).trans HNsp.out)
    replace HNr := Lib.hid ((hb.block _ (Array.getElem?_eq_some_iff.1 HNr.out).1).trans HNr.out)
    clear hb
    have hAlc : Below w2.heap.size w2 (w2.alloc (.cells #[.int .i64 0, .int .i64 0, .int .i64 0, .int .i64 0, .int .i64 0, .int .i64 0, .int .i64 0, .int .i64 0] 93)) := (Below.refl _ w2).alloc (Nat.le_refl _) _
    have HSf : Hid (w.heap.size ≤ w2.heap.size) := Lib.hid HB.out.size
    have HNf : Hid ((w2.alloc (.cells #[.int .i64 0, .int .i64 0, .int .i64 0, .int .i64 0, .int .i64 0, .int .i64 0, .int .i64 0, .int .i64 0] 93)).heap[w2.heap.size]? = some (.cells #[.int .i64 0, .int .i64 0, .int .i64 0, .int .i64 0, .int .i64 0, .int .i64 0, .int .i64 0, .int .i64 0] 93 (0, 0))) := Lib.hid (heap_alloc_new _ _)
    replace HB := Lib.hid (HB.out.trans (hAlc.mono HB.out.size))
    have HXc_f : Hid (w.heap.size ≠ w2.heap.size) := Lib.hid (Nat.ne_of_lt (Array.getElem?_eq_some_iff.1 HNc.out).1)
    have HXsp_f : Hid (w.heap.size + 1 ≠ w2.heap.size) := Lib.hid (Nat.ne_of_lt (Array.getElem?_eq_some_iff.1 HNsp.out).1)
    have HXr_f : Hid (w.heap.size + 1 + 1 ≠ w2.heap.size) := Lib.hid (Nat.ne_of_lt (Array.getElem?_eq_some_iff.1 HNr.out).1)
    replace HNc := Lib.hid ((hAlc.block _ (Array.getElem?_eq_some_iff.1 HNc.out).1).trans HNc.out)
    replace HNsp := Lib.hid ((hAlc.block _ (Array.getElem?_eq_some_iff.1 HNsp.out).1).trans HNsp.out)
    replace HNr := Lib.hid ((hAlc.block _ (Array.getElem?_eq_some_iff.1 HNr.out).1).trans HNr.out)
    obtain ⟨af, haf⟩ : ∃ qq, w2.alloc (.cells #[.int .i64 0, .int .i64 0, .int .i64 0, .int .i64 0, .int .i64 0, .int .i64 0, .int .i64 0, .int .i64 0] 93) = qq := ⟨_, rfl⟩
    obtain ⟨bkf, hbf⟩ : ∃ qq, w2.heap.size = qq := ⟨_, rfl⟩
    rw [haf] at HB HNf HNc HNsp HNr
    rw [hbf] at HNf HSf HXc_f HXsp_f HXr_f
    clear hAlc
    have HAF := Lib.hid haf
    have zr0 := cellH HNr.out 0
    have zr1 := cellH HNr.out 1
    have zr2 := cellH HNr.out 2
    have zr3 := cellH HNr.out 3
    have zr4 := cellH HNr.out 4
    have zr5 := cellH HNr.out 5
    have zr6 := cellH HNr.out 6
    have zr7 := cellH HNr.out 7
    have zr8 := cellH HNr.out 8
    simp only [List.getElem?_toArray, List.getElem?_cons_zero, List.getElem?_cons_succ] at zr0 zr1 zr2 zr3 zr4 zr5 zr6 zr7 zr8
    have zfr := freeH HNr.out
    rw [← haf] at zr0 zr1 zr2 zr3 zr4 zr5 zr6 zr7 zr8 zfr
    clear haf hbf
    go_wp2_with fail
    rw [HAF.out]
    obtain ⟨y1, y2⟩ := set9 HNr.out HB.out (by omega) (.int .i64 0) (.int .i64 0) (.int .i64 0) (.int .i64 0) (.int .i64 0) (.int .i64 0) (.int .i64 0) (.int .i64 0) (.int .i64 5)
    refine bodyPost_ret (results_cell_row Tryz.results56 _ _ (w.heap.size + 1 + 1) 111 _ (0, 0) _ rfl y1 Tryz.underlying111 rfl info_us9) rfl ?_
    exact ⟨y2, fun _ => by rw [HN.out], fun h => by rw [HN.out] at h; cases h⟩
  have HN : Hid (U = if (decide (hi < lo) || decide (lo < z3) || decide (z4 < hi)) = true then 1 else 0) := Lib.hid (HU4.out _ rfl)
  have zc0 := cellH HNc.out 0
  have zc1 := cellH HNc.out 1
  have zsp0 := cellH HNsp.out 0
  have zsp1 := cellH HNsp.out 1
  have zr0 := cellH HNr.out 0
  have zr1 := cellH HNr.out 1
  have zr2 := cellH HNr.out 2
  have zr3 := cellH HNr.out 3
  have zr4 := cellH HNr.out 4
  have zr5 := cellH HNr.out 5
  have zr6 := cellH HNr.out 6
  have zr7 := cellH HNr.out 7
  have zr8 := cellH HNr.out 8
  simp only [List.getElem?_toArray, List.getElem?_cons_zero, List.getElem?_cons_succ] at zc0 zc1 zsp0 zsp1 zr0 zr1 zr2 zr3 zr4 zr5 zr6 zr7 zr8
  go_wp2_with fail
  refine (H6.out HCO.out _ HB.out _ rfl).mono ?_
  rintro e w3 ⟨rfl, hb⟩
  clear zc0 zc1 zsp0 zsp1 zr0 zr1 zr2 zr3 zr4 zr5 zr6 zr7 zr8
  replace HB := Lib.hid (HB.out.trans (hb.mono HB.out.size))
  replace HNc := Lib.hid ((hb.block _ (Array.getElem?_eq_some_iff.1 HNc.out).1).trans HNc.out)
  replace HNsp := Lib.hid ((hb.block _ (Array.getElem?_eq_some_iff.1 HNsp.out).1).trans HNsp.out)
  replace HNr := Lib.hid ((hb.block _ (Array.getElem?_eq_some_iff.1 HNr.out).1).trans HNr.out)
  clear hb
  have hAlc : Below w3.heap.size w3 (w3.alloc (.cells #[.int .i64 z0, .int .i64 z1, .int .i64 z2, .int .i64 z3, .int .i64 z4, .int .i64 z5, .int .i64 z6, .int .i64 z7] 93)) := (Below.refl _ w3).alloc (Nat.le_refl _) _
  have HSf : Hid (w.heap.size ≤ w3.heap.size) := Lib.hid HB.out.size
  have HNf : Hid ((w3.alloc (.cells #[.int .i64 z0, .int .i64 z1, .int .i64 z2, .int .i64 z3, .int .i64 z4, .int .i64 z5, .int .i64 z6, .int .i64 z7] 93)).heap[w3.heap.size]? = some (.cells #[.int .i64 z0, .int .i64 z1, .int .i64 z2, .int .i64 z3, .int .i64 z4, .int .i64 z5, .int .i64 z6, .int .i64 z7] 93 (0, 0))) := Lib.hid (heap_alloc_new _ _)
  replace HB := Lib.hid (HB.out.trans (hAlc.mono HB.out.size))
  have HXc_f : Hid (w.heap.size ≠ w3.heap.size) := Lib.hid (Nat.ne_of_lt (Array.getElem?_eq_some_iff.1 HNc.out).1)
  have HXsp_f : Hid (w.heap.size + 1 ≠ w3.heap.size) := Lib.hid (Nat.ne_of_lt (Array.getElem?_eq_some_iff.1 HNsp.out).1)
  have HXr_f : Hid (w.heap.size + 1 + 1 ≠ w3.heap.size) := Lib.hid (Nat.ne_of_lt (Array.getElem?_eq_some_iff.1 HNr.out).1)
  replace HNc := Lib.hid ((hAlc.block _ (Array.getElem?_eq_some_iff.1 HNc.out).1).trans HNc.out)
  replace HNsp := Lib.hid ((hAlc.block _ (Array.getElem?_eq_some_iff.1 HNsp.out).1).trans HNsp.out)
  replace HNr := Lib.hid ((hAlc.block _ (Array.getElem?_eq_some_iff.1 HNr.out).1).trans HNr.out)
  obtain ⟨af, haf⟩ : ∃ qq, w3.alloc (.cells #[.int .i64 z0, .int .i64 z1, .int .i64 z2, .int .i64 z3, .int .i64 z4, .int .i64 z5, .int .i64 z6, .int .i64 z7] 93) = qq := ⟨_, rfl⟩
  obtain ⟨bkf, hbf⟩ : ∃ qq, w3.heap.size = qq := ⟨_, rfl⟩
  rw [haf] at HB HNf HNc HNsp HNr
  rw [hbf] at HNf HSf HXc_f HXsp_f HXr_f
  clear hAlc
  have zc0 := cellH HNc.out 0
  have zc1 := cellH HNc.out 1
  have zsp0 := cellH HNsp.out 0
  have zsp1 := cellH HNsp.out 1
  have zr0 := cellH HNr.out 0
  have zr1 := cellH HNr.out 1
  have zr2 := cellH HNr.out 2
  have zr3 := cellH HNr.out 3
  have zr4 := cellH HNr.out 4
  have zr5 := cellH HNr.out 5
  have zr6 := cellH HNr.out 6
  have zr7 := cellH HNr.out 7
  have zr8 := cellH HNr.out 8
  have zf0 := cellH HNf.out 0
  have zf1 := cellH HNf.out 1
  have zf2 := cellH HNf.out 2
  have zf3 := cellH HNf.out 3
  have zf4 := cellH HNf.out 4
  have zf5 := cellH HNf.out 5
  have zf6 := cellH HNf.out 6
  have zf7 := cellH HNf.out 7
  simp only [List.getElem?_toArray, List.getElem?_cons_zero, List.getElem?_cons_succ] at zc0 zc1 zsp0 zsp1 zr0 zr1 zr2 zr3 zr4 zr5 zr6 zr7 zr8 zf0 zf1 zf2 zf3 zf4 zf5 zf6 zf7
  have zfr := freeH HNr.out
  by_cases d1 : hi < lo
  · have e1 : decide (hi < lo) = true := decide_eq_true d1
    have HN2 : Hid (U = 1) := Lib.hid (by rw [HN.out, e1]; simp)
    go_wp2_with fail
    obtain ⟨y1, y2⟩ := set9 HNr.out HB.out (by omega) (.int .i64 0) (.int .i64 0) (.int .i64 0) (.int .i64 0) (.int .i64 0) (.int .i64 0) (.int .i64 0) (.int .i64 0) (.int .i64 1)
    refine bodyPost_ret (results_cell_row Tryz.results56 _ _ (w.heap.size + 1 + 1) 111 _ (0, 0) _ rfl y1 Tryz.underlying111 rfl info_us9) rfl ?_
    exact ⟨y2, fun _ => by rw [HN2.out], fun h => by rw [HN2.out] at h; cases h⟩
  have e1 : decide (hi < lo) = false := decide_eq_false d1
  by_cases d2 : lo < z3
  · have e2 : decide (lo < z3) = true := decide_eq_true d2
    have HN2 : Hid (U = 1) := Lib.hid (by rw [HN.out, e1, e2]; simp)
    go_wp2_with fail
    obtain ⟨y1, y2⟩ := set9 HNr.out HB.out (by omega) (.int .i64 0) (.int .i64 0) (.int .i64 0) (.int .i64 0) (.int .i64 0) (.int .i64 0) (.int .i64 0) (.int .i64 0) (.int .i64 1)
    refine bodyPost_ret (results_cell_row Tryz.results56 _ _ (w.heap.size + 1 + 1) 111 _ (0, 0) _ rfl y1 Tryz.underlying111 rfl info_us9) rfl ?_
    exact ⟨y2, fun _ => by rw [HN2.out], fun h => by rw [HN2.out] at h; cases h⟩
  have e2 : decide (lo < z3) = false := decide_eq_false d2
  by_cases d3 : z4 < hi
  · have e3 : decide (z4 < hi) = true := decide_eq_true d3
    have HN2 : Hid (U = 1) := Lib.hid (by rw [HN.out, e1, e2, e3]; simp)
    go_wp2_with fail
    obtain ⟨y1, y2⟩ := set9 HNr.out HB.out (by omega) (.int .i64 0) (.int .i64 0) (.int .i64 0) (.int .i64 0) (.int .i64 0) (.int .i64 0) (.int .i64 0) (.int .i64 0) (.int .i64 1)
    refine bodyPost_ret (results_cell_row Tryz.results56 _ _ (w.heap.size + 1 + 1) 111 _ (0, 0) _ rfl y1 Tryz.underlying111 rfl info_us9) rfl ?_
    exact ⟨y2, fun _ => by rw [HN2.out], fun h => by rw [HN2.out] at h; cases h⟩
  have e3 : decide (z4 < hi) = false := decide_eq_false d3
  have HN2 : Hid (U = 0) := Lib.hid (by rw [HN.out, e1, e2, e3]; rfl)
  have HR3 : Hid (lo ≤ hi ∧ z3 ≤ lo ∧ hi ≤ z4) := Lib.hid (by omega)
  go_wp2_with fail
  obtain ⟨y1, y2⟩ := set9 HNr.out HB.out (by omega) (.int .i64 z0) (.int .i64 z1) (.int .i64 z2) (.int .i64 z3) (.int .i64 z4) (.int .i64 z5) (.int .i64 z6) (.int .i64 z7) (.int .i64 0)
  refine bodyPost_ret (results_cell_row Tryz.results56 _ _ (w.heap.size + 1 + 1) 111 _ (0, 0) _ rfl y1 Tryz.underlying111 rfl info_us9) rfl ?_
  exact ⟨y2, fun h => absurd HN2.out h, fun _ => ⟨_, rfl, rfl, HR3.out, rfl⟩⟩
/-- The worlds and frames in Zero's last region. -/
def ZerInv (W1 : World) (wz ub n1 c1 n2 c2 : Nat) (a1 a2 : Option Addr) (t z0 z1 z2 z3 z4 z5 z6 z7 lo hi : Int) (TL : List Th) (u0 u1 u4 u5 u8 u9 u10 u11 u12 u13 u14 u15 u16 u17 u18 u19 u20 u21 u22 u23 u24 u25 u26 u27 u28 u29 u30 u31 u32 u33 u34 u35 : Value) (listed : Array Bool) (a : Act) (w' : World) : Prop :=
  ∃ (l0 l1 l2 l3 l4 l5 l6 l7 l8 : Bool) (V : Value), listed = #[l0, l1, l2, l3, l4, l5, l6, l7, l8, false] ∧ a = { tmps := #[u0, u1, .int .i64 t, .pointer (some ⟨wz, 0, none⟩), u4, u5, .pointer (some ⟨wz + 1, 0, none⟩), .pointer (some ⟨ub, 0, none⟩), u8, u9, u10, u11, u12, u13, u14, u15, u16, u17, u18, u19, u20, u21, u22, u23, u24, u25, u26, pkIf l0 (.pointer (some ⟨ub, 0, none⟩)) (u27), pkIf l1 (.agg #[.int .i64 z0, .int .i64 z1, .int .i64 z2, .int .i64 z3, .int .i64 z4, .int .i64 z5, .int .i64 z6, .int .i64 z7]) (u28), pkIf l2 (.agg #[.slice a1 n1 c1, .slice a2 n2 c2]) (u29), pkIf l3 (.pointer (some ⟨ub, 0, none⟩)) (u30), pkIf l4 (.agg #[.int .i64 z0, .int .i64 z1, .int .i64 z2, .int .i64 z3, .int .i64 z4, .int .i64 z5, .int .i64 z6, .int .i64 z7]) (u31), pkIf l5 (V) (u32), pkIf l6 (.int .i64 t) (u33), pkIf l7 (.agg #[.int .i64 lo, .int .i64 hi]) (u34), pkIf l8 (.agg #[.int .i64 lo, .int .i64 hi, .int .i64 0]) (u35)], defers := [] } ∧ Below W1.heap.size W1 w' ∧ (l5 = true → TgRow w' V TL)
/-- The zeros that the reference answers, by its own lists. -/
def yrE (cs : List Ci) (ks : List Ck) (id t : Int) : Int :=
  if usE cs ks id t t = 0 then (if (gAll ((ciF cs id).getD .nil).dr (thL ((ciF cs id).getD .nil) ks) (thL ((ciF cs id).getD .nil) ks).length).isEmpty = true then 0 else 9) else usE cs ks id t t
def yrL (cs : List Ci) (ks : List Ck) (id t : Int) : Int := if yrE cs ks id t = 0 then spLo ((ciF cs id).getD .nil).dr (thL ((ciF cs id).getD .nil) ks) t else 0
def yrH (cs : List Ci) (ks : List Ck) (id t : Int) : Int := if yrE cs ks id t = 0 then spHi ((ciF cs id).getD .nil).dr (thL ((ciF cs id).getD .nil) ks) t else 0
set_option maxRecDepth 100000 in
set_option maxHeartbeats 8000000 in
theorem rZero_any (v1 v2 : Value) (cs : List Ci) (ks : List Ck) (id t : Int) (w : World) (hv1 : CiRow w v1 cs) (hv2 : CkRow w v2 ks) (hl1 : cs.length ≤ 9223372036854775807) (hl2 : ks.length ≤ 9223372036854775807) :
    Calls Tryz.prog 118 #[.agg #[v1, v2], .int .i64 id, .int .i64 t] w fun e w' => e = .returned (.agg #[.int .i64 (yrL cs ks id t), .int .i64 (yrH cs ks id t), .int .i64 (yrE cs ks id t)]) ∧ Below w.heap.size w w' := by
  obtain ⟨a1, c1, rfl, _⟩ := hv1.form
  obtain ⟨a2, c2, rfl, _⟩ := hv2.form
  have HUS := Lib.hid (fun w' (h : Below w.heap.size w w') => use_any (.slice a1 cs.length c1) (.slice a2 ks.length c2) cs ks id t t w' (hv1.keep h) (hv2.keep h) hl1 hl2)
  unfold UsOut at HUS
  have HCL := Lib.hid (fun (ho : CcOk cs ks) z (hz : ciF cs z.id = some z) w' (h : Below w.heap.size w w') => clashing_any (.slice a1 cs.length c1) (.slice a2 ks.length c2) cs ks z w' (hv1.keep h) (hv2.keep h) ho hz)
  unfold ClgOut at HCL
  have HTH := Lib.hid (fun (ho : CcOk cs ks) z (hz : ciF cs z.id = some z) w' (h : Below w.heap.size w w') => things_any (.slice a1 cs.length c1) (.slice a2 ks.length c2) cs ks z w' (hv1.keep h) (hv2.keep h) ho hz)
  unfold ThgOut at HTH
  have HMEM := Lib.hid (fun z => ciF_mem (l := cs) (id := id) (k := z))
  have HOK := Lib.hid (ccE_ok (cs := cs) (ks := ks))
  have HY1 : Hid (usE cs ks id t t ≠ 0 → yrE cs ks id t = usE cs ks id t t ∧ yrL cs ks id t = 0 ∧ yrH cs ks id t = 0) := Lib.hid (fun h => by
    have e : yrE cs ks id t = usE cs ks id t t := by unfold yrE; rw [if_neg h]
    unfold yrL yrH
    rw [e, if_neg h, if_neg h]; exact ⟨rfl, rfl, rfl⟩)
  have HY2 : Hid (usE cs ks id t t = 0 → ∀ z, ciF cs id = some z → ((gAll z.dr (thL z ks) (thL z ks).length) ≠ [] → yrE cs ks id t = 9 ∧ yrL cs ks id t = 0 ∧ yrH cs ks id t = 0) ∧ ((gAll z.dr (thL z ks) (thL z ks).length) = [] → yrE cs ks id t = 0 ∧ yrL cs ks id t = spLo z.dr (thL z ks) t ∧ yrH cs ks id t = spHi z.dr (thL z ks) t)) := Lib.hid (fun h z hz => by
    refine ⟨fun hg => ?_, fun hg => ?_⟩
    · have e : yrE cs ks id t = 9 := by
        unfold yrE; rw [if_pos h, hz, Option.getD_some, if_neg (by rw [List.isEmpty_iff]; exact hg)]
      unfold yrL yrH
      rw [e]; exact ⟨rfl, rfl, rfl⟩
    · have e : yrE cs ks id t = 0 := by
        unfold yrE; rw [if_pos h, hz, Option.getD_some, if_pos (by rw [hg]; rfl)]
      unfold yrL yrH
      rw [e, hz]; exact ⟨rfl, rfl, rfl⟩)
  obtain ⟨YE, hYE⟩ : ∃ U, yrE cs ks id t = U := ⟨_, rfl⟩
  obtain ⟨YL, hYL⟩ : ∃ U, yrL cs ks id t = U := ⟨_, rfl⟩
  obtain ⟨YH, hYH⟩ : ∃ U, yrH cs ks id t = U := ⟨_, rfl⟩
  obtain ⟨U, hU⟩ : ∃ U, usE cs ks id t t = U := ⟨_, rfl⟩
  rw [hYE, hYL, hYH, hU] at HY1 HY2
  rw [hU] at HUS
  rw [hYE, hYL, hYH]
  clear hv1 hv2 hYE hYL hYH hU
  obtain ⟨x0, x1, xlt, xb⟩ := two_cells w #[.slice a1 cs.length c1, .slice a2 ks.length c2] #[.int .i64 0, .int .i64 0, .int .i64 0] 25 145 (Below.refl _ _)
  have HNc : Hid (((w.alloc (.cells #[.slice a1 cs.length c1, .slice a2 ks.length c2] 25)).alloc (.cells #[.int .i64 0, .int .i64 0, .int .i64 0] 145)).heap[w.heap.size]? = some (.cells #[.slice a1 cs.length c1, .slice a2 ks.length c2] 25 (0, 0))) := Lib.hid x0
  have HNr : Hid (((w.alloc (.cells #[.slice a1 cs.length c1, .slice a2 ks.length c2] 25)).alloc (.cells #[.int .i64 0, .int .i64 0, .int .i64 0] 145)).heap[w.heap.size + 1]? = some (.cells #[.int .i64 0, .int .i64 0, .int .i64 0] 145 (0, 0))) := Lib.hid x1
  have HB : Hid (Below w.heap.size w ((w.alloc (.cells #[.slice a1 cs.length c1, .slice a2 ks.length c2] 25)).alloc (.cells #[.int .i64 0, .int .i64 0, .int .i64 0] 145))) := Lib.hid xb
  obtain ⟨Z, hZ⟩ : ∃ Z, ((w.alloc (.cells #[.slice a1 cs.length c1, .slice a2 ks.length c2] 25)).alloc (.cells #[.int .i64 0, .int .i64 0, .int .i64 0] 145)) = Z := ⟨_, rfl⟩
  rw [hZ] at HB HNc HNr
  have HZ := Lib.hid hZ
  clear hZ xlt xb x0 x1
  go_enter Tryz.func118, Tryz.ntmps118
  go_wp2_with fail
  rw [HZ.out]
  refine (HUS.out _ HB.out).mono ?_
  rintro e w1 ⟨hb, hu1, hu2⟩
  replace HB := Lib.hid (HB.out.trans (hb.mono HB.out.size))
  replace HNc := Lib.hid ((hb.block _ (Array.getElem?_eq_some_iff.1 HNc.out).1).trans HNc.out)
  replace HNr := Lib.hid ((hb.block _ (Array.getElem?_eq_some_iff.1 HNr.out).1).trans HNr.out)
  clear hb
  have HU1 := Lib.hid hu1
  have HU2 := Lib.hid hu2
  clear hu1 hu2
  by_cases hU0 : U = 0
  case neg =>
    obtain rfl := HU1.out hU0
    have HN := Lib.hid (HY1.out hU0)
    have gE : (U == 0) = false := by simpa using hU0
    clear hU0 HU1 HU2
    have hAlc : Below w1.heap.size w1 (w1.alloc (.cells #[.int .i64 0, .int .i64 0, .int .i64 0, .int .i64 0, .int .i64 0, .int .i64 0, .int .i64 0, .int .i64 0, .int .i64 U] 111)) := (Below.refl _ w1).alloc (Nat.le_refl _) _
    have HSu : Hid (w.heap.size ≤ w1.heap.size) := Lib.hid HB.out.size
    have HNu : Hid ((w1.alloc (.cells #[.int .i64 0, .int .i64 0, .int .i64 0, .int .i64 0, .int .i64 0, .int .i64 0, .int .i64 0, .int .i64 0, .int .i64 U] 111)).heap[w1.heap.size]? = some (.cells #[.int .i64 0, .int .i64 0, .int .i64 0, .int .i64 0, .int .i64 0, .int .i64 0, .int .i64 0, .int .i64 0, .int .i64 U] 111 (0, 0))) := Lib.hid (heap_alloc_new _ _)
    replace HB := Lib.hid (HB.out.trans (hAlc.mono HB.out.size))
    have HXc_u : Hid (w.heap.size ≠ w1.heap.size) := Lib.hid (Nat.ne_of_lt (Array.getElem?_eq_some_iff.1 HNc.out).1)
    have HXr_u : Hid (w.heap.size + 1 ≠ w1.heap.size) := Lib.hid (Nat.ne_of_lt (Array.getElem?_eq_some_iff.1 HNr.out).1)
    replace HNc := Lib.hid ((hAlc.block _ (Array.getElem?_eq_some_iff.1 HNc.out).1).trans HNc.out)
    replace HNr := Lib.hid ((hAlc.block _ (Array.getElem?_eq_some_iff.1 HNr.out).1).trans HNr.out)
    obtain ⟨au, hau⟩ : ∃ qq, w1.alloc (.cells #[.int .i64 0, .int .i64 0, .int .i64 0, .int .i64 0, .int .i64 0, .int .i64 0, .int .i64 0, .int .i64 0, .int .i64 U] 111) = qq := ⟨_, rfl⟩
    obtain ⟨bku, hbu⟩ : ∃ qq, w1.heap.size = qq := ⟨_, rfl⟩
    rw [hau] at HB HNu HNc HNr
    rw [hbu] at HNu HSu HXc_u HXr_u
    clear hAlc
    have zr0 := cellH HNr.out 0
    have zr1 := cellH HNr.out 1
    have zr2 := cellH HNr.out 2
    have zu0 := cellH HNu.out 0
    have zu1 := cellH HNu.out 1
    have zu2 := cellH HNu.out 2
    have zu3 := cellH HNu.out 3
    have zu4 := cellH HNu.out 4
    have zu5 := cellH HNu.out 5
    have zu6 := cellH HNu.out 6
    have zu7 := cellH HNu.out 7
    have zu8 := cellH HNu.out 8
    simp only [List.getElem?_toArray, List.getElem?_cons_zero, List.getElem?_cons_succ] at zr0 zr1 zr2 zu0 zu1 zu2 zu3 zu4 zu5 zu6 zu7 zu8
    have zfr := freeH HNr.out
    go_wp2_with fail
    try clear hau hbu
    obtain ⟨y1, y2⟩ := set3 HNr.out HB.out (by omega) (.int .i64 0) (.int .i64 0) (.int .i64 U)
    refine bodyPost_ret (results_cell_row Tryz.results118 _ _ (w.heap.size + 1) 145 _ (0, 0) _ rfl y1 Tryz.underlying145 rfl info_kn3) rfl ?_
    exact ⟨by rw [HN.out.1, HN.out.2.1, HN.out.2.2], y2⟩
  obtain ⟨z, hz, hcc, hr, he⟩ := HU2.out hU0
  subst he
  have hzi := (HMEM.out z hz).choose_spec.2.2
  have HCO := Lib.hid (HOK.out hcc)
  have hzz : ciF cs z.id = some z := by rw [hzi]; exact hz
  have hzo := Ci.ok_iff.1 (ciF_ok HCO.out hzz)
  have HDR := Lib.hid (show (0 ≤ z.dr ∧ z.dr ≤ 60) ∧ 0 ≤ t ∧ t ≤ 1048576 from ⟨⟨by omega, by omega⟩, by omega, by omega⟩)
  have HY3 := Lib.hid (HY2.out hU0 z hz)
  have HCL2 := Lib.hid (HCL.out HCO.out z hzz)
  have HTH2 := Lib.hid (HTH.out HCO.out z hzz)
  have HOT : Hid (∀ h ∈ thL z ks, h.ok) := Lib.hid (fun h hh => dlL_ok HCO.out hzz _ ((srtH_perm _).mem_iff.2 hh))
  have HTL := Lib.hid (thL_len (z := z) HCO.out.m)
  have HLI := Lib.hid (fun v w' hv => limits_any z v (thL z ks) t w' hv (by have := HTL.out; omega) HDR.out.1 HDR.out.2 HOT.out)
  obtain ⟨TL, hTL⟩ : ∃ T, thL z ks = T := ⟨_, rfl⟩
  obtain ⟨GA, hGA⟩ : ∃ G, gAll z.dr TL TL.length = G := ⟨_, rfl⟩
  obtain ⟨SL, hSL⟩ : ∃ G, spLo z.dr TL t = G := ⟨_, rfl⟩
  obtain ⟨SH, hSH⟩ : ∃ G, spHi z.dr TL t = G := ⟨_, rfl⟩
  rw [hTL, hGA] at HCL2
  rw [hTL, hGA, hSL, hSH] at HY3
  rw [hTL] at HTH2
  rw [hTL, hSL, hSH] at HLI
  clear hz hcc hr hzi hzz hzo HU1 HU2 HY1 HY2 HCL HTH HMEM HOK HOT HTL hTL hGA hSL hSH
  subst hU0
  obtain ⟨z0, z1, z2, z3, z4, z5, z6, z7⟩ := z
  try simp only at HCL2 HTH2 HLI
  have hAlc : Below w1.heap.size w1 (w1.alloc (.cells #[.int .i64 0, .int .i64 0, .int .i64 0, .int .i64 0, .int .i64 0, .int .i64 0, .int .i64 0, .int .i64 0, .int .i64 0] 111)) := (Below.refl _ w1).alloc (Nat.le_refl _) _
  have HSu : Hid (w.heap.size ≤ w1.heap.size) := Lib.hid HB.out.size
  have HNu : Hid ((w1.alloc (.cells #[.int .i64 0, .int .i64 0, .int .i64 0, .int .i64 0, .int .i64 0, .int .i64 0, .int .i64 0, .int .i64 0, .int .i64 0] 111)).heap[w1.heap.size]? = some (.cells #[.int .i64 0, .int .i64 0, .int .i64 0, .int .i64 0, .int .i64 0, .int .i64 0, .int .i64 0, .int .i64 0, .int .i64 0] 111 (0, 0))) := Lib.hid (heap_alloc_new _ _)
  replace HB := Lib.hid (HB.out.trans (hAlc.mono HB.out.size))
  have HXc_u : Hid (w.heap.size ≠ w1.heap.size) := Lib.hid (Nat.ne_of_lt (Array.getElem?_eq_some_iff.1 HNc.out).1)
  have HXr_u : Hid (w.heap.size + 1 ≠ w1.heap.size) := Lib.hid (Nat.ne_of_lt (Array.getElem?_eq_some_iff.1 HNr.out).1)
  replace HNc := Lib.hid ((hAlc.block _ (Array.getElem?_eq_some_iff.1 HNc.out).1).trans HNc.out)
  replace HNr := Lib.hid ((hAlc.block _ (Array.getElem?_eq_some_iff.1 HNr.out).1).trans HNr.out)
  obtain ⟨au, hau⟩ : ∃ qq, w1.alloc (.cells #[.int .i64 0, .int .i64 0, .int .i64 0, .int .i64 0, .int .i64 0, .int .i64 0, .int .i64 0, .int .i64 0, .int .i64 0] 111) = qq := ⟨_, rfl⟩
  obtain ⟨bku, hbu⟩ : ∃ qq, w1.heap.size = qq := ⟨_, rfl⟩
  rw [hau] at HB HNu HNc HNr
  rw [hbu] at HNu HSu HXc_u HXr_u
  clear hAlc
  have zu0 := cellH HNu.out 0
  have zu1 := cellH HNu.out 1
  have zu2 := cellH HNu.out 2
  have zu3 := cellH HNu.out 3
  have zu4 := cellH HNu.out 4
  have zu5 := cellH HNu.out 5
  have zu6 := cellH HNu.out 6
  have zu7 := cellH HNu.out 7
  have zu8 := cellH HNu.out 8
  simp only [List.getElem?_toArray, List.getElem?_cons_zero, List.getElem?_cons_succ] at zu0 zu1 zu2 zu3 zu4 zu5 zu6 zu7 zu8
  have zfu := freeH HNu.out
  replace HNc := Lib.hid ((heap_other au (bku) 0 (.int .i64 z0) _ HXc_u.out).trans HNc.out)
  replace HNr := Lib.hid ((heap_other au (bku) 0 (.int .i64 z0) _ HXr_u.out).trans HNr.out)
  replace HNu := Lib.hid (heap_same HNu.out 0 (.int .i64 z0))
  simp only [List.setIfInBounds_toArray, List.set_cons_zero, List.set_cons_succ] at HNu
  replace HB := Lib.hid (HB.out.setCell (p := ⟨bku, 0, none⟩) HSu.out (.int .i64 z0))
  obtain ⟨s2, hs2⟩ : ∃ X, au.setCell ⟨bku, 0, none⟩ (.int .i64 z0) = X := ⟨_, rfl⟩
  rw [hs2] at HB HNc HNr HNu
  have zu0_3 := cellH HNu.out 0
  have zu1_3 := cellH HNu.out 1
  have zu2_3 := cellH HNu.out 2
  have zu3_3 := cellH HNu.out 3
  have zu4_3 := cellH HNu.out 4
  have zu5_3 := cellH HNu.out 5
  have zu6_3 := cellH HNu.out 6
  have zu7_3 := cellH HNu.out 7
  have zu8_3 := cellH HNu.out 8
  simp only [List.getElem?_toArray, List.getElem?_cons_zero, List.getElem?_cons_succ] at zu0_3 zu1_3 zu2_3 zu3_3 zu4_3 zu5_3 zu6_3 zu7_3 zu8_3
  have zfu_3 := freeH HNu.out
  replace HNc := Lib.hid ((heap_other s2 (bku) 1 (.int .i64 z1) _ HXc_u.out).trans HNc.out)
  replace HNr := Lib.hid ((heap_other s2 (bku) 1 (.int .i64 z1) _ HXr_u.out).trans HNr.out)
  replace HNu := Lib.hid (heap_same HNu.out 1 (.int .i64 z1))
  simp only [List.setIfInBounds_toArray, List.set_cons_zero, List.set_cons_succ] at HNu
  replace HB := Lib.hid (HB.out.setCell (p := ⟨bku, 1, none⟩) HSu.out (.int .i64 z1))
  obtain ⟨s3, hs3⟩ : ∃ X, s2.setCell ⟨bku, 1, none⟩ (.int .i64 z1) = X := ⟨_, rfl⟩
  rw [hs3] at HB HNc HNr HNu
  have zu0_4 := cellH HNu.out 0
  have zu1_4 := cellH HNu.out 1
  have zu2_4 := cellH HNu.out 2
  have zu3_4 := cellH HNu.out 3
  have zu4_4 := cellH HNu.out 4
  have zu5_4 := cellH HNu.out 5
  have zu6_4 := cellH HNu.out 6
  have zu7_4 := cellH HNu.out 7
  have zu8_4 := cellH HNu.out 8
  simp only [List.getElem?_toArray, List.getElem?_cons_zero, List.getElem?_cons_succ] at zu0_4 zu1_4 zu2_4 zu3_4 zu4_4 zu5_4 zu6_4 zu7_4 zu8_4
  have zfu_4 := freeH HNu.out
  replace HNc := Lib.hid ((heap_other s3 (bku) 2 (.int .i64 z2) _ HXc_u.out).trans HNc.out)
  replace HNr := Lib.hid ((heap_other s3 (bku) 2 (.int .i64 z2) _ HXr_u.out).trans HNr.out)
  replace HNu := Lib.hid (heap_same HNu.out 2 (.int .i64 z2))
  simp only [List.setIfInBounds_toArray, List.set_cons_zero, List.set_cons_succ] at HNu
  replace HB := Lib.hid (HB.out.setCell (p := ⟨bku, 2, none⟩) HSu.out (.int .i64 z2))
  obtain ⟨s4, hs4⟩ : ∃ X, s3.setCell ⟨bku, 2, none⟩ (.int .i64 z2) = X := ⟨_, rfl⟩
  rw [hs4] at HB HNc HNr HNu
  have zu0_5 := cellH HNu.out 0
  have zu1_5 := cellH HNu.out 1
  have zu2_5 := cellH HNu.out 2
  have zu3_5 := cellH HNu.out 3
  have zu4_5 := cellH HNu.out 4
  have zu5_5 := cellH HNu.out 5
  have zu6_5 := cellH HNu.out 6
  have zu7_5 := cellH HNu.out 7
  have zu8_5 := cellH HNu.out 8
  simp only [List.getElem?_toArray, List.getElem?_cons_zero, List.getElem?_cons_succ] at zu0_5 zu1_5 zu2_5 zu3_5 zu4_5 zu5_5 zu6_5 zu7_5 zu8_5
  have zfu_5 := freeH HNu.out
  replace HNc := Lib.hid ((heap_other s4 (bku) 3 (.int .i64 z3) _ HXc_u.out).trans HNc.out)
  replace HNr := Lib.hid ((heap_other s4 (bku) 3 (.int .i64 z3) _ HXr_u.out).trans HNr.out)
  replace HNu := Lib.hid (heap_same HNu.out 3 (.int .i64 z3))
  simp only [List.setIfInBounds_toArray, List.set_cons_zero, List.set_cons_succ] at HNu
  replace HB := Lib.hid (HB.out.setCell (p := ⟨bku, 3, none⟩) HSu.out (.int .i64 z3))
  obtain ⟨s5, hs5⟩ : ∃ X, s4.setCell ⟨bku, 3, none⟩ (.int .i64 z3) = X := ⟨_, rfl⟩
  rw [hs5] at HB HNc HNr HNu
  have zu0_6 := cellH HNu.out 0
  have zu1_6 := cellH HNu.out 1
  have zu2_6 := cellH HNu.out 2
  have zu3_6 := cellH HNu.out 3
  have zu4_6 := cellH HNu.out 4
  have zu5_6 := cellH HNu.out 5
  have zu6_6 := cellH HNu.out 6
  have zu7_6 := cellH HNu.out 7
  have zu8_6 := cellH HNu.out 8
  simp only [List.getElem?_toArray, List.getElem?_cons_zero, List.getElem?_cons_succ] at zu0_6 zu1_6 zu2_6 zu3_6 zu4_6 zu5_6 zu6_6 zu7_6 zu8_6
  have zfu_6 := freeH HNu.out
  replace HNc := Lib.hid ((heap_other s5 (bku) 4 (.int .i64 z4) _ HXc_u.out).trans HNc.out)
  replace HNr := Lib.hid ((heap_other s5 (bku) 4 (.int .i64 z4) _ HXr_u.out).trans HNr.out)
  replace HNu := Lib.hid (heap_same HNu.out 4 (.int .i64 z4))
  simp only [List.setIfInBounds_toArray, List.set_cons_zero, List.set_cons_succ] at HNu
  replace HB := Lib.hid (HB.out.setCell (p := ⟨bku, 4, none⟩) HSu.out (.int .i64 z4))
  obtain ⟨s6, hs6⟩ : ∃ X, s5.setCell ⟨bku, 4, none⟩ (.int .i64 z4) = X := ⟨_, rfl⟩
  rw [hs6] at HB HNc HNr HNu
  have zu0_7 := cellH HNu.out 0
  have zu1_7 := cellH HNu.out 1
  have zu2_7 := cellH HNu.out 2
  have zu3_7 := cellH HNu.out 3
  have zu4_7 := cellH HNu.out 4
  have zu5_7 := cellH HNu.out 5
  have zu6_7 := cellH HNu.out 6
  have zu7_7 := cellH HNu.out 7
  have zu8_7 := cellH HNu.out 8
  simp only [List.getElem?_toArray, List.getElem?_cons_zero, List.getElem?_cons_succ] at zu0_7 zu1_7 zu2_7 zu3_7 zu4_7 zu5_7 zu6_7 zu7_7 zu8_7
  have zfu_7 := freeH HNu.out
  replace HNc := Lib.hid ((heap_other s6 (bku) 5 (.int .i64 z5) _ HXc_u.out).trans HNc.out)
  replace HNr := Lib.hid ((heap_other s6 (bku) 5 (.int .i64 z5) _ HXr_u.out).trans HNr.out)
  replace HNu := Lib.hid (heap_same HNu.out 5 (.int .i64 z5))
  simp only [List.setIfInBounds_toArray, List.set_cons_zero, List.set_cons_succ] at HNu
  replace HB := Lib.hid (HB.out.setCell (p := ⟨bku, 5, none⟩) HSu.out (.int .i64 z5))
  obtain ⟨s7, hs7⟩ : ∃ X, s6.setCell ⟨bku, 5, none⟩ (.int .i64 z5) = X := ⟨_, rfl⟩
  rw [hs7] at HB HNc HNr HNu
  have zu0_8 := cellH HNu.out 0
  have zu1_8 := cellH HNu.out 1
  have zu2_8 := cellH HNu.out 2
  have zu3_8 := cellH HNu.out 3
  have zu4_8 := cellH HNu.out 4
  have zu5_8 := cellH HNu.out 5
  have zu6_8 := cellH HNu.out 6
  have zu7_8 := cellH HNu.out 7
  have zu8_8 := cellH HNu.out 8
  simp only [List.getElem?_toArray, List.getElem?_cons_zero, List.getElem?_cons_succ] at zu0_8 zu1_8 zu2_8 zu3_8 zu4_8 zu5_8 zu6_8 zu7_8 zu8_8
  have zfu_8 := freeH HNu.out
  replace HNc := Lib.hid ((heap_other s7 (bku) 6 (.int .i64 z6) _ HXc_u.out).trans HNc.out)
  replace HNr := Lib.hid ((heap_other s7 (bku) 6 (.int .i64 z6) _ HXr_u.out).trans HNr.out)
  replace HNu := Lib.hid (heap_same HNu.out 6 (.int .i64 z6))
  simp only [List.setIfInBounds_toArray, List.set_cons_zero, List.set_cons_succ] at HNu
  replace HB := Lib.hid (HB.out.setCell (p := ⟨bku, 6, none⟩) HSu.out (.int .i64 z6))
  obtain ⟨s8, hs8⟩ : ∃ X, s7.setCell ⟨bku, 6, none⟩ (.int .i64 z6) = X := ⟨_, rfl⟩
  rw [hs8] at HB HNc HNr HNu
  have zu0_9 := cellH HNu.out 0
  have zu1_9 := cellH HNu.out 1
  have zu2_9 := cellH HNu.out 2
  have zu3_9 := cellH HNu.out 3
  have zu4_9 := cellH HNu.out 4
  have zu5_9 := cellH HNu.out 5
  have zu6_9 := cellH HNu.out 6
  have zu7_9 := cellH HNu.out 7
  have zu8_9 := cellH HNu.out 8
  simp only [List.getElem?_toArray, List.getElem?_cons_zero, List.getElem?_cons_succ] at zu0_9 zu1_9 zu2_9 zu3_9 zu4_9 zu5_9 zu6_9 zu7_9 zu8_9
  have zfu_9 := freeH HNu.out
  replace HNc := Lib.hid ((heap_other s8 (bku) 7 (.int .i64 z7) _ HXc_u.out).trans HNc.out)
  replace HNr := Lib.hid ((heap_other s8 (bku) 7 (.int .i64 z7) _ HXr_u.out).trans HNr.out)
  replace HNu := Lib.hid (heap_same HNu.out 7 (.int .i64 z7))
  simp only [List.setIfInBounds_toArray, List.set_cons_zero, List.set_cons_succ] at HNu
  replace HB := Lib.hid (HB.out.setCell (p := ⟨bku, 7, none⟩) HSu.out (.int .i64 z7))
  obtain ⟨s9, hs9⟩ : ∃ X, s8.setCell ⟨bku, 7, none⟩ (.int .i64 z7) = X := ⟨_, rfl⟩
  rw [hs9] at HB HNc HNr HNu
  have zu0_10 := cellH HNu.out 0
  have zu1_10 := cellH HNu.out 1
  have zu2_10 := cellH HNu.out 2
  have zu3_10 := cellH HNu.out 3
  have zu4_10 := cellH HNu.out 4
  have zu5_10 := cellH HNu.out 5
  have zu6_10 := cellH HNu.out 6
  have zu7_10 := cellH HNu.out 7
  have zu8_10 := cellH HNu.out 8
  simp only [List.getElem?_toArray, List.getElem?_cons_zero, List.getElem?_cons_succ] at zu0_10 zu1_10 zu2_10 zu3_10 zu4_10 zu5_10 zu6_10 zu7_10 zu8_10
  have zfu_10 := freeH HNu.out
  replace HNc := Lib.hid ((heap_other s9 (bku) 8 (.int .i64 0) _ HXc_u.out).trans HNc.out)
  replace HNr := Lib.hid ((heap_other s9 (bku) 8 (.int .i64 0) _ HXr_u.out).trans HNr.out)
  replace HNu := Lib.hid (heap_same HNu.out 8 (.int .i64 0))
  simp only [List.setIfInBounds_toArray, List.set_cons_zero, List.set_cons_succ] at HNu
  replace HB := Lib.hid (HB.out.setCell (p := ⟨bku, 8, none⟩) HSu.out (.int .i64 0))
  obtain ⟨s10, hs10⟩ : ∃ X, s9.setCell ⟨bku, 8, none⟩ (.int .i64 0) = X := ⟨_, rfl⟩
  rw [hs10] at HB HNc HNr HNu
  have zc0_11 := cellH HNc.out 0
  have zc1_11 := cellH HNc.out 1
  have zu0_11 := cellH HNu.out 0
  have zu1_11 := cellH HNu.out 1
  have zu2_11 := cellH HNu.out 2
  have zu3_11 := cellH HNu.out 3
  have zu4_11 := cellH HNu.out 4
  have zu5_11 := cellH HNu.out 5
  have zu6_11 := cellH HNu.out 6
  have zu7_11 := cellH HNu.out 7
  have zu8_11 := cellH HNu.out 8
  simp only [List.getElem?_toArray, List.getElem?_cons_zero, List.getElem?_cons_succ] at zc0_11 zc1_11 zu0_11 zu1_11 zu2_11 zu3_11 zu4_11 zu5_11 zu6_11 zu7_11 zu8_11
  go_wp2_with fail
  try clear hau hbu hs2 hs3 hs4 hs5 hs6 hs7 hs8 hs9 hs10
  refine (HCL2.out _ HB.out).mono ?_
  rintro e w11 ⟨gv, rfl, hG, hb⟩
  clear zu0 zu1 zu2 zu3 zu4 zu5 zu6 zu7 zu8 zfu zu0_3 zu1_3 zu2_3 zu3_3 zu4_3 zu5_3 zu6_3 zu7_3 zu8_3 zfu_3 zu0_4 zu1_4 zu2_4 zu3_4 zu4_4 zu5_4 zu6_4 zu7_4 zu8_4 zfu_4 zu0_5 zu1_5 zu2_5 zu3_5 zu4_5 zu5_5 zu6_5 zu7_5 zu8_5 zfu_5 zu0_6 zu1_6 zu2_6 zu3_6 zu4_6 zu5_6 zu6_6 zu7_6 zu8_6 zfu_6 zu0_7 zu1_7 zu2_7 zu3_7 zu4_7 zu5_7 zu6_7 zu7_7 zu8_7 zfu_7 zu0_8 zu1_8 zu2_8 zu3_8 zu4_8 zu5_8 zu6_8 zu7_8 zu8_8 zfu_8 zu0_9 zu1_9 zu2_9 zu3_9 zu4_9 zu5_9 zu6_9 zu7_9 zu8_9 zfu_9 zu0_10 zu1_10 zu2_10 zu3_10 zu4_10 zu5_10 zu6_10 zu7_10 zu8_10 zfu_10 zc0_11 zc1_11 zu0_11 zu1_11 zu2_11 zu3_11 zu4_11 zu5_11 zu6_11 zu7_11 zu8_11
  replace HB := Lib.hid (HB.out.trans (hb.mono HB.out.size))
  replace HNc := Lib.hid ((hb.block _ (Array.getElem?_eq_some_iff.1 HNc.out).1).trans HNc.out)
  replace HNr := Lib.hid ((hb.block _ (Array.getElem?_eq_some_iff.1 HNr.out).1).trans HNr.out)
  replace HNu := Lib.hid ((hb.block _ (Array.getElem?_eq_some_iff.1 HNu.out).1).trans HNu.out)
  clear hb
  obtain ⟨ga, gc, rfl, _⟩ := hG.form
  clear hG
  by_cases hG0 : 0 < GA.length
  · have HN := Lib.hid (HY3.out.1 (by intro h; rw [h] at hG0; simp at hG0))
    have hG1 : (0 : Int) < (GA.length : Int) := by omega
    have zr0 := cellH HNr.out 0
    have zr1 := cellH HNr.out 1
    have zr2 := cellH HNr.out 2
    have zu0 := cellH HNu.out 0
    have zu1 := cellH HNu.out 1
    have zu2 := cellH HNu.out 2
    have zu3 := cellH HNu.out 3
    have zu4 := cellH HNu.out 4
    have zu5 := cellH HNu.out 5
    have zu6 := cellH HNu.out 6
    have zu7 := cellH HNu.out 7
    have zu8 := cellH HNu.out 8
    simp only [List.getElem?_toArray, List.getElem?_cons_zero, List.getElem?_cons_succ] at zr0 zr1 zr2 zu0 zu1 zu2 zu3 zu4 zu5 zu6 zu7 zu8
    have zfr := freeH HNr.out
    go_wp2_with fail
    obtain ⟨y1, y2⟩ := set3 HNr.out HB.out (by omega) (.int .i64 0) (.int .i64 0) (.int .i64 9)
    refine bodyPost_ret (results_cell_row Tryz.results118 _ _ (w.heap.size + 1) 145 _ (0, 0) _ rfl y1 Tryz.underlying145 rfl info_kn3) rfl ?_
    exact ⟨by rw [HN.out.1, HN.out.2.1, HN.out.2.2], y2⟩
  have HN := Lib.hid (HY3.out.2 (List.eq_nil_of_length_eq_zero (by omega)))
  have hG1 : ¬ (0 : Int) < (GA.length : Int) := by omega
  go_wp2_with fail
  clear hG0 hG1
  have HRD : Hid (∀ W', Below w11.heap.size w11 W' → W'.cell? ⟨w.heap.size, 0, none⟩ = some (.slice a1 cs.length c1) ∧ W'.cell? ⟨w.heap.size, 1, none⟩ = some (.slice a2 ks.length c2) ∧ W'.cell? ⟨w.heap.size + 1, 0, none⟩ = some (.int .i64 0) ∧ W'.cell? ⟨w.heap.size + 1, 1, none⟩ = some (.int .i64 0) ∧ W'.cell? ⟨w.heap.size + 1, 2, none⟩ = some (.int .i64 0) ∧ W'.cell? ⟨bku, 0, none⟩ = some (.int .i64 z0) ∧ W'.cell? ⟨bku, 1, none⟩ = some (.int .i64 z1) ∧ W'.cell? ⟨bku, 2, none⟩ = some (.int .i64 z2) ∧ W'.cell? ⟨bku, 3, none⟩ = some (.int .i64 z3) ∧ W'.cell? ⟨bku, 4, none⟩ = some (.int .i64 z4) ∧ W'.cell? ⟨bku, 5, none⟩ = some (.int .i64 z5) ∧ W'.cell? ⟨bku, 6, none⟩ = some (.int .i64 z6) ∧ W'.cell? ⟨bku, 7, none⟩ = some (.int .i64 z7) ∧ W'.cell? ⟨bku, 8, none⟩ = some (.int .i64 0)) := Lib.hid (fun W' h => ⟨cellH ((h.block _ (Array.getElem?_eq_some_iff.1 HNc.out).1).trans HNc.out) 0, cellH ((h.block _ (Array.getElem?_eq_some_iff.1 HNc.out).1).trans HNc.out) 1, cellH ((h.block _ (Array.getElem?_eq_some_iff.1 HNr.out).1).trans HNr.out) 0, cellH ((h.block _ (Array.getElem?_eq_some_iff.1 HNr.out).1).trans HNr.out) 1, cellH ((h.block _ (Array.getElem?_eq_some_iff.1 HNr.out).1).trans HNr.out) 2, cellH ((h.block _ (Array.getElem?_eq_some_iff.1 HNu.out).1).trans HNu.out) 0, cellH ((h.block _ (Array.getElem?_eq_some_iff.1 HNu.out).1).trans HNu.out) 1, cellH ((h.block _ (Array.getElem?_eq_some_iff.1 HNu.out).1).trans HNu.out) 2, cellH ((h.block _ (Array.getElem?_eq_some_iff.1 HNu.out).1).trans HNu.out) 3, cellH ((h.block _ (Array.getElem?_eq_some_iff.1 HNu.out).1).trans HNu.out) 4, cellH ((h.block _ (Array.getElem?_eq_some_iff.1 HNu.out).1).trans HNu.out) 5, cellH ((h.block _ (Array.getElem?_eq_some_iff.1 HNu.out).1).trans HNu.out) 6, cellH ((h.block _ (Array.getElem?_eq_some_iff.1 HNu.out).1).trans HNu.out) 7, cellH ((h.block _ (Array.getElem?_eq_some_iff.1 HNu.out).1).trans HNu.out) 8⟩)
  refine wp_region_invtail 9 (by kernel_rfl) (by kernel_rfl) (by kernel_rfl) (by kernel_rfl) (of_decide_eq_true (by kernel_rfl)) (by kernel_rfl) (ZerInv w11 w.heap.size bku cs.length c1 ks.length c2 a1 a2 t z0 z1 z2 z3 z4 z5 z6 z7 SL SH TL _ _ _ _ _ _ _ _ _ _ _ _ _ _ _ _ _ _ _ _ _ _ _ _ _ _ _ _ _ _ _ _) ⟨false, false, false, false, false, false, false, false, false, undef, rfl, rfl, (Below.refl _ _).drew, by simp⟩ ?hend ?hstep
  case hstep =>
    rintro listed a w' i ⟨l0, l1, l2, l3, l4, l5, l6, l7, l8, V, rfl, rfl, hb, hT⟩ hi hin
    obtain ⟨hf, o', ho', hp⟩ := mem_ready.1 hi
    clear hi
    obtain ⟨zc0, zc1, zr0, zr1, zr2, zu0, zu1, zu2, zu3, zu4, zu5, zu6, zu7, zu8⟩ := HRD.out w' hb
    match i, hin with
    | 0, _ =>
      obtain rfl : l0 = false := by simpa using hf
      clear hp ho'
      unfold wpOp
      simp only [pkIf_true]
      go_simp
      exact .inl ⟨true, l1, l2, l3, l4, l5, l6, l7, l8, V, rfl, rfl, hb, hT⟩
    | 1, _ =>
      obtain rfl : l1 = false := by simpa using hf
      cases ho'
      obtain rfl : l0 = true := by simpa using hp ⟨0, .data⟩ (by simp) rfl
      clear hp
      unfold wpOp
      simp only [pkIf_true]
      go_simp
      exact .inl ⟨true, true, l2, l3, l4, l5, l6, l7, l8, V, rfl, rfl, hb, hT⟩
    | 2, _ =>
      obtain rfl : l2 = false := by simpa using hf
      clear hp ho'
      unfold wpOp
      simp only [pkIf_true]
      go_simp
      exact .inl ⟨l0, l1, true, l3, l4, l5, l6, l7, l8, V, rfl, rfl, hb, hT⟩
    | 3, _ =>
      obtain rfl : l3 = false := by simpa using hf
      clear hp ho'
      unfold wpOp
      simp only [pkIf_true]
      go_simp
      exact .inl ⟨l0, l1, l2, true, l4, l5, l6, l7, l8, V, rfl, rfl, hb, hT⟩
    | 4, _ =>
      obtain rfl : l4 = false := by simpa using hf
      cases ho'
      obtain rfl : l3 = true := by simpa using hp ⟨3, .data⟩ (by simp) rfl
      clear hp
      unfold wpOp
      simp only [pkIf_true]
      go_simp
      exact .inl ⟨l0, l1, l2, true, true, l5, l6, l7, l8, V, rfl, rfl, hb, hT⟩
    | 5, _ =>
      obtain rfl : l5 = false := by simpa using hf
      cases ho'
      obtain rfl : l2 = true := by simpa using hp ⟨2, .data⟩ (by simp) rfl
      obtain rfl : l4 = true := by simpa using hp ⟨4, .data⟩ (by simp) rfl
      clear hp
      unfold wpOp
      simp only [pkIf_true]
      go_simp
      refine .inl ((HTH2.out w' (HB.out.trans (hb.mono HB.out.size))).mono ?_)
      rintro e w9 ⟨tv, rfl, hT9, hb9⟩
      exact ⟨l0, l1, true, l3, true, true, l6, l7, l8, tv, rfl, rfl, hb.trans (hb9.mono hb.size), fun _ => hT9⟩
    | 6, _ =>
      obtain rfl : l6 = false := by simpa using hf
      clear hp ho'
      unfold wpOp
      simp only [pkIf_true]
      go_simp
      exact .inl ⟨l0, l1, l2, l3, l4, l5, true, l7, l8, V, rfl, rfl, hb, hT⟩
    | 7, _ =>
      obtain rfl : l7 = false := by simpa using hf
      cases ho'
      obtain rfl : l1 = true := by simpa using hp ⟨1, .data⟩ (by simp) rfl
      obtain rfl : l5 = true := by simpa using hp ⟨5, .data⟩ (by simp) rfl
      obtain rfl : l6 = true := by simpa using hp ⟨6, .data⟩ (by simp) rfl
      clear hp
      unfold wpOp
      simp only [pkIf_true]
      go_simp
      refine .inl ((HLI.out V w' (hT rfl)).mono ?_)
      rintro e w9 ⟨rfl, hb9⟩
      exact ⟨l0, true, l2, l3, l4, true, true, true, l8, V, rfl, rfl, hb.trans (hb9.mono hb.size), fun h => (hT h).keep hb9⟩
    | 8, _ =>
      obtain rfl : l8 = false := by simpa using hf
      cases ho'
      obtain rfl : l7 = true := by simpa using hp ⟨7, .data⟩ (by simp) rfl
      clear hp
      unfold wpOp
      simp only [pkIf_true]
      go_simp
      exact .inl ⟨l0, l1, l2, l3, l4, l5, l6, true, true, V, rfl, rfl, hb, hT⟩
  case hend =>
    rintro listed a w9 ⟨l0, l1, l2, l3, l4, l5, l6, l7, l8, V, rfl, rfl, hb, hT⟩ hall
    have hal : l0 = true ∧ l1 = true ∧ l2 = true ∧ l3 = true ∧ l4 = true ∧ l5 = true ∧ l6 = true ∧ l7 = true ∧ l8 = true := ⟨by simpa using hall 0 (by decide), by simpa using hall 1 (by decide), by simpa using hall 2 (by decide), by simpa using hall 3 (by decide), by simpa using hall 4 (by decide), by simpa using hall 5 (by decide), by simpa using hall 6 (by decide), by simpa using hall 7 (by decide), by simpa using hall 8 (by decide)⟩
    obtain ⟨rfl, rfl, rfl, rfl, rfl, rfl, rfl, rfl, rfl⟩ := hal
    simp only [pkIf_true, List.drop_succ_cons, List.drop_zero]
    clear hall hT
    replace HB := Lib.hid (HB.out.trans (hb.mono HB.out.size))
    replace HNc := Lib.hid ((hb.block _ (Array.getElem?_eq_some_iff.1 HNc.out).1).trans HNc.out)
    replace HNr := Lib.hid ((hb.block _ (Array.getElem?_eq_some_iff.1 HNr.out).1).trans HNr.out)
    replace HNu := Lib.hid ((hb.block _ (Array.getElem?_eq_some_iff.1 HNu.out).1).trans HNu.out)
    clear hb
    have zr0 := cellH HNr.out 0
    have zr1 := cellH HNr.out 1
    have zr2 := cellH HNr.out 2
    simp only [List.getElem?_toArray, List.getElem?_cons_zero, List.getElem?_cons_succ] at zr0 zr1 zr2
    have zfr := freeH HNr.out
    go_wp2_with fail
    obtain ⟨y1, y2⟩ := set3 HNr.out HB.out (by omega) (.int .i64 SL) (.int .i64 SH) (.int .i64 0)
    refine bodyPost_ret (results_cell_row Tryz.results118 _ _ (w.heap.size + 1) 145 _ (0, 0) _ rfl y1 Tryz.underlying145 rfl info_kn3) rfl ?_
    exact ⟨by rw [HN.out.1, HN.out.2.1, HN.out.2.2], y2⟩
end Go.Proofs.YtebdboacmeafaaaGreat
