/- Covered of both packages. -/
import Derived.Test.YtnacgogcbbpjmaaGreatHV2
import Derived.Test.YtnacgogcbbpjmaaGreatHS1
import Derived.Test.YtnacgogcbbpjmaaGreatHQ1
set_option linter.unusedVariables false
set_option linter.unusedSimpArgs false
namespace Go.Proofs.YtnacgogcbbpjmaaGreat
open Go Go.RowKit

/-- The first places that at least so many towers see, by the towers alone. -/
def cvT (tw : Int) (g : List Int) (wd : Int) (T : List Tw) (rise far : Int) : Nat → List Pl
  | 0 => []
  | k + 1 => if tw ≤ ((T.countP fun t => seB g wd t (plI wd k) rise far : Nat) : Int) then cvT tw g wd T rise far k ++ [plI wd k] else cvT tw g wd T rise far k
theorem cvT_len (tw : Int) (g : List Int) (wd : Int) (T : List Tw) (rise far : Int) : ∀ k, (cvT tw g wd T rise far k).length ≤ k
  | 0 => by simp [cvT]
  | k + 1 => by
    have := cvT_len tw g wd T rise far k
    rw [cvT]; split
    · simp; omega
    · omega
theorem ones_wm {g : List Int} {wd : Int} {L T : List Tw} {rise far : Int} (h : Ord L T) (hn : L.length ≤ 12) (k : Nat) : onesN (wmN g wd L rise far k) = T.countP fun t => seB g wd t (plI wd k) rise far := by
  unfold wmN
  rw [onesN_mTo _ hn, ← h.1.countP_eq]
  exact countP_getD L .nil (fun t => seB g wd t (plI wd k) rise far)
theorem cvL_cvT {tw : Int} {g : List Int} {wd : Int} {L T : List Tw} {rise far : Int} (h : Ord L T) (hn : L.length ≤ 12) : ∀ k, cvL tw g wd L rise far k = cvT tw g wd T rise far k
  | 0 => rfl
  | k + 1 => by rw [cvL, cvT, cvL_cvT h hn k, ones_wm h hn k]
theorem cntB_range (f : Nat → Nat → Bool) (k : Nat) : ∀ n, cntB f k n = (List.range n).countP fun i => f i k
  | 0 => by simp [cntB]
  | n + 1 => by
    rw [cntB, cntB_range f k n, List.range_succ, List.countP_append, List.countP_singleton]
    split <;> simp_all
theorem cntB_is {g : List Int} {wd : Int} {T : List Tw} {rise far : Int} (k : Nat) : cntB (fun i k => seB g wd (T.getD i .nil) (plI wd k) rise far) k T.length = T.countP fun t => seB g wd t (plI wd k) rise far := by
  rw [cntB_range]
  exact countP_getD T .nil (fun t => seB g wd t (plI wd k) rise far)
def cwE (wd hg : Int) (g : List Int) (T : List Tw) (H : List Hz) (rise tick tw : Int) : Int := if cvE wd hg g T H rise tick = 0 then (if wiB tw 1 12 = true then 0 else 1) else cvE wd hg g T H rise tick
set_option maxRecDepth 100000 in
set_option maxHeartbeats 8000000 in
theorem Covered_arg (wd hg : Int) (o tv hv : Value) (g : List Int) (T : List Tw) (H : List Hz) (rise tick tw : Int) (w : World) (ho : INRow w o g) (hl : g.length ≤ 9223372036854775807) (ht : TwRow w tv T) (htl : T.length ≤ 9223372036854775807) (hh : HzRow w hv H) (hhl : H.length ≤ 9223372036854775807) (hcv : cvE wd hg g T H rise tick = 0) (htw : wiB tw 1 12 = false) :
    Calls Tryz.prog 13 #[coV wd hg o tv hv, .int .i64 rise, .int .i64 tick, .int .i64 tw] w fun e w' => e = .returned (.tuple #[.slice none 0 0, .int .i64 1]) ∧ Below w.heap.size w w' := by
  have HCV := Lib.hid (fun w' (h : Below w.heap.size w w') => by have := checkView_any wd hg o tv hv g T H rise tick w' (ho.keep h) hl (ht.keep h) htl (hh.keep h) hhl; rw [hcv] at this; exact this)
  have HWI : Hid (∀ w', Calls Tryz.prog 47 #[.int .i64 tw, .int .i64 1, .int .i64 12] w' fun e w'' => e = .returned (.bool false) ∧ w'' = w') := Lib.hid (fun w' => by have := within_any tw 1 12 w'; rw [htw] at this; exact this)
  obtain ⟨W1, hW1, hb0, hs1, hrd⟩ := co_reads w wd hg o tv hv
  have HW1 := Lib.hid hW1; have HB0 := Lib.hid hb0; have HRD := Lib.hid hrd
  clear hW1 hb0 hs1 hrd ho ht hh hl htl hhl hcv htw
  unfold coV at HCV
  unfold coV
  go_enter Tryz.func13, Tryz.ntmps13
  go_wp2_with fail
  rw [← HW1.out]
  obtain ⟨q0, q1, q2, q3, q4⟩ := HRD.out W1 (Below.refl _ _)
  go_wp2_with fail
  refine (HCV.out _ HB0.out).mono ?_
  rintro e w2 ⟨rfl, hb2⟩
  have HB2 := Lib.hid (HB0.out.trans (hb2.mono HB0.out.size))
  clear hb2 q0 q1 q2 q3 q4
  go_wp2_with fail
  refine (HWI.out _).mono ?_
  rintro e w3 ⟨rfl, rfl⟩
  go_wp2_with fail
  go_ret2
  exact ⟨rfl, HB2.out⟩
theorem Covered_all (wd hg : Int) (o tv hv : Value) (g : List Int) (T : List Tw) (H : List Hz) (rise tick tw : Int) (w : World) (ho : INRow w o g) (hl : g.length ≤ 9223372036854775807) (ht : TwRow w tv T) (htl : T.length ≤ 9223372036854775807) (hh : HzRow w hv H) (hhl : H.length ≤ 9223372036854775807) :
    Calls Tryz.prog 13 #[coV wd hg o tv hv, .int .i64 rise, .int .i64 tick, .int .i64 tw] w fun e w' => ∃ v', e = .returned (.tuple #[v', .int .i64 (cwE wd hg g T H rise tick tw)]) ∧ Below w.heap.size w w' ∧ (cwE wd hg g T H rise tick tw ≠ 0 → v' = .slice none 0 0) ∧
      (cwE wd hg g T H rise tick tw = 0 → w'.ownsRow w.heap.size 30 2 v' (cvT tw g wd T rise (faO H tick) g.length).length ((cvT tw g wd T rise (faO H tick) g.length).flatMap encP)) := by
  by_cases hcv : cvE wd hg g T H rise tick = 0
  · cases htw : wiB tw 1 12
    · refine (Covered_arg wd hg o tv hv g T H rise tick tw w ho hl ht htl hh hhl hcv htw).mono fun e w' ⟨h1, h2⟩ => ?_
      have hE : cwE wd hg g T H rise tick tw = 1 := by unfold cwE; rw [if_pos hcv, htw]; rfl
      rw [hE]
      exact ⟨_, h1, h2, fun _ => rfl, fun h => by cases h⟩
    · refine (Covered_ok wd hg o tv hv g T H rise tick tw w ho hl ht htl hh hhl hcv htw).mono fun e w' ⟨v', L, h1, h2, h3, h4⟩ => ?_
      have hE : cwE wd hg g T H rise tick tw = 0 := by unfold cwE; rw [if_pos hcv, htw]; rfl
      rw [hE]
      have hn : L.length ≤ 12 := by have h5 := h3.1.length_eq; have h6 := (ckE_ok (cvE_ok hcv).1).2.1; omega
      exact ⟨v', h1, h2, fun h => absurd rfl h, fun _ => by rw [← cvL_cvT h3 hn]; exact h4⟩
  · refine (Covered_bad wd hg o tv hv g T H rise tick tw w ho hl ht htl hh hhl hcv).mono fun e w' ⟨h1, h2⟩ => ?_
    have hE : cwE wd hg g T H rise tick tw = cvE wd hg g T H rise tick := by unfold cwE; rw [if_neg hcv]
    rw [hE]
    exact ⟨_, h1, h2, fun _ => rfl, fun h => absurd h hcv⟩
theorem info_pcs4 : (Tryz.prog.info? 47).map (·.size) = some 2 := by kernel_rfl
/-- What the reference's Covered returns. -/
def CwOut (EW tw : Int) (g : List Int) (wd : Int) (T : List Tw) (rise fa : Int) (w : World) (e : Ending) (w' : World) : Prop :=
  ∃ va n c, e = .returned (.agg #[.slice va n c, .int .i64 EW]) ∧ Below w.heap.size w w' ∧ (EW ≠ 0 → Value.slice va n c = .slice none 0 0) ∧
    (EW = 0 → w'.ownsRow w.heap.size 30 2 (.slice va n c) (cvT tw g wd T rise fa g.length).length ((cvT tw g wd T rise fa g.length).flatMap encP))
set_option maxRecDepth 100000 in
set_option maxHeartbeats 8000000 in
theorem rCovered_any (wd hg : Int) (o tv hv : Value) (g : List Int) (T : List Tw) (H : List Hz) (rise tick tw : Int) (w : World) (ho : INRow w o g) (hl : g.length ≤ 9223372036854775807) (ht : TwRow w tv T) (htl : T.length ≤ 9223372036854775807) (hh : HzRow w hv H) (hhl : H.length ≤ 9223372036854775807) :
    Calls Tryz.prog 14 #[coV wd hg o tv hv, .int .i64 rise, .int .i64 tick, .int .i64 tw] w fun e w' => CwOut (cwE wd hg g T H rise tick tw) tw g wd T rise (faO H tick) w e w' := by
  have HCV := Lib.hid (fun w' (h : Below w.heap.size w w') => timed_any wd hg o tv hv g T H rise tick w' (ho.keep h) hl (ht.keep h) htl (hh.keep h) hhl)
  have HST := Lib.hid (fun (hcv : cvE wd hg g T H rise tick = 0) w' (h : Below w.heap.size w w') => rSets_any wd hg o tv hv g T H rise tick w' (ho.keep h) (ht.keep h) (hh.keep h) (cvE_ok hcv).1 (cvE_ok hcv).2)
  have HM := Lib.hid (fun (hcv : cvE wd hg g T H rise tick = 0) => And.intro (ckE_ok (cvE_ok hcv).1).1 (ckE_ok (cvE_ok hcv).1).2.1)
  obtain ⟨oa, oc, rfl, _⟩ := ho.form
  have HA : Hid (∀ W', Below ((w.alloc (.cells #[.int .i64 wd, .int .i64 hg, .slice oa g.length oc, tv, hv] 28)).alloc (.cells #[.slice none 0 0, .int .i64 0] 47)).heap.size ((w.alloc (.cells #[.int .i64 wd, .int .i64 hg, .slice oa g.length oc, tv, hv] 28)).alloc (.cells #[.slice none 0 0, .int .i64 0] 47)) W' → W'.cell? ⟨w.heap.size, 0, none⟩ = some (.int .i64 wd) ∧ W'.cell? ⟨w.heap.size, 1, none⟩ = some (.int .i64 hg) ∧ W'.cell? ⟨w.heap.size, 2, none⟩ = some (.slice oa g.length oc) ∧ W'.cell? ⟨w.heap.size, 3, none⟩ = some tv ∧ W'.cell? ⟨w.heap.size, 4, none⟩ = some hv ∧ W'.heap[w.heap.size + 1]? = some (Obj.cells #[.slice none 0 0, .int .i64 0] 47 (0, 0)) ∧ Below w.heap.size w W') := Lib.hid (fun W' h => by
    obtain ⟨a, b, _, d⟩ := two_cells w _ _ _ _ h
    exact ⟨cellH a 0, cellH a 1, cellH a 2, cellH a 3, cellH a 4, b, d⟩)
  obtain ⟨W1, hW1⟩ : ∃ X, (w.alloc (.cells #[.int .i64 wd, .int .i64 hg, .slice oa g.length oc, tv, hv] 28)).alloc (.cells #[.slice none 0 0, .int .i64 0] 47) = X := ⟨_, rfl⟩
  rw [hW1] at HA
  have HW1 := Lib.hid hW1
  have HRD := HA
  have HB0 := Lib.hid (HA.out W1 (Below.refl _ _)).2.2.2.2.2.2
  have HRES : Hid (∀ (W : World) (E : Int), Below W1.heap.size W1 W → (((W.setCell ⟨w.heap.size + 1, 0, none⟩ (.slice none 0 0)).setCell ⟨w.heap.size + 1, 1, none⟩ (.int .i64 E)).heap[w.heap.size + 1]? = some (Obj.cells #[.slice none 0 0, .int .i64 E] 47 (0, 0)) ∧ Below w.heap.size w ((W.setCell ⟨w.heap.size + 1, 0, none⟩ (.slice none 0 0)).setCell ⟨w.heap.size + 1, 1, none⟩ (.int .i64 E)))) := Lib.hid (fun W E h => by
    obtain ⟨_, _, _, _, _, m, d⟩ := HA.out W h
    exact ⟨heap_same (heap_same m 0 _) 1 _, (d.setCell (p := ⟨w.heap.size + 1, 0, none⟩) (by simp only; omega) _).setCell (p := ⟨w.heap.size + 1, 1, none⟩) (by simp only; omega) _⟩)
  clear hW1 HA ho ht hh hl htl hhl
  unfold cwE
  obtain ⟨E, hE⟩ : ∃ z, cvE wd hg g T H rise tick = z := ⟨_, rfl⟩
  rw [hE] at HCV HST HM ⊢
  obtain ⟨fa, hf⟩ : ∃ z, faO H tick = z := ⟨_, rfl⟩
  rw [hf] at HST ⊢
  clear hE hf
  by_cases hE0 : E = 0
  case neg =>
    have qe : (E != 0) = true := by simpa using hE0
    have HE0 := Lib.hid hE0
    clear hE0 HST HM
    unfold coV at HCV
    unfold coV
    go_enter Tryz.func14, Tryz.ntmps14
    go_wp2_with fail
    rw [HW1.out]
    obtain ⟨q0, q1, q2, q3, q4, _, _⟩ := HRD.out W1 (Below.refl _ _)
    go_wp2_with fail
    refine (HCV.out _ HB0.out).mono ?_
    rintro e w2 ⟨rfl, hb2⟩
    have HD2 := Lib.hid hb2
    obtain ⟨_, _, _, _, _, hr, _⟩ := HRD.out _ hb2
    have v0 := cellH hr 0
    have v1 := cellH hr 1
    have vf := freeH hr
    simp at v0 v1
    clear hr hb2 q0 q1 q2 q3 q4
    go_wp2_with fail
    refine bodyPost_ret (results_cell_row Tryz.results14 _ _ (w.heap.size + 1) 47 #[.slice none 0 0, .int .i64 E] (0, 0) _ rfl (HRES.out _ E HD2.out).1 Tryz.underlying47 rfl info_pcs4) rfl ?_
    unfold CwOut
    exact ⟨_, _, _, by first | rfl | rw [if_neg HE0.out], (HRES.out _ E HD2.out).2, fun _ => rfl, fun h => by first | exact absurd h HE0.out | (rw [if_neg HE0.out] at h; exact absurd h HE0.out)⟩
  subst hE0
  obtain ⟨hm, hn12⟩ := HM.out rfl
  have HST2 := Lib.hid (fun w' h => HST.out rfl w' h)
  clear HST HM
  obtain ⟨a1, a2, a3, a4, a5, _⟩ := vmB_ok hm
  obtain ⟨wn, rfl⟩ : ∃ n : Nat, wd = n := ⟨wd.toNat, by omega⟩
  obtain ⟨hn, rfl⟩ : ∃ n : Nat, hg = n := ⟨hg.toNat, by omega⟩
  have hgl : g.length = hn * wn := by
    rw [← Int.natCast_mul] at a5
    rw [Nat.mul_comm]; exact Int.natCast_inj.1 a5
  have hgm : g.length ≤ 2401 := by
    have : wn * hn ≤ 49 * 49 := Nat.mul_le_mul (by omega) (by omega)
    rw [hgl, Nat.mul_comm]; omega
  have HGM := Lib.hid hgm
  have HWH := Lib.hid (fun w' => by have h2 := rwhole_any wn hn (.slice oa g.length oc) w' (by omega) (by omega) ⟨_, _, _, rfl⟩; rw [← hgl] at h2; exact h2)
  have HCC := Lib.hid (fun v k w' (h : BbRow w' v T.length g.length (fun i k => seB g wn (T.getD i .nil) (plI wn k) rise fa)) (hk : k < g.length) => by have h2 := rcount_any v T.length g.length _ k w' h hk (by omega) (by omega); rw [cntB_is] at h2; exact h2)
  obtain ⟨F, hF⟩ : ∃ F : Nat → Nat → Bool, F = fun i k => seB g wn (T.getD i .nil) (plI wn k) rise fa := ⟨_, rfl⟩
  rw [← hF] at HST2 HCC
  have HCL : Hid (∀ k, (T.countP fun t => seB g wn t (plI wn k) rise fa) ≤ 12) := Lib.hid (fun k => Nat.le_trans List.countP_le_length hn12)
  clear hm a1 a2 a3 a4 a5 hgl hgm hF hn12
  obtain ⟨c1, hc1⟩ : ∃ b, decide (tw < 1) = b := ⟨_, rfl⟩
  obtain ⟨c2, hc2⟩ : ∃ b, decide (12 < tw) = b := ⟨_, rfl⟩
  have HWI : Hid (wiB tw 1 12 = (!c1 && !c2)) := Lib.hid (by
    unfold wiB
    rw [← hc1, ← hc2]
    by_cases h1 : tw < 1 <;> by_cases h2 : 12 < tw <;> simp [h1, h2] <;> omega)
  rw [HWI.out]
  clear HWI
  unfold coV at HCV HST2
  unfold coV
  go_enter Tryz.func14, Tryz.ntmps14
  go_wp2_with fail
  rw [HW1.out]
  obtain ⟨q0, q1, q2, q3, q4, _, _⟩ := HRD.out W1 (Below.refl _ _)
  go_wp2_with fail
  refine (HCV.out _ HB0.out).mono ?_
  rintro e w2 ⟨rfl, hb2⟩
  have HD2 := Lib.hid hb2
  have HB2 := Lib.hid (HB0.out.trans (hb2.mono HB0.out.size))
  clear hb2 q0 q1 q2 q3 q4
  by_cases hcc : (c1 || c2) = true
  · obtain ⟨_, _, _, _, _, hr, _⟩ := HRD.out _ HD2.out
    have v0 := cellH hr 0
    have v1 := cellH hr 1
    have vf := freeH hr
    simp at v0 v1
    clear hr
    have HFIN := Lib.hid (HRES.out _ 1 HD2.out)
    cases c1
    · cases c2
      · cases hcc
      · clear hcc
        go_wp2_with fail
        refine bodyPost_ret (results_cell_row Tryz.results14 _ _ (w.heap.size + 1) 47 #[.slice none 0 0, .int .i64 1] (0, 0) _ rfl HFIN.out.1 Tryz.underlying47 rfl info_pcs4) rfl ?_
        unfold CwOut
        exact ⟨_, _, _, rfl, HFIN.out.2, fun _ => rfl, fun h => by cases h⟩
    · clear hcc hc2
      go_wp2_with fail
      refine bodyPost_ret (results_cell_row Tryz.results14 _ _ (w.heap.size + 1) 47 #[.slice none 0 0, .int .i64 1] (0, 0) _ rfl HFIN.out.1 Tryz.underlying47 rfl info_pcs4) rfl ?_
      unfold CwOut
      exact ⟨_, _, _, rfl, HFIN.out.2, fun _ => rfl, fun h => by cases h⟩
  obtain ⟨rfl, rfl⟩ : c1 = false ∧ c2 = false := by simpa using hcc
  clear hcc
  obtain ⟨q0, q1, q2, q3, q4, _, _⟩ := HRD.out w2 HD2.out
  go_wp2_with fail
  refine (HWH.out _).mono ?_
  rintro e w5 ⟨v5, rfl, hb5, hown⟩
  have hown2 : w5.ownsRow w2.heap.size 30 2 v5 (plN wn g.length).length ((plN wn g.length).flatMap encP) := by rw [plN_len]; exact hown
  have HPR := Lib.hid (PlRow.of_own hown2)
  have HD5 := Lib.hid (HD2.out.trans (hb5.mono HD2.out.size))
  have HB5 := Lib.hid (HB2.out.trans (hb5.mono HB2.out.size))
  clear hb5 hown hown2 q0 q1 q2 q3 q4
  obtain ⟨q0, q1, q2, q3, q4, _, _⟩ := HRD.out w5 HD5.out
  go_wp2_with fail
  refine (HST2.out _ HB5.out).mono ?_
  rintro e w6 ⟨v6, rfl, hb6, hbb⟩
  have HPR6 := Lib.hid (HPR.out.keep hb6)
  have HBB := Lib.hid hbb
  have HD6 := Lib.hid (HD5.out.trans (hb6.mono HD5.out.size))
  have HB6 := Lib.hid (HB5.out.trans (hb6.mono HB5.out.size))
  clear HPR hb6 hbb q0 q1 q2 q3 q4
  obtain ⟨pa, pc, rfl, hpc⟩ := HPR6.out.form
  rw [plN_len] at hpc ⊢
  have HPC := Lib.hid hpc
  clear hpc
  obtain ⟨i0, hi0, hz0, hz1, hz2⟩ := info_parts info_pl3
  go_wp2_with fail
  go_loopw [12, 13] (fun v i wr => ∃ (k : Nat), k ≤ g.length ∧ i = .int .i64 k ∧ Hid (Below w6.heap.size w6 wr) ∧ Hid (wr.ownsRow w6.heap.size 30 2 v (cvT tw g wn T rise fa k).length ((cvT tw g wn T rise fa k).flatMap encP))) (fun _ i _ => g.length - (intOf i).toNat)
  case atStart => exact ⟨0, Nat.zero_le _, rfl, Lib.hid (Below.refl _ _), Lib.hid (World.ownsRow_nil _ _ _ _)⟩
  case round =>
    obtain ⟨k, hk, rfl, hB, hO⟩ := hrel
    by_cases hkl : k < g.length
    · obtain ⟨pb, po, rfl, _, hpb, d0, d1⟩ := HPC.out k hkl
      have hki : (k : Int) < g.length := by omega
      have hk0 : (0 : Int) ≤ k := by omega
      rw [plN_get hkl] at d0 d1
      have e0 := (hB.out.cell (p := ⟨pb, _, none⟩) hpb).trans d0
      have e1 := (hB.out.cell (p := ⟨pb, _, none⟩) hpb).trans d1
      have HLN := Lib.hid (cvT_len tw g wn T rise fa k)
      have HCK := Lib.hid (fun w' (h : Below w6.heap.size w6 w') => HCC.out v6 k w' (HBB.out.keep h) hkl)
      have hcl := HCL.out k
      have HN : Hid (cvT tw g wn T rise fa (k + 1) = if tw ≤ ((T.countP fun t => seB g wn t (plI wn k) rise fa : Nat) : Int) then cvT tw g wn T rise fa k ++ [plI wn k] else cvT tw g wn T rise fa k) := Lib.hid rfl
      obtain ⟨cn, hcn⟩ : ∃ n, (T.countP fun t => seB g wn t (plI wn k) rise fa) = n := ⟨_, rfl⟩
      rw [hcn] at HCK HN hcl
      obtain ⟨⟨x, y⟩, hxy⟩ : ∃ q, plI wn k = q := ⟨_, rfl⟩
      rw [hxy] at e0 e1 HN
      simp only at e0 e1
      obtain ⟨K', hK'⟩ : ∃ l, cvT tw g wn T rise fa (k + 1) = l := ⟨_, rfl⟩
      have HKP := Lib.hid hK'
      obtain ⟨dl, hdl⟩ : ∃ l, cvT tw g wn T rise fa k = l := ⟨_, rfl⟩
      rw [hK', hdl] at HN
      rw [hdl] at hO HLN
      have hgm := HGM.out
      clear hcn hxy hK' hdl d0 d1 hpb
      go_wp2_with fail
      refine (HCK.out _ hB.out).mono ?_
      rintro e w7 ⟨rfl, hb7⟩
      have HB7 := Lib.hid (hB.out.trans (hb7.mono hB.out.size))
      have HO7 := Lib.hid (own_below hO.out hb7)
      have hs7 := hB.out.size
      have f0 := (hb7.cell (p := ⟨pb, po + k * 2, none⟩) (World.block_lt_of_cell? _ _ e0)).trans e0
      have f1 := (hb7.cell (p := ⟨pb, po + k * 2 + 1, none⟩) (World.block_lt_of_cell? _ _ e1)).trans e1
      clear hb7 e0 e1 hs7
      by_cases hz : tw ≤ (cn : Int)
      · have g1 : decide (tw ≤ (cn : Int)) = true := decide_eq_true hz
        have g2 : decide ((cn : Int) ≥ tw) = true := decide_eq_true hz
        have HNN : Hid (K' = dl ++ [(x, y)]) := Lib.hid (by rw [HN.out, if_pos hz])
        have hlen := HLN.out
        have h63 : dl.length + 1 ≤ maxLen := by unfold maxLen; omega
        have hby : (dl.length + 1) * 16 ≤ 140737488355328 := by omega
        have hbase : w6.heap.size ≤ w7.heap.size := HB7.out.size
        have hO6 := HO7.out
        clear hlen HN
        go_wp2_with (at_builtin; refine wpList_append_own _ rfl _ _ 43 rfl w6.heap.size 30 i0 (.agg #[.int .i64 0, .int .i64 0]) 2 16 Tryz.underlying43 hi0 hz0 hz1 hz2 rfl (by decide) _ _ _ rfl (World.ownsRow.alloc hO6 _) ⟨w7.heap.size, 0, none⟩ 1 1 [.int .i64 x, .int .i64 y] rfl rfl (fun j u h => cell_two' _ _ _ _ j u h) (by simp [Value.oneCell']) h63 hby (by simp; omega) ?_; intro v' w8 hown' hgrow _)
        have HB8 : Hid (Below w6.heap.size w6 w8) := Lib.hid ((HB7.out.alloc hbase _).grown hgrow (by simp; omega) (fun j e => (World.ownsRow.lt hO6 j e).1))
        have HO8 : Hid (w8.ownsRow w6.heap.size 30 2 v' (cvT tw g wn T rise fa (k + 1)).length ((cvT tw g wn T rise fa (k + 1)).flatMap encP)) := Lib.hid (by
          rw [HKP.out, HNN.out, List.length_append, List.flatMap_append]; exact hown')
        clear hown' hgrow hO6 f0 f1 g1 g2 HKP HNN
        go_wp2_with fail
        go_roundw
        case rel => exact ⟨k + 1, by omega, by go_num, HB8, HO8⟩
        case measure => simp [intOf]; omega
      · have g1 : decide (tw ≤ (cn : Int)) = false := decide_eq_false hz
        have g2 : decide ((cn : Int) ≥ tw) = false := decide_eq_false hz
        have hO9 : Hid (w7.ownsRow w6.heap.size 30 2 u12 (cvT tw g wn T rise fa (k + 1)).length ((cvT tw g wn T rise fa (k + 1)).flatMap encP)) := Lib.hid (by rw [HKP.out, HN.out, if_neg hz]; exact HO7.out)
        clear HN HKP f0 f1
        go_wp2_with fail
        go_roundw
        case rel => exact ⟨k + 1, by omega, by go_num, HB7, hO9⟩
        case measure => simp [intOf]; omega
    · obtain rfl : k = g.length := by omega
      have HDR := Lib.hid (HD6.out.trans (hB.out.mono HD6.out.size))
      have HOW := Lib.hid (own_base hO.out HB6.out.size)
      obtain ⟨va, vc, hvf⟩ := row_form hO.out
      subst hvf
      obtain ⟨_, _, _, _, _, hr, hbw⟩ := HRD.out _ HDR.out
      have HMM := Lib.hid hr
      have HBW := Lib.hid hbw
      have v0 := cellH hr 0
      have v1 := cellH hr 1
      have vf := freeH hr
      simp at v0 v1
      clear hr hbw hO
      go_wp2_with fail
      refine bodyPost_ret (results_cell_row Tryz.results14 _ _ (w.heap.size + 1) 47 #[.slice va (cvT tw g wn T rise fa g.length).length vc, .int .i64 0] (0, 0) _ rfl (heap_same (heap_same HMM.out 0 _) 1 _) Tryz.underlying47 rfl info_pcs4) rfl ?_
      unfold CwOut
      exact ⟨_, _, _, rfl, (HBW.out.setCell (p := ⟨w.heap.size + 1, 0, none⟩) (by simp only; omega) _).setCell (p := ⟨w.heap.size + 1, 1, none⟩) (by simp only; omega) _, fun h => absurd rfl h, fun _ => row_set (row_set HOW.out HMM.out (by decide) 0 _) (heap_same HMM.out 0 _) (by decide) 1 _⟩
end Go.Proofs.YtnacgogcbbpjmaaGreat
