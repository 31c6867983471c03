/- Package firetowerref05: Vector, Opening, Right. -/
import Derived.Test.YtpaihnjgpookjaaCA7
set_option linter.unusedVariables false
set_option linter.unusedSimpArgs false
namespace Go.Proofs.Ytpaihnjgpookjaa
open Go Go.RowKit

set_option maxRecDepth 100000 in
set_option maxHeartbeats 4000000 in
theorem pOpening_any (f t : Int) (w : World) : Calls Try.prog 14 #[.agg #[.int .i64 f, .int .i64 t]] w fun e w' => e = .returned (.int .i64 (opI f t)) ∧ Below w.heap.size w w' := by
  have HBA := Lib.hid (cells1 w #[.int .i64 f, .int .i64 t] 23 (Below.refl _ _)).2.2
  have H1 := Lib.hid (fun w' => pwithin_any f 0 3599 w')
  have H2 := Lib.hid (fun w' => pwithin_any t 0 3599 w')
  have HT := Lib.hid (fun w' => pTurn_any (t - f) w')
  have HO : Hid (opI f t = if ciB f 0 3599 && ciB t 0 3599 then (t - f) % 3600 else -1) := Lib.hid rfl
  obtain ⟨b1, hb1⟩ : ∃ z, ciB f 0 3599 = z := ⟨_, rfl⟩
  obtain ⟨b2, hb2⟩ : ∃ z, ciB t 0 3599 = z := ⟨_, rfl⟩
  obtain ⟨o, ho⟩ : ∃ z, opI f t = z := ⟨_, rfl⟩
  rw [hb1] at H1 HO
  rw [hb2] at H2 HO
  rw [ho] at HO ⊢
  have HB1 := Lib.hid hb1
  have HB2 := Lib.hid hb2
  clear hb1 hb2 ho
  go_enter Try.func14, Try.ntmps14
  go_wp2_with fail
  refine (H1.out _).mono ?_
  rintro e w1 ⟨rfl, rfl⟩
  go_wp2_with fail
  refine (H2.out _).mono ?_
  rintro e w1 ⟨rfl, rfl⟩
  cases b1
  · go_wp2_with fail
    go_ret
    exact ⟨by rw [HO.out]; rfl, HBA.out⟩
  cases b2
  · go_wp2_with fail
    go_ret
    exact ⟨by rw [HO.out]; rfl, HBA.out⟩
  have h1 := ci_iff.1 HB1.out
  have h2 := ci_iff.1 HB2.out
  have e1 : IntKind.i64.wrap (t - f) = t - f := IntWalk.i64_in _ (by omega)
  clear h1 h2
  go_wp2_with fail
  refine (HT.out _).mono ?_
  rintro e w1 ⟨rfl, rfl⟩
  go_wp2_with fail
  go_ret
  exact ⟨by rw [HO.out]; rfl, HBA.out⟩
set_option maxRecDepth 100000 in
set_option maxHeartbeats 4000000 in
theorem pRight_any (f t : Int) (w : World) : Calls Try.prog 33 #[.agg #[.int .i64 f, .int .i64 t]] w fun e w' => e = .returned (.bool (vwB f t)) ∧ Below w.heap.size w w' := by
  have HO := Lib.hid (fun w' => pOpening_any f t w')
  have HBA := Lib.hid (cells1 w #[.int .i64 f, .int .i64 t] 23 (Below.refl _ _)).2.2
  have H1 := Lib.hid (fun w' => pwithin_any (opI f t) 0 900 w')
  have HV : Hid (vwB f t = ciB (opI f t) 0 900) := Lib.hid rfl
  obtain ⟨o, ho⟩ : ∃ z, opI f t = z := ⟨_, rfl⟩
  obtain ⟨b, hb⟩ : ∃ z, vwB f t = z := ⟨_, rfl⟩
  rw [ho] at HO H1 HV
  rw [hb] at HV ⊢
  rw [← HV.out] at H1
  clear ho hb
  go_enter Try.func33, Try.ntmps33
  go_wp2_with fail
  refine (HO.out _).mono ?_
  rintro e w1 ⟨rfl, hb1⟩
  have HB1 := Lib.hid hb1
  clear hb1
  go_wp2_with fail
  refine (H1.out _).mono ?_
  rintro e w2 ⟨rfl, rfl⟩
  go_wp2_with fail
  go_ret
  exact ⟨rfl, HBA.out.trans (HB1.out.mono HBA.out.size)⟩
set_option maxRecDepth 100000 in
set_option maxHeartbeats 4000000 in
theorem pVector_any (n : Int) (w : World) : Calls Try.prog 48 #[.int .i64 n] w fun e w' => e = .returned (.agg #[.int .i64 (vcX n), .int .i64 (vcY n)]) ∧ Below w.heap.size w w' := by
  have HT := Lib.hid (fun w' => pTurn_any n w')
  have HX : Hid (vcX n = _) := Lib.hid (vcX.eq_1 n)
  have HY : Hid (vcY n = _) := Lib.hid (vcY.eq_1 n)
  obtain ⟨r, hr⟩ : ∃ r, n % 3600 = r := ⟨_, rfl⟩
  have hr0 : 0 ≤ r ∧ r < 3600 := by omega
  obtain ⟨m, hm⟩ : ∃ m, (n + 450) % 3600 = m := ⟨_, rfl⟩
  have hmr : m = if r < 3150 then r + 450 else r - 3150 := by split <;> omega
  rw [hr] at HT
  rw [hm] at HX HY
  obtain ⟨X, hX⟩ : ∃ X, vcX n = X := ⟨_, rfl⟩
  obtain ⟨Y, hY⟩ : ∃ X, vcY n = X := ⟨_, rfl⟩
  rw [hX] at HX ⊢
  rw [hY] at HY ⊢
  have HM := Lib.hid (And.intro hmr hr0)
  clear hX hY hr hm hmr
  have HA := Lib.hid (fun W' => cells1 w #[.int .i64 0, .int .i64 0] 25 (W := W'))
  have HB0 := Lib.hid ((Below.refl (w.alloc (.cells #[.int .i64 0, .int .i64 0] 25)).heap.size (w.alloc (.cells #[.int .i64 0, .int .i64 0] 25))))
  obtain ⟨Z, hZ⟩ : ∃ Z, w.alloc (.cells #[.int .i64 0, .int .i64 0] 25) = Z := ⟨_, rfl⟩
  rw [hZ] at HA HB0
  have HZ := Lib.hid hZ
  clear hZ
  go_enter Try.func48, Try.ntmps48
  go_wp2_with fail
  rw [HZ.out]
  refine (HT.out _).mono ?_
  rintro e w1 ⟨rfl, rfl⟩
  by_cases h1 : r ≤ 450
  · obtain ⟨c0, _, hbw⟩ := HA.out w1 HB0.out
    have HC := Lib.hid c0
    have HBW := Lib.hid hbw
    have q0 := cellH c0 0
    have q1 := cellH c0 1
    have qf := freeH c0
    simp only [List.getElem?_toArray, List.getElem?_cons_zero, List.getElem?_cons_succ] at q0 q1
    have HR : Hid (X = 450 ∧ Y = r) := Lib.hid (by rw [HX.out, HY.out]; have := HM.out.1; have := HM.out.2; constructor <;> (repeat' split) <;> omega)
    clear c0 hbw
    go_wp2_with fail
    obtain ⟨z1, z2⟩ := set2 HC.out HBW.out (Nat.le_refl _) (.int .i64 (450)) (.int .i64 (r))
    refine bodyPost_ret (results_cell_row Try.results48 _ _ w.heap.size 25 _ (0, 0) _ rfl z1 Try.underlying25 rfl info_pl2) rfl ?_
    exact ⟨by rw [HR.out.1, HR.out.2], z2⟩
  by_cases h2 : r ≤ 1350
  · obtain ⟨c0, _, hbw⟩ := HA.out w1 HB0.out
    have HC := Lib.hid c0
    have HBW := Lib.hid hbw
    have q0 := cellH c0 0
    have q1 := cellH c0 1
    have qf := freeH c0
    simp only [List.getElem?_toArray, List.getElem?_cons_zero, List.getElem?_cons_succ] at q0 q1
    have HR : Hid (X = 900 - r ∧ Y = 450) := Lib.hid (by rw [HX.out, HY.out]; have := HM.out.1; have := HM.out.2; constructor <;> (repeat' split) <;> omega)
    have e1 : IntKind.i64.wrap (900 - r) = 900 - r := IntWalk.i64_in _ (by have := HM.out.2; omega)
    clear c0 hbw
    go_wp2_with fail
    obtain ⟨z1, z2⟩ := set2 HC.out HBW.out (Nat.le_refl _) (.int .i64 (900 - r)) (.int .i64 (450))
    refine bodyPost_ret (results_cell_row Try.results48 _ _ w.heap.size 25 _ (0, 0) _ rfl z1 Try.underlying25 rfl info_pl2) rfl ?_
    exact ⟨by rw [HR.out.1, HR.out.2], z2⟩
  by_cases h3 : r ≤ 2250
  · obtain ⟨c0, _, hbw⟩ := HA.out w1 HB0.out
    have HC := Lib.hid c0
    have HBW := Lib.hid hbw
    have q0 := cellH c0 0
    have q1 := cellH c0 1
    have qf := freeH c0
    simp only [List.getElem?_toArray, List.getElem?_cons_zero, List.getElem?_cons_succ] at q0 q1
    have HR : Hid (X = -450 ∧ Y = 1800 - r) := Lib.hid (by rw [HX.out, HY.out]; have := HM.out.1; have := HM.out.2; constructor <;> (repeat' split) <;> omega)
    have e1 : IntKind.i64.wrap (1800 - r) = 1800 - r := IntWalk.i64_in _ (by have := HM.out.2; omega)
    clear c0 hbw
    go_wp2_with fail
    obtain ⟨z1, z2⟩ := set2 HC.out HBW.out (Nat.le_refl _) (.int .i64 (-450)) (.int .i64 (1800 - r))
    refine bodyPost_ret (results_cell_row Try.results48 _ _ w.heap.size 25 _ (0, 0) _ rfl z1 Try.underlying25 rfl info_pl2) rfl ?_
    exact ⟨by rw [HR.out.1, HR.out.2], z2⟩
  by_cases h4 : r ≤ 3150
  · obtain ⟨c0, _, hbw⟩ := HA.out w1 HB0.out
    have HC := Lib.hid c0
    have HBW := Lib.hid hbw
    have q0 := cellH c0 0
    have q1 := cellH c0 1
    have qf := freeH c0
    simp only [List.getElem?_toArray, List.getElem?_cons_zero, List.getElem?_cons_succ] at q0 q1
    have HR : Hid (X = r - 2700 ∧ Y = -450) := Lib.hid (by rw [HX.out, HY.out]; have := HM.out.1; have := HM.out.2; constructor <;> (repeat' split) <;> omega)
    have e1 : IntKind.i64.wrap (r - 2700) = r - 2700 := IntWalk.i64_in _ (by have := HM.out.2; omega)
    clear c0 hbw
    go_wp2_with fail
    obtain ⟨z1, z2⟩ := set2 HC.out HBW.out (Nat.le_refl _) (.int .i64 (r - 2700)) (.int .i64 (-450))
    refine bodyPost_ret (results_cell_row Try.results48 _ _ w.heap.size 25 _ (0, 0) _ rfl z1 Try.underlying25 rfl info_pl2) rfl ?_
    exact ⟨by rw [HR.out.1, HR.out.2], z2⟩
  obtain ⟨c0, _, hbw⟩ := HA.out w1 HB0.out
  have HC := Lib.hid c0
  have HBW := Lib.hid hbw
  have q0 := cellH c0 0
  have q1 := cellH c0 1
  have qf := freeH c0
  simp only [List.getElem?_toArray, List.getElem?_cons_zero, List.getElem?_cons_succ] at q0 q1
  have HR : Hid (X = 450 ∧ Y = r - 3600) := Lib.hid (by rw [HX.out, HY.out]; have := HM.out.1; have := HM.out.2; constructor <;> (repeat' split) <;> omega)
  have e1 : IntKind.i64.wrap (r - 3600) = r - 3600 := IntWalk.i64_in _ (by have := HM.out.2; omega)
  clear c0 hbw
  go_wp2_with fail
  obtain ⟨z1, z2⟩ := set2 HC.out HBW.out (Nat.le_refl _) (.int .i64 (450)) (.int .i64 (r - 3600))
  refine bodyPost_ret (results_cell_row Try.results48 _ _ w.heap.size 25 _ (0, 0) _ rfl z1 Try.underlying25 rfl info_pl2) rfl ?_
  exact ⟨by rw [HR.out.1, HR.out.2], z2⟩
end Go.Proofs.Ytpaihnjgpookjaa
