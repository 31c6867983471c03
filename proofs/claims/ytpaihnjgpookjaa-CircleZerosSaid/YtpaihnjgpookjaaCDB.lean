/- Merged: CD3, CD4, CD5, CD6. -/
import Derived.Test.YtpaihnjgpookjaaCAB
import Derived.Test.YtpaihnjgpookjaaCAA
/- Package firetowerref05: Vector, Opening, Right. -/
set_option linter.unusedVariables false
set_option linter.unusedSimpArgs false
namespace Go.Proofs.Ytpaihnjgpookjaa
open Go Go.RowKit

set_option maxRecDepth 100000 in
set_option maxHeartbeats 4000000 in
theorem pOpening_any (f t : Int) (w : World) : Calls Try.prog 14 #[.agg #[.int .i64 f, .int .i64 t]] w fun e w' => e = .returned (.int .i64 (opI f t)) ∧ Below w.heap.size w w' := by
  have HBA := Lib.hid (cells1 w #[.int .i64 f, .int .i64 t] 23 (Below.refl _ _)).2.2
  have H1 := Lib.hid (fun w' => pwithin_any f 0 3599 w')
  have H2 := Lib.hid (fun w' => pwithin_any t 0 3599 w')
  have HT := Lib.hid (fun w' => pTurn_any (t - f) w')
  have HO : Hid (opI f t = if ciB f 0 3599 && ciB t 0 3599 then (t - f) % 3600 else -1) := Lib.hid rfl
  obtain ⟨b1, hb1⟩ : ∃ z, ciB f 0 3599 = z := ⟨_, rfl⟩
  obtain ⟨b2, hb2⟩ : ∃ z, ciB t 0 3599 = z := ⟨_, rfl⟩
  obtain ⟨o, ho⟩ : ∃ z, opI f t = z := ⟨_, rfl⟩
  rw [hb1] at H1 HO
  rw [hb2] at H2 HO
  rw [ho] at HO ⊢
  have HB1 := Lib.hid hb1
  have HB2 := Lib.hid hb2
  clear hb1 hb2 ho
  go_enter Try.func14, Try.ntmps14
  go_wp2_with fail
  refine (H1.out _).mono ?_
  rintro e w1 ⟨rfl, rfl⟩
  go_wp2_with fail
  refine (H2.out _).mono ?_
  rintro e w1 ⟨rfl, rfl⟩
  cases b1
  · go_wp2_with fail
    go_ret
    exact ⟨by rw [HO.out]; rfl, HBA.out⟩
  cases b2
  · go_wp2_with fail
    go_ret
    exact ⟨by rw [HO.out]; rfl, HBA.out⟩
  have h1 := ci_iff.1 HB1.out
  have h2 := ci_iff.1 HB2.out
  have e1 : IntKind.i64.wrap (t - f) = t - f := IntWalk.i64_in _ (by omega)
  clear h1 h2
  go_wp2_with fail
  refine (HT.out _).mono ?_
  rintro e w1 ⟨rfl, rfl⟩
  go_wp2_with fail
  go_ret
  exact ⟨by rw [HO.out]; rfl, HBA.out⟩
set_option maxRecDepth 100000 in
set_option maxHeartbeats 4000000 in
theorem pRight_any (f t : Int) (w : World) : Calls Try.prog 33 #[.agg #[.int .i64 f, .int .i64 t]] w fun e w' => e = .returned (.bool (vwB f t)) ∧ Below w.heap.size w w' := by
  have HO := Lib.hid (fun w' => pOpening_any f t w')
  have HBA := Lib.hid (cells1 w #[.int .i64 f, .int .i64 t] 23 (Below.refl _ _)).2.2
  have H1 := Lib.hid (fun w' => pwithin_any (opI f t) 0 900 w')
  have HV : Hid (vwB f t = ciB (opI f t) 0 900) := Lib.hid rfl
  obtain ⟨o, ho⟩ : ∃ z, opI f t = z := ⟨_, rfl⟩
  obtain ⟨b, hb⟩ : ∃ z, vwB f t = z := ⟨_, rfl⟩
  rw [ho] at HO H1 HV
  rw [hb] at HV ⊢
  rw [← HV.out] at H1
  clear ho hb
  go_enter Try.func33, Try.ntmps33
  go_wp2_with fail
  refine (HO.out _).mono ?_
  rintro e w1 ⟨rfl, hb1⟩
  have HB1 := Lib.hid hb1
  clear hb1
  go_wp2_with fail
  refine (H1.out _).mono ?_
  rintro e w2 ⟨rfl, rfl⟩
  go_wp2_with fail
  go_ret
  exact ⟨rfl, HBA.out.trans (HB1.out.mono HBA.out.size)⟩
set_option maxRecDepth 100000 in
set_option maxHeartbeats 4000000 in
theorem pVector_any (n : Int) (w : World) : Calls Try.prog 48 #[.int .i64 n] w fun e w' => e = .returned (.agg #[.int .i64 (vcX n), .int .i64 (vcY n)]) ∧ Below w.heap.size w w' := by
  have HT := Lib.hid (fun w' => pTurn_any n w')
  have HX : Hid (vcX n = _) := Lib.hid (vcX.eq_1 n)
  have HY : Hid (vcY n = _) := Lib.hid (vcY.eq_1 n)
  obtain ⟨r, hr⟩ : ∃ r, n % 3600 = r := ⟨_, rfl⟩
  have hr0 : 0 ≤ r ∧ r < 3600 := by omega
  obtain ⟨m, hm⟩ : ∃ m, (n + 450) % 3600 = m := ⟨_, rfl⟩
  have hmr : m = if r < 3150 then r + 450 else r - 3150 := by split <;> omega
  rw [hr] at HT
  rw [hm] at HX HY
  obtain ⟨X, hX⟩ : ∃ X, vcX n = X := ⟨_, rfl⟩
  obtain ⟨Y, hY⟩ : ∃ X, vcY n = X := ⟨_, rfl⟩
  rw [hX] at HX ⊢
  rw [hY] at HY ⊢
  have HM := Lib.hid (And.intro hmr hr0)
  clear hX hY hr hm hmr
  have HA := Lib.hid (fun W' => cells1 w #[.int .i64 0, .int .i64 0] 25 (W := W'))
  have HB0 := Lib.hid ((Below.refl (w.alloc (.cells #[.int .i64 0, .int .i64 0] 25)).heap.size (w.alloc (.cells #[.int .i64 0, .int .i64 0] 25))))
  obtain ⟨Z, hZ⟩ : ∃ Z, w.alloc (.cells #[.int .i64 0, .int .i64 0] 25) = Z := ⟨_, rfl⟩
  rw [hZ] at HA HB0
  have HZ := Lib.hid hZ
  clear hZ
  go_enter Try.func48, Try.ntmps48
  go_wp2_with fail
  rw [HZ.out]
  refine (HT.out _).mono ?_
  rintro e w1 ⟨rfl, rfl⟩
  by_cases h1 : r ≤ 450
  · obtain ⟨c0, _, hbw⟩ := HA.out w1 HB0.out
    have HC := Lib.hid c0
    have HBW := Lib.hid hbw
    have q0 := cellH c0 0
    have q1 := cellH c0 1
    have qf := freeH c0
    simp only [List.getElem?_toArray, List.getElem?_cons_zero, List.getElem?_cons_succ] at q0 q1
    have HR : Hid (X = 450 ∧ Y = r) := Lib.hid (by rw [HX.out, HY.out]; have := HM.out.1; have := HM.out.2; constructor <;> (repeat' split) <;> omega)
    clear c0 hbw
    go_wp2_with fail
    obtain ⟨z1, z2⟩ := set2 HC.out HBW.out (Nat.le_refl _) (.int .i64 (450)) (.int .i64 (r))
    refine bodyPost_ret (results_cell_row Try.results48 _ _ w.heap.size 25 _ (0, 0) _ rfl z1 Try.underlying25 rfl info_pl2) rfl ?_
    exact ⟨by rw [HR.out.1, HR.out.2], z2⟩
  by_cases h2 : r ≤ 1350
  · obtain ⟨c0, _, hbw⟩ := HA.out w1 HB0.out
    have HC := Lib.hid c0
    have HBW := Lib.hid hbw
    have q0 := cellH c0 0
    have q1 := cellH c0 1
    have qf := freeH c0
    simp only [List.getElem?_toArray, List.getElem?_cons_zero, List.getElem?_cons_succ] at q0 q1
    have HR : Hid (X = 900 - r ∧ Y = 450) := Lib.hid (by rw [HX.out, HY.out]; have := HM.out.1; have := HM.out.2; constructor <;> (repeat' split) <;> omega)
    have e1 : IntKind.i64.wrap (900 - r) = 900 - r := IntWalk.i64_in _ (by have := HM.out.2; omega)
    clear c0 hbw
    go_wp2_with fail
    obtain ⟨z1, z2⟩ := set2 HC.out HBW.out (Nat.le_refl _) (.int .i64 (900 - r)) (.int .i64 (450))
    refine bodyPost_ret (results_cell_row Try.results48 _ _ w.heap.size 25 _ (0, 0) _ rfl z1 Try.underlying25 rfl info_pl2) rfl ?_
    exact ⟨by rw [HR.out.1, HR.out.2], z2⟩
  by_cases h3 : r ≤ 2250
  · obtain ⟨c0, _, hbw⟩ := HA.out w1 HB0.out
    have HC := Lib.hid c0
    have HBW := Lib.hid hbw
    have q0 := cellH c0 0
    have q1 := cellH c0 1
    have qf := freeH c0
    simp only [List.getElem?_toArray, List.getElem?_cons_zero, List.getElem?_cons_succ] at q0 q1
    have HR : Hid (X = -450 ∧ Y = 1800 - r) := Lib.hid (by rw [HX.out, HY.out]; have := HM.out.1; have := HM.out.2; constructor <;> (repeat' split) <;> omega)
    have e1 : IntKind.i64.wrap (1800 - r) = 1800 - r := IntWalk.i64_in _ (by have := HM.out.2; omega)
    clear c0 hbw
    go_wp2_with fail
    obtain ⟨z1, z2⟩ := set2 HC.out HBW.out (Nat.le_refl _) (.int .i64 (-450)) (.int .i64 (1800 - r))
    refine bodyPost_ret (results_cell_row Try.results48 _ _ w.heap.size 25 _ (0, 0) _ rfl z1 Try.underlying25 rfl info_pl2) rfl ?_
    exact ⟨by rw [HR.out.1, HR.out.2], z2⟩
  by_cases h4 : r ≤ 3150
  · obtain ⟨c0, _, hbw⟩ := HA.out w1 HB0.out
    have HC := Lib.hid c0
    have HBW := Lib.hid hbw
    have q0 := cellH c0 0
    have q1 := cellH c0 1
    have qf := freeH c0
    simp only [List.getElem?_toArray, List.getElem?_cons_zero, List.getElem?_cons_succ] at q0 q1
    have HR : Hid (X = r - 2700 ∧ Y = -450) := Lib.hid (by rw [HX.out, HY.out]; have := HM.out.1; have := HM.out.2; constructor <;> (repeat' split) <;> omega)
    have e1 : IntKind.i64.wrap (r - 2700) = r - 2700 := IntWalk.i64_in _ (by have := HM.out.2; omega)
    clear c0 hbw
    go_wp2_with fail
    obtain ⟨z1, z2⟩ := set2 HC.out HBW.out (Nat.le_refl _) (.int .i64 (r - 2700)) (.int .i64 (-450))
    refine bodyPost_ret (results_cell_row Try.results48 _ _ w.heap.size 25 _ (0, 0) _ rfl z1 Try.underlying25 rfl info_pl2) rfl ?_
    exact ⟨by rw [HR.out.1, HR.out.2], z2⟩
  obtain ⟨c0, _, hbw⟩ := HA.out w1 HB0.out
  have HC := Lib.hid c0
  have HBW := Lib.hid hbw
  have q0 := cellH c0 0
  have q1 := cellH c0 1
  have qf := freeH c0
  simp only [List.getElem?_toArray, List.getElem?_cons_zero, List.getElem?_cons_succ] at q0 q1
  have HR : Hid (X = 450 ∧ Y = r - 3600) := Lib.hid (by rw [HX.out, HY.out]; have := HM.out.1; have := HM.out.2; constructor <;> (repeat' split) <;> omega)
  have e1 : IntKind.i64.wrap (r - 3600) = r - 3600 := IntWalk.i64_in _ (by have := HM.out.2; omega)
  clear c0 hbw
  go_wp2_with fail
  obtain ⟨z1, z2⟩ := set2 HC.out HBW.out (Nat.le_refl _) (.int .i64 (450)) (.int .i64 (r - 3600))
  refine bodyPost_ret (results_cell_row Try.results48 _ _ w.heap.size 25 _ (0, 0) _ rfl z1 Try.underlying25 rfl info_pl2) rfl ?_
  exact ⟨by rw [HR.out.1, HR.out.2], z2⟩
end Go.Proofs.Ytpaihnjgpookjaa
/- Package firetowerref05: Has, Lies. -/
set_option linter.unusedVariables false
set_option linter.unusedSimpArgs false
namespace Go.Proofs.Ytpaihnjgpookjaa
open Go Go.RowKit

/-- How far a bearing lies behind a wedge's beginning. -/
def psI (f num den : Int) : Int := if num - f * den < 0 then num - f * den + 3600 * den else num - f * den
def hsB (f t num den : Int) : Bool := decide (psI f num den ≤ opI f t * den)
theorem mul_48 {a b : Int} {A : Int} (ha : 0 ≤ a ∧ a ≤ A) (hb : 1 ≤ b ∧ b ≤ 48) : 0 ≤ a * b ∧ a * b ≤ A * 48 :=
  ⟨Int.mul_nonneg ha.1 (by omega), Int.mul_le_mul ha.2 hb.2 (by omega) (by omega)⟩
set_option maxRecDepth 100000 in
set_option maxHeartbeats 4000000 in
theorem pHas_any (f t num den : Int) (w : World) (hf : 0 ≤ f ∧ f ≤ 3599) (ho : 0 ≤ opI f t ∧ opI f t ≤ 900) (hd : 1 ≤ den ∧ den ≤ 48) (hn : 0 ≤ num ∧ num ≤ 3600 * 48) :
    Calls Try.prog 35 #[.agg #[.int .i64 f, .int .i64 t], .agg #[.int .i64 num, .int .i64 den]] w fun e w' => e = .returned (.bool (hsB f t num den)) ∧ Below w.heap.size w w' := by
  have HO := Lib.hid (fun w' => pOpening_any f t w')
  have h1 := mul_48 hf hd
  have h2 := mul_48 ho hd
  have HV : Hid (hsB f t num den = decide (psI f num den ≤ opI f t * den)) := Lib.hid rfl
  have HP : Hid (psI f num den = if num - f * den < 0 then num - f * den + 3600 * den else num - f * den) := Lib.hid rfl
  obtain ⟨b, hb⟩ : ∃ z, hsB f t num den = z := ⟨_, rfl⟩
  obtain ⟨p, hp⟩ : ∃ z, psI f num den = z := ⟨_, rfl⟩
  obtain ⟨o, hoo⟩ : ∃ z, opI f t = z := ⟨_, rfl⟩
  rw [hb, hp, hoo] at HV
  rw [hb]
  rw [hp] at HP
  rw [hoo] at HO h2
  have e1 : IntKind.i64.wrap (f * den) = f * den := IntWalk.i64_in _ (by omega)
  have e2 : IntKind.i64.wrap (num - f * den) = num - f * den := IntWalk.i64_in _ (by omega)
  have e3 : IntKind.i64.wrap (3600 * den) = 3600 * den := IntWalk.i64_in _ (by omega)
  have e4 : IntKind.i64.wrap (num - f * den + 3600 * den) = num - f * den + 3600 * den := IntWalk.i64_in _ (by omega)
  have e5 : IntKind.i64.wrap (o * den) = o * den := IntWalk.i64_in _ (by omega)
  have HBA := Lib.hid (two_cells w #[.int .i64 f, .int .i64 t] #[.int .i64 num, .int .i64 den] 23 71 (W := (w.alloc (.cells #[.int .i64 f, .int .i64 t] 23)).alloc (.cells #[.int .i64 num, .int .i64 den] 71)) (Below.refl _ _))
  obtain ⟨Z, hZ⟩ : ∃ Z, (w.alloc (.cells #[.int .i64 f, .int .i64 t] 23)).alloc (.cells #[.int .i64 num, .int .i64 den] 71) = Z := ⟨_, rfl⟩
  rw [hZ] at HBA
  have HZ := Lib.hid hZ
  clear hZ hb hp hoo h1 h2 hf ho hd hn
  go_enter Try.func35, Try.ntmps35
  go_wp2_with fail
  · rw [HZ.out]
    have HN : Hid (b = decide (num - f * den + 3600 * den ≤ o * den)) := Lib.hid (by
      have h1 := HP.out
      rw [if_pos (by assumption)] at h1
      rw [HV.out, h1])
    have HK : Hid (∀ w', Below Z.heap.size Z w' → w'.cell? ⟨w.heap.size, 0, none⟩ = some (.int .i64 f) ∧ w'.cell? ⟨w.heap.size, 1, none⟩ = some (.int .i64 t) ∧ w'.cell? ⟨w.heap.size + 1, 1, none⟩ = some (.int .i64 den)) := Lib.hid (fun w' h => by
      have x0 := (h.block _ (Array.getElem?_eq_some_iff.1 HBA.out.1).1).trans HBA.out.1
      have x1 := (h.block _ (Array.getElem?_eq_some_iff.1 HBA.out.2.1).1).trans HBA.out.2.1
      exact ⟨cellH x0 0, cellH x0 1, cellH x1 1⟩)
    have C1 : Hid (∀ w', Below Z.heap.size Z w' → Calls Try.prog 14 #[.agg #[.int .i64 f, .int .i64 t]] w' fun e w'' => e = .returned (.int .i64 o) ∧ Below Z.heap.size Z w'') := Lib.hid (fun w' h => (HO.out w').mono fun e w'' ⟨he, hh⟩ => ⟨he, h.trans (hh.mono h.size)⟩)
    refine wp_region_turn 7 (fun _ w' => Below Z.heap.size Z w') (by kernel_rfl) (by kernel_rfl) ((Below.refl _ Z).drew) ?_
    simp only [List.take_succ_cons, List.take_zero, List.drop_succ_cons, List.drop_zero]
    iterate 7
      (first
        | (apply turnC_step (by rfl); (intro w' hw'; obtain ⟨q0, q1, q2⟩ := HK.out w' hw'; go_simp; first | with_reducible exact ⟨hw', rfl⟩ | with_reducible exact rfl | with_reducible exact ⟨hw', congrArg (Value.int .i64) e5⟩))
        | (apply turnC_step (by rfl); (intro w' hw'; obtain ⟨q0, q1, q2⟩ := HK.out w' hw'; go_simp; with_reducible exact C1.out w' hw')))
      simp only [Act.put, List.setIfInBounds_toArray, List.set_cons_succ, List.set_cons_zero]
    intro listed w5 _ hw5
    have HB5 := Lib.hid (HBA.out.2.2.2.trans (hw5.mono HBA.out.2.2.2.size))
    clear hw5 HK C1
    go_wp2_with fail
    go_ret
    exact ⟨by rw [HN.out]; rfl, HB5.out⟩
  · rw [HZ.out]
    have HN : Hid (b = decide (num - f * den ≤ o * den)) := Lib.hid (by
      have h1 := HP.out
      rw [if_neg (by omega)] at h1
      rw [HV.out, h1])
    have HK : Hid (∀ w', Below Z.heap.size Z w' → w'.cell? ⟨w.heap.size, 0, none⟩ = some (.int .i64 f) ∧ w'.cell? ⟨w.heap.size, 1, none⟩ = some (.int .i64 t) ∧ w'.cell? ⟨w.heap.size + 1, 1, none⟩ = some (.int .i64 den)) := Lib.hid (fun w' h => by
      have x0 := (h.block _ (Array.getElem?_eq_some_iff.1 HBA.out.1).1).trans HBA.out.1
      have x1 := (h.block _ (Array.getElem?_eq_some_iff.1 HBA.out.2.1).1).trans HBA.out.2.1
      exact ⟨cellH x0 0, cellH x0 1, cellH x1 1⟩)
    have C1 : Hid (∀ w', Below Z.heap.size Z w' → Calls Try.prog 14 #[.agg #[.int .i64 f, .int .i64 t]] w' fun e w'' => e = .returned (.int .i64 o) ∧ Below Z.heap.size Z w'') := Lib.hid (fun w' h => (HO.out w').mono fun e w'' ⟨he, hh⟩ => ⟨he, h.trans (hh.mono h.size)⟩)
    refine wp_region_turn 7 (fun _ w' => Below Z.heap.size Z w') (by kernel_rfl) (by kernel_rfl) ((Below.refl _ Z).drew) ?_
    simp only [List.take_succ_cons, List.take_zero, List.drop_succ_cons, List.drop_zero]
    iterate 7
      (first
        | (apply turnC_step (by rfl); (intro w' hw'; obtain ⟨q0, q1, q2⟩ := HK.out w' hw'; go_simp; first | with_reducible exact ⟨hw', rfl⟩ | with_reducible exact rfl | with_reducible exact ⟨hw', congrArg (Value.int .i64) e5⟩))
        | (apply turnC_step (by rfl); (intro w' hw'; obtain ⟨q0, q1, q2⟩ := HK.out w' hw'; go_simp; with_reducible exact C1.out w' hw')))
      simp only [Act.put, List.setIfInBounds_toArray, List.set_cons_succ, List.set_cons_zero]
    intro listed w5 _ hw5
    have HB5 := Lib.hid (HBA.out.2.2.2.trans (hw5.mono HBA.out.2.2.2.size))
    clear hw5 HK C1
    go_wp2_with fail
    go_ret
    exact ⟨by rw [HN.out]; rfl, HB5.out⟩
/-- A bearing lies in a wedge if its two neighbours do. -/
theorem hs_two {f o num den : Int} (hf : 0 ≤ f ∧ f ≤ 3599) (ho : 0 ≤ o ∧ o ≤ 900) (hd : 1 ≤ den) (hn : 0 ≤ num ∧ num < 3600 * den) :
    psI f num den ≤ o * den ↔ (num / den - f) % 3600 ≤ o ∧ ((num + den - 1) / den - f) % 3600 ≤ o := by
  obtain ⟨q, hq⟩ : ∃ q, num / den = q := ⟨_, rfl⟩
  obtain ⟨s, hs⟩ : ∃ s, num % den = s := ⟨_, rfl⟩
  have h1 : num = den * q + s := by rw [← hq, ← hs]; exact (Int.mul_ediv_add_emod num den).symm
  have h2 : 0 ≤ s := by rw [← hs]; exact Int.emod_nonneg _ (by omega)
  have h3 : s < den := by rw [← hs]; exact Int.emod_lt_of_pos _ (by omega)
  have hq0 : 0 ≤ q := by rw [← hq]; exact Int.ediv_nonneg hn.1 (by omega)
  have hq1 : q < 3600 := by rw [← hq]; exact Int.ediv_lt_of_lt_mul (by omega) hn.2
  have hc : (num + den - 1) / den = if s = 0 then q else q + 1 := by
    split
    · rename_i h0
      rw [h1, h0, show den * q + 0 + den - 1 = (den - 1) + den * q by omega, Int.add_mul_ediv_left _ _ (by omega), Int.ediv_eq_zero_of_lt (by omega) (by omega)]
      omega
    · rename_i h0
      rw [h1, show den * q + s + den - 1 = (s - 1) + den * (q + 1) by rw [Int.mul_add]; omega, Int.add_mul_ediv_left _ _ (by omega), Int.ediv_eq_zero_of_lt (by omega) (by omega)]
      omega
  obtain ⟨p, hp⟩ : ∃ p, (q - f) % 3600 = p := ⟨_, rfl⟩
  have hp2 : p = if q - f < 0 then q - f + 3600 else q - f := by split <;> omega
  have hps : psI f num den = den * p + s := by
    unfold psI
    have e1 : num - f * den = den * (q - f) + s := by rw [h1, Int.mul_sub, Int.mul_comm f den]; omega
    rw [e1, hp2]
    by_cases hneg : q - f < 0
    · have h4 : den * (q - f) ≤ den * (-1) := Int.mul_le_mul_of_nonneg_left (by omega) (by omega)
      rw [if_pos (by omega), if_pos hneg, Int.mul_add]
      omega
    · have h4 : 0 ≤ den * (q - f) := Int.mul_nonneg (by omega) (by omega)
      rw [if_neg (by omega), if_neg hneg]
  rw [hps, hq, hp, hc, Int.mul_comm o den]
  by_cases h0 : s = 0
  · rw [if_pos h0, hp, h0]
    constructor
    · intro h
      have h5 : p ≤ o := by
        rcases Int.lt_or_le o p with h6 | h6
        · have h7 : den * (o + 1) ≤ den * p := Int.mul_le_mul_of_nonneg_left (by omega) (by omega)
          rw [Int.mul_add] at h7
          omega
        · exact h6
      exact ⟨h5, h5⟩
    · intro h
      have h7 : den * p ≤ den * o := Int.mul_le_mul_of_nonneg_left h.1 (by omega)
      omega
  · rw [if_neg h0]
    constructor
    · intro h
      have h5 : p + 1 ≤ o := by
        rcases Int.lt_or_le o (p + 1) with h6 | h6
        · have h7 : den * o ≤ den * p := Int.mul_le_mul_of_nonneg_left (by omega) (by omega)
          omega
        · exact h6
      omega
    · intro h
      have h5 : p + 1 ≤ o := by omega
      have h7 : den * (p + 1) ≤ den * o := Int.mul_le_mul_of_nonneg_left h5 (by omega)
      rw [Int.mul_add] at h7
      omega
end Go.Proofs.Ytpaihnjgpookjaa
/- Package firetowerref05: Lies. -/
set_option linter.unusedVariables false
set_option linter.unusedSimpArgs false
namespace Go.Proofs.Ytpaihnjgpookjaa
open Go Go.RowKit

theorem ls_eq {f t a b c d : Int} (hv : vwB f t = true) (hb : brB a b c d = true) : lsB f t a b c d = hsB f t (twN (c - a) (d - b)) (twD (c - a) (d - b)) := by
  obtain ⟨h1, h2, h3⟩ := brB_ok hb
  obtain ⟨t1, t2, t3, t4, _⟩ := tw_ok (x := c - a) (y := d - b) (by omega) (by omega) h3
  obtain ⟨v1, v2, v3, v4⟩ := vw_ok hv
  unfold lsB hsB brDn brUp
  rw [hb, hv]
  simp only [if_true, Bool.true_and]
  rw [Bool.eq_iff_iff, Bool.and_eq_true, decide_eq_true_eq, decide_eq_true_eq, decide_eq_true_eq]
  exact (hs_two v1 v4 t1 ⟨t3, t4⟩).symm
set_option maxRecDepth 100000 in
set_option maxHeartbeats 4000000 in
theorem pLies_any (f t a b c d : Int) (w : World) : Calls Try.prog 16 #[.agg #[.int .i64 f, .int .i64 t], .agg #[.int .i64 a, .int .i64 b], .agg #[.int .i64 c, .int .i64 d]] w fun e w' => e = .returned (.bool (lsB f t a b c d)) ∧ Below w.heap.size w w' := by
  have H1 := Lib.hid (fun w' => pRight_any f t w')
  have H2 := Lib.hid (fun w' => pbearing_any a b c d w')
  have H3 : Hid (∀ w', vwB f t = true → brB a b c d = true → Calls Try.prog 35 #[.agg #[.int .i64 f, .int .i64 t], .agg #[.int .i64 (twN (c - a) (d - b)), .int .i64 (twD (c - a) (d - b))]] w' fun e w'' => e = .returned (.bool (lsB f t a b c d)) ∧ Below w'.heap.size w' w'') := Lib.hid (fun w' hv hb => by
    obtain ⟨h1, h2, h3⟩ := brB_ok hb
    obtain ⟨t1, t2, t3, t4, _⟩ := tw_ok (x := c - a) (y := d - b) (by omega) (by omega) h3
    obtain ⟨v1, v2, v3, v4⟩ := vw_ok hv
    rw [ls_eq hv hb]
    exact pHas_any f t _ _ w' v1 v4 ⟨t1, t2⟩ ⟨t3, by omega⟩)
  have HL1 : Hid (vwB f t = false → lsB f t a b c d = false) := Lib.hid (fun h => by unfold lsB; rw [h]; simp)
  have HL2 : Hid (brB a b c d = false → lsB f t a b c d = false) := Lib.hid (fun h => by unfold lsB; rw [h]; simp)
  obtain ⟨L, hL⟩ : ∃ z, lsB f t a b c d = z := ⟨_, rfl⟩
  obtain ⟨r, hr⟩ : ∃ z, vwB f t = z := ⟨_, rfl⟩
  obtain ⟨ok, hok⟩ : ∃ z, brB a b c d = z := ⟨_, rfl⟩
  obtain ⟨N, hN⟩ : ∃ z, twN (c - a) (d - b) = z := ⟨_, rfl⟩
  obtain ⟨D, hD⟩ : ∃ z, twD (c - a) (d - b) = z := ⟨_, rfl⟩
  rw [hr] at H1 H3 HL1
  rw [hok] at H2 H3 HL2
  rw [hN, hD] at H2 H3
  rw [hL] at H3 HL1 HL2 ⊢
  clear hL hr hok hN hD
  have HA := Lib.hid (fun W' => cells3 w #[.int .i64 f, .int .i64 t] #[.int .i64 a, .int .i64 b] #[.int .i64 c, .int .i64 d] 23 25 25 (W := W'))
  go_enter Try.func16, Try.ntmps16
  go_wp2_with fail
  refine (H1.out _).mono ?_
  rintro e w1 ⟨rfl, hb1⟩
  have HB1 := Lib.hid hb1
  obtain ⟨x1, x2, x3, _, xb⟩ := HA.out w1 hb1
  have q0 := cellH x1 0
  have q1 := cellH x1 1
  have r0 := cellH x2 0
  have r1 := cellH x2 1
  have s0 := cellH x3 0
  have s1 := cellH x3 1
  simp only [List.getElem?_toArray, List.getElem?_cons_zero, List.getElem?_cons_succ] at q0 q1 r0 r1 s0 s1
  clear x1 x2 x3 xb hb1
  go_wp2_with fail
  refine (H2.out _).mono ?_
  rintro e w2 ⟨rfl, hb2⟩
  obtain ⟨n0, hn0⟩ : ∃ z, (if ok = true then N else 0) = z := ⟨_, rfl⟩
  obtain ⟨d0, hd0⟩ : ∃ z, (if ok = true then D else 0) = z := ⟨_, rfl⟩
  rw [hn0, hd0]
  have HND := Lib.hid (And.intro hn0 hd0)
  have hB2 := (hb2.mono HB1.out.size)
  have hc2 := cells1 w2 #[.int .i64 n0, .int .i64 d0] 71 (Below.refl _ _)
  have hB3 := HB1.out.trans (hB2.trans (hc2.2.2.mono (Nat.le_trans HB1.out.size hb2.size)))
  obtain ⟨x1, x2, x3, _, xb⟩ := HA.out _ hB3
  have HXB := Lib.hid xb
  clear q0 q1 r0 r1 s0 s1 hb2 hB2 hn0 hd0
  have q0 := cellH x1 0
  have q1 := cellH x1 1
  have y0 := cellH hc2.1 0
  have y1 := cellH hc2.1 1
  simp only [List.getElem?_toArray, List.getElem?_cons_zero, List.getElem?_cons_succ] at q0 q1 y0 y1
  clear x1 x2 x3 xb hB3 hc2
  cases r
  · have HN := Lib.hid (HL1.out rfl)
    go_wp2_with fail
    go_ret
    exact ⟨by rw [HN.out]; rfl, HXB.out⟩
  cases ok
  · have HN := Lib.hid (HL2.out rfl)
    go_wp2_with fail
    go_ret
    exact ⟨by rw [HN.out]; rfl, HXB.out⟩
  obtain ⟨rfl, rfl⟩ : N = n0 ∧ D = d0 := by have := HND.out; simpa using this
  have H33 := Lib.hid (fun w' => H3.out w' rfl rfl)
  go_wp2_with fail
  refine (H33.out _).mono ?_
  rintro e w4 ⟨rfl, hb4⟩
  have HB4 := Lib.hid (HXB.out.trans (hb4.mono HXB.out.size))
  clear hb4 q0 q1 y0 y1
  go_wp2_with fail
  go_ret
  exact ⟨rfl, HB4.out⟩
end Go.Proofs.Ytpaihnjgpookjaa
/- Package firetowerref05: Widen. -/
set_option linter.unusedVariables false
set_option linter.unusedSimpArgs false
namespace Go.Proofs.Ytpaihnjgpookjaa
open Go Go.RowKit

theorem info_mt3 : (Try.prog.info? 29).map (·.size) = some 3 := by kernel_rfl
set_option maxRecDepth 100000 in
set_option maxHeartbeats 4000000 in
theorem pWiden_any (f t n : Int) (w : World) : Calls Try.prog 11 #[.agg #[.int .i64 f, .int .i64 t], .int .i64 n] w fun e w' => e = .returned (.agg #[.int .i64 (wdF f t n), .int .i64 (wdT f t n), .bool (wdB f t n)]) ∧ Below w.heap.size w w' := by
  have H1 := Lib.hid (fun w' => pRight_any f t w')
  have H2 := Lib.hid (fun w' => pwithin_any n 0 900 w')
  have H3 := Lib.hid (fun w' => pOpening_any f t w')
  have HT1 := Lib.hid (fun w' => pTurn_any (f - n) w')
  have HT2 := Lib.hid (fun w' => pTurn_any (t + n) w')
  have HVW := Lib.hid (vw_ok (f := f) (t := t))
  have HCI : Hid (ciB n 0 900 = true ↔ 0 ≤ n ∧ n ≤ 900) := Lib.hid ci_iff
  have HBB : Hid (wdB f t n = (vwB f t && decide (0 ≤ n) && decide (n ≤ (900 - opI f t) / 2))) := Lib.hid rfl
  have HF : Hid (wdF f t n = if wdB f t n = true then (f - n) % 3600 else 0) := Lib.hid rfl
  have HT : Hid (wdT f t n = if wdB f t n = true then (t + n) % 3600 else 0) := Lib.hid rfl
  obtain ⟨vw, hvw⟩ : ∃ z, vwB f t = z := ⟨_, rfl⟩
  obtain ⟨fe, hfe⟩ : ∃ z, ciB n 0 900 = z := ⟨_, rfl⟩
  obtain ⟨o, ho⟩ : ∃ z, opI f t = z := ⟨_, rfl⟩
  obtain ⟨B, hB⟩ : ∃ z, wdB f t n = z := ⟨_, rfl⟩
  obtain ⟨F, hF⟩ : ∃ z, wdF f t n = z := ⟨_, rfl⟩
  obtain ⟨T, hT⟩ : ∃ z, wdT f t n = z := ⟨_, rfl⟩
  rw [hvw] at H1 HBB HVW
  rw [hfe] at H2 HCI
  rw [ho] at H3 HBB HVW
  rw [hB] at HBB HF HT ⊢
  rw [hF] at HF ⊢
  rw [hT] at HT ⊢
  have HA := Lib.hid (fun W' => two_cells w #[.int .i64 f, .int .i64 t] #[.int .i64 0, .int .i64 0, .bool false] 23 29 (W := W'))
  have HB0 := Lib.hid (Below.refl ((w.alloc (.cells #[.int .i64 f, .int .i64 t] 23)).alloc (.cells #[.int .i64 0, .int .i64 0, .bool false] 29)).heap.size ((w.alloc (.cells #[.int .i64 f, .int .i64 t] 23)).alloc (.cells #[.int .i64 0, .int .i64 0, .bool false] 29)))
  obtain ⟨Z, hZ⟩ : ∃ Z, (w.alloc (.cells #[.int .i64 f, .int .i64 t] 23)).alloc (.cells #[.int .i64 0, .int .i64 0, .bool false] 29) = Z := ⟨_, rfl⟩
  rw [hZ] at HA HB0
  have HZ := Lib.hid hZ
  clear hZ hvw ho hB hF hT hfe
  go_enter Try.func11, Try.ntmps11
  go_wp2_with fail
  rw [HZ.out]
  refine (H1.out _).mono ?_
  rintro e w1 ⟨rfl, hb1⟩
  have HB1 := Lib.hid hb1
  clear hb1
  go_wp2_with fail
  refine (H2.out _).mono ?_
  rintro e w2 ⟨rfl, rfl⟩
  obtain ⟨x1, x2, _, xb⟩ := HA.out _ HB1.out
  have HX2 := Lib.hid x2
  have HXB := Lib.hid xb
  have q0 := cellH x1 0
  have q1 := cellH x1 1
  have r0 := cellH x2 0
  have r1 := cellH x2 1
  have r2 := cellH x2 2
  have rf := freeH x2
  simp only [List.getElem?_toArray, List.getElem?_cons_zero, List.getElem?_cons_succ] at q0 q1 r0 r1 r2
  clear x1 x2 xb
  cases vw
  · have HN : Hid (B = false) := Lib.hid HBB.out
    go_wp2_with fail
    obtain ⟨z1, z2⟩ := set3 HX2.out HXB.out (by omega) (.int .i64 0) (.int .i64 0) (.bool false)
    refine bodyPost_ret (results_cell_row Try.results11 _ _ (w.heap.size + 1) 29 _ (0, 0) _ rfl z1 Try.underlying29 rfl info_mt3) rfl ?_
    exact ⟨by rw [HF.out, HT.out, HN.out]; rfl, z2⟩
  cases fe
  · have HN : Hid (B = false) := Lib.hid (by
      rw [HBB.out]
      have h := HCI.out
      have h2 := HVW.out rfl
      by_cases h1 : 0 ≤ n
      · rw [decide_eq_false (show ¬ n ≤ (900 - o) / 2 by intro h3; have := h.2 ⟨h1, by omega⟩; simp at this)]; simp
      · rw [decide_eq_false h1]; rfl)
    go_wp2_with fail
    obtain ⟨z1, z2⟩ := set3 HX2.out HXB.out (by omega) (.int .i64 0) (.int .i64 0) (.bool false)
    refine bodyPost_ret (results_cell_row Try.results11 _ _ (w.heap.size + 1) 29 _ (0, 0) _ rfl z1 Try.underlying29 rfl info_mt3) rfl ?_
    exact ⟨by rw [HF.out, HT.out, HN.out]; rfl, z2⟩
  have hn := HCI.out.1 rfl
  have hv := HVW.out rfl
  have e1 : IntKind.i64.wrap (2 * n) = 2 * n := IntWalk.i64_in _ (by omega)
  have e2 : IntKind.i64.wrap (o + 2 * n) = o + 2 * n := IntWalk.i64_in _ (by omega)
  have e3 : IntKind.i64.wrap (f - n) = f - n := IntWalk.i64_in _ (by omega)
  have e4 : IntKind.i64.wrap (t + n) = t + n := IntWalk.i64_in _ (by omega)
  have HNV := Lib.hid (And.intro hn hv)
  clear hn hv
  go_wp2_with fail
  refine (H3.out _).mono ?_
  rintro e w4 ⟨rfl, hb4⟩
  have HB4 := Lib.hid (HB1.out.trans (hb4.mono HB1.out.size))
  clear hb4 q0 q1 r0 r1 r2 rf HX2 HXB
  obtain ⟨x1, x2, _, xb⟩ := HA.out _ HB4.out
  have HX2 := Lib.hid x2
  have HXB := Lib.hid xb
  have q0 := cellH x1 0
  have q1 := cellH x1 1
  have r0 := cellH x2 0
  have r1 := cellH x2 1
  have r2 := cellH x2 2
  have rf := freeH x2
  simp only [List.getElem?_toArray, List.getElem?_cons_zero, List.getElem?_cons_succ] at q0 q1 r0 r1 r2
  clear x1 x2 xb
  by_cases hw : 900 < o + 2 * n
  · have HN : Hid (B = false) := Lib.hid (by
      rw [HBB.out, decide_eq_false (show ¬ n ≤ (900 - o) / 2 by omega)]; simp)
    go_wp2_with fail
    obtain ⟨z1, z2⟩ := set3 HX2.out HXB.out (by omega) (.int .i64 0) (.int .i64 0) (.bool false)
    refine bodyPost_ret (results_cell_row Try.results11 _ _ (w.heap.size + 1) 29 _ (0, 0) _ rfl z1 Try.underlying29 rfl info_mt3) rfl ?_
    exact ⟨by rw [HF.out, HT.out, HN.out]; rfl, z2⟩
  · have HN : Hid (B = true) := Lib.hid (by
      rw [HBB.out, decide_eq_true (show n ≤ (900 - o) / 2 by omega), decide_eq_true HNV.out.1.1]; rfl)
    go_wp2_with fail
    have HK : Hid (∀ w', Below w4.heap.size w4 w' → w'.cell? ⟨w.heap.size, 0, none⟩ = some (.int .i64 f) ∧ w'.cell? ⟨w.heap.size, 1, none⟩ = some (.int .i64 t)) := Lib.hid (fun w' h => by
      have x0 := (HA.out w' (HB4.out.trans (h.mono HB4.out.size))).1
      exact ⟨cellH x0 0, cellH x0 1⟩)
    have C1 : Hid (∀ w', Below w4.heap.size w4 w' → Calls Try.prog 34 #[.int .i64 (f - n)] w' fun e w'' => e = .returned (.int .i64 ((f - n) % 3600)) ∧ Below w4.heap.size w4 w'') := Lib.hid (fun w' h => (HT1.out w').mono fun e w'' ⟨he, hh⟩ => ⟨he, by rw [hh]; exact h⟩)
    have C2 : Hid (∀ w', Below w4.heap.size w4 w' → Calls Try.prog 34 #[.int .i64 (t + n)] w' fun e w'' => e = .returned (.int .i64 ((t + n) % 3600)) ∧ Below w4.heap.size w4 w'') := Lib.hid (fun w' h => (HT2.out w').mono fun e w'' ⟨he, hh⟩ => ⟨he, by rw [hh]; exact h⟩)
    clear q0 q1 r0 r1 r2 rf HX2 HXB
    refine wp_region_turn 12 (fun _ w' => Below w4.heap.size w4 w') (by kernel_rfl) (by kernel_rfl) ((Below.refl _ w4).drew) ?_
    simp only [List.take_succ_cons, List.take_zero, List.drop_succ_cons, List.drop_zero]
    iterate 12
      (first
        | (apply turnC_step (by rfl); (intro w' hw'; obtain ⟨q0, q1⟩ := HK.out w' hw'; go_simp; first | with_reducible exact ⟨hw', rfl⟩ | with_reducible exact rfl | with_reducible exact ⟨hw', congrArg (Value.int .i64) e3⟩ | with_reducible exact ⟨hw', congrArg (Value.int .i64) e4⟩))
        | (apply turnC_step (by rfl); (intro w' hw'; go_simp; first | with_reducible exact C1.out w' hw' | with_reducible exact C2.out w' hw')))
      simp only [Act.put, List.setIfInBounds_toArray, List.set_cons_succ, List.set_cons_zero]
    intro listed w5 _ hw5
    have HB5 := Lib.hid (HB4.out.trans (hw5.mono HB4.out.size))
    clear hw5 HK C1 C2
    obtain ⟨x1, x2, _, xb⟩ := HA.out _ HB5.out
    have HX2 := Lib.hid x2
    have HXB := Lib.hid xb
    have r0 := cellH x2 0
    have r1 := cellH x2 1
    have r2 := cellH x2 2
    have rf := freeH x2
    simp only [List.getElem?_toArray, List.getElem?_cons_zero, List.getElem?_cons_succ] at r0 r1 r2
    clear x1 x2 xb
    go_wp2_with fail
    obtain ⟨z1, z2⟩ := set3 HX2.out HXB.out (by omega) (.int .i64 ((f - n) % 3600)) (.int .i64 ((t + n) % 3600)) (.bool true)
    refine bodyPost_ret (results_cell_row Try.results11 _ _ (w.heap.size + 1) 29 _ (0, 0) _ rfl z1 Try.underlying29 rfl info_mt3) rfl ?_
    exact ⟨by rw [HF.out, HT.out, HN.out]; rfl, z2⟩
end Go.Proofs.Ytpaihnjgpookjaa
