/- Small functions of package circle and of its reference: within, turn, turnedLeft, turnedRight, onMap, validDivision, validZero, validSlack, validID. -/
import Derived.Test.YtpaihnjgpookjaaHA0
set_option linter.unusedVariables false
set_option linter.unusedSimpArgs false
namespace Go.Proofs.Ytpaihnjgpookjaa
open Go Go.RowKit

def ciB (n a b : Int) : Bool := decide (a ≤ n) && decide (n ≤ b)
theorem ci_iff {n a b : Int} : ciB n a b = true ↔ a ≤ n ∧ n ≤ b := by unfold ciB; rw [Bool.and_eq_true, decide_eq_true_eq, decide_eq_true_eq]
theorem qwithin_any (n a b : Int) (w : World) : Calls Try.prog 71 #[.int .i64 n, .int .i64 a, .int .i64 b] w fun e w' => e = .returned (.bool (ciB n a b)) ∧ w' = w := by
  have HV : Hid (ciB n a b = (decide (a ≤ n) && decide (n ≤ b))) := Lib.hid rfl
  by_cases h : a ≤ n
  all_goals
    try have g : decide (a ≤ n) = false := decide_eq_false h
    go_enter Try.func71, Try.ntmps71
    go_wp2_with fail
    go_ret
    exact ⟨by rw [HV.out]; simp [h] <;> omega, rfl⟩
theorem pwithin_any (n a b : Int) (w : World) : Calls Try.prog 36 #[.int .i64 n, .int .i64 a, .int .i64 b] w fun e w' => e = .returned (.bool (ciB n a b)) ∧ w' = w := by
  have HV : Hid (ciB n a b = (decide (a ≤ n) && decide (n ≤ b))) := Lib.hid rfl
  by_cases h : a ≤ n
  all_goals
    try have g : decide (a ≤ n) = false := decide_eq_false h
    go_enter Try.func36, Try.ntmps36
    go_wp2_with fail
    go_ret
    exact ⟨by rw [HV.out]; simp [h] <;> omega, rfl⟩
theorem validDivision_any (n : Int) (w : World) : Calls Try.prog 43 #[.int .i64 n] w fun e w' => e = .returned (.bool (ciB n 0 3599)) ∧ w' = w := by
  go_enter Try.func43, Try.ntmps43
  go_wp2_with fail
  refine (qwithin_any _ _ _ _).mono ?_
  rintro e w1 ⟨rfl, rfl⟩
  go_wp2_with fail
  go_ret
  exact ⟨rfl, rfl⟩
theorem validZero_any (n : Int) (w : World) : Calls Try.prog 74 #[.int .i64 n] w fun e w' => e = .returned (.bool (ciB n (-300) 300)) ∧ w' = w := by
  go_enter Try.func74, Try.ntmps74
  go_wp2_with fail
  refine (qwithin_any _ _ _ _).mono ?_
  rintro e w1 ⟨rfl, rfl⟩
  go_wp2_with fail
  go_ret
  exact ⟨rfl, rfl⟩
theorem validSlack_any (n : Int) (w : World) : Calls Try.prog 75 #[.int .i64 n] w fun e w' => e = .returned (.bool (ciB n 1 100)) ∧ w' = w := by
  go_enter Try.func75, Try.ntmps75
  go_wp2_with fail
  refine (qwithin_any _ _ _ _).mono ?_
  rintro e w1 ⟨rfl, rfl⟩
  go_wp2_with fail
  go_ret
  exact ⟨rfl, rfl⟩
theorem validID_any (n : Int) (w : World) : Calls Try.prog 82 #[.int .i64 n] w fun e w' => e = .returned (.bool (ciB n 1 1099511627776)) ∧ w' = w := by
  go_enter Try.func82, Try.ntmps82
  go_wp2_with fail
  refine (qwithin_any _ _ _ _).mono ?_
  rintro e w1 ⟨rfl, rfl⟩
  go_wp2_with fail
  go_ret
  exact ⟨rfl, rfl⟩
theorem tmod_c {n : Int} : -3600 < n.tmod 3600 ∧ n.tmod 3600 < 3600 ∧ (0 ≤ n → n.tmod 3600 = n % 3600) ∧ (n.tmod 3600) % 3600 = n % 3600 ∧ (n < 0 → n.tmod 3600 ≤ 0) := by
  rcases Int.lt_or_le n 0 with h | h
  · have e : n.tmod 3600 = -((-n) % 3600) := by rw [← Int.tmod_eq_emod_of_nonneg (by omega), Int.neg_tmod, Int.neg_neg]
    rw [e]
    omega
  · rw [Int.tmod_eq_emod_of_nonneg h]; omega
theorem qturn_any (n : Int) (w : World) : Calls Try.prog 31 #[.int .i64 n] w fun e w' => e = .returned (.int .i64 (n % 3600)) ∧ w' = w := by
  obtain ⟨h1, h2, _, h4, _⟩ := tmod_c (n := n)
  obtain ⟨_, _, h3, _, _⟩ := tmod_c (n := n.tmod 3600 + 3600)
  obtain ⟨r, hr⟩ : ∃ r, n.tmod 3600 = r := ⟨_, rfl⟩
  have h5 := h3 (by omega)
  rw [hr] at h1 h2 h4 h5
  have e1 : IntKind.i64.wrap r = r := IntWalk.i64_in _ (by omega)
  have e2 : IntKind.i64.wrap (r + 3600) = r + 3600 := IntWalk.i64_in _ (by omega)
  have HE : Hid ((r + 3600) % 3600 = n % 3600) := Lib.hid (by omega)
  have e3 : IntKind.i64.wrap ((r + 3600).tmod 3600) = (r + 3600).tmod 3600 := IntWalk.i64_in _ (by rw [h5]; omega)
  have HF := Lib.hid h5
  clear h1 h2 h3 h4 h5
  go_enter Try.func31, Try.ntmps31
  go_wp2_with fail
  go_ret
  exact ⟨by rw [← HE.out, ← HF.out]; rfl, rfl⟩
theorem pTurn_any (n : Int) (w : World) : Calls Try.prog 34 #[.int .i64 n] w fun e w' => e = .returned (.int .i64 (n % 3600)) ∧ w' = w := by
  obtain ⟨h1, h2, _, h4, _⟩ := tmod_c (n := n)
  obtain ⟨r, hr⟩ : ∃ r, n.tmod 3600 = r := ⟨_, rfl⟩
  rw [hr] at h1 h2 h4
  have e1 : IntKind.i64.wrap r = r := IntWalk.i64_in _ (by omega)
  have e2 : IntKind.i64.wrap (r + 3600) = r + 3600 := IntWalk.i64_in _ (by omega)
  by_cases h0 : r < 0
  · have HE : Hid (r + 3600 = n % 3600) := Lib.hid (by omega)
    clear h1 h2 h4
    go_enter Try.func34, Try.ntmps34
    go_wp2_with fail
    go_ret
    exact ⟨by rw [← HE.out]; rfl, rfl⟩
  · have HE : Hid (r = n % 3600) := Lib.hid (by omega)
    clear h1 h2 h4
    go_enter Try.func34, Try.ntmps34
    go_wp2_with fail
    go_ret
    exact ⟨by rw [← HE.out]; rfl, rfl⟩
/-- A place is one of the map. -/
def omB (x y : Int) : Bool := ciB x 0 48 && ciB y 0 48
theorem om_iff {x y : Int} : omB x y = true ↔ (0 ≤ x ∧ x ≤ 48) ∧ 0 ≤ y ∧ y ≤ 48 := by unfold omB; rw [Bool.and_eq_true, ci_iff, ci_iff]
theorem onMap_any (x y : Int) (w : World) : Calls Try.prog 46 #[.agg #[.int .i64 x, .int .i64 y]] w fun e w' => e = .returned (.bool (omB x y)) ∧ Below w.heap.size w w' := by
  have HB := Lib.hid ((Below.refl w.heap.size w).alloc (Nat.le_refl _) (.cells #[.int .i64 x, .int .i64 y] 25))
  have H1 := Lib.hid (fun w' => qwithin_any x 0 48 w')
  have H2 := Lib.hid (fun w' => qwithin_any y 0 48 w')
  unfold omB
  obtain ⟨b1, hb1⟩ : ∃ z, ciB x 0 48 = z := ⟨_, rfl⟩
  obtain ⟨b2, hb2⟩ : ∃ z, ciB y 0 48 = z := ⟨_, rfl⟩
  rw [hb1] at H1 ⊢
  rw [hb2] at H2 ⊢
  clear hb1 hb2
  go_enter Try.func46, Try.ntmps46
  go_wp2_with fail
  refine (H1.out _).mono ?_
  rintro e w1 ⟨rfl, rfl⟩
  cases b1
  · go_wp2_with fail
    go_ret
    exact ⟨rfl, HB.out⟩
  go_wp2_with fail
  refine (H2.out _).mono ?_
  rintro e w1 ⟨rfl, rfl⟩
  go_wp2_with fail
  go_ret
  exact ⟨by simp, HB.out⟩
theorem pOn_any (x y : Int) (w : World) : Calls Try.prog 19 #[.agg #[.int .i64 x, .int .i64 y]] w fun e w' => e = .returned (.bool (omB x y)) ∧ Below w.heap.size w w' := by
  have HB := Lib.hid ((Below.refl w.heap.size w).alloc (Nat.le_refl _) (.cells #[.int .i64 x, .int .i64 y] 25))
  have H1 := Lib.hid (fun w' => pwithin_any x 0 48 w')
  have H2 := Lib.hid (fun w' => pwithin_any y 0 48 w')
  unfold omB
  obtain ⟨b1, hb1⟩ : ∃ z, ciB x 0 48 = z := ⟨_, rfl⟩
  obtain ⟨b2, hb2⟩ : ∃ z, ciB y 0 48 = z := ⟨_, rfl⟩
  rw [hb1] at H1 ⊢
  rw [hb2] at H2 ⊢
  clear hb1 hb2
  go_enter Try.func19, Try.ntmps19
  go_wp2_with fail
  refine (H1.out _).mono ?_
  rintro e w1 ⟨rfl, rfl⟩
  go_wp2_with fail
  refine (H2.out _).mono ?_
  rintro e w1 ⟨rfl, rfl⟩
  cases b1
  · go_wp2_with fail
    go_ret
    exact ⟨rfl, HB.out⟩
  go_wp2_with fail
  go_ret
  exact ⟨by simp, HB.out⟩
end Go.Proofs.Ytpaihnjgpookjaa
