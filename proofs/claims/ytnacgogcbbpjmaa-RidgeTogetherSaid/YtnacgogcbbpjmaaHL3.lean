/- few and maps of the law. -/
import Derived.Test.YtnacgogcbbpjmaaHL1
set_option linter.unusedVariables false
set_option linter.unusedSimpArgs false
namespace Go.Proofs.Ytnacgogcbbpjmaa
open Go Go.RowKit

def fewB (n t h : Nat) : Bool := decide (n ≤ 60) && (decide (t ≤ 5) || decide (12 < t) && decide (t ≤ 20)) && (decide (h ≤ 8) || decide (60 < h) && decide (h ≤ 70))
set_option maxRecDepth 100000 in
set_option maxHeartbeats 2000000 in
theorem few_any (wd hg : Int) (o tv hv : Value) (g : List Int) (T : List Tw) (H : List Hz) (w : World) (ho : INRow w o g) (ht : TwRow w tv T) (hh : HzRow w hv H) :
    Calls Try.prog 6 #[coV wd hg o tv hv] w fun e w' => e = .returned (.bool (fewB g.length T.length H.length)) ∧ Below w.heap.size w w' := by
  obtain ⟨oa, ocap, rfl, _⟩ := ho.form
  obtain ⟨at0, tcap, rfl, _⟩ := ht.form
  obtain ⟨ah, hcap, rfl, _⟩ := hh.form
  obtain ⟨n, hn⟩ : ∃ n, g.length = n := ⟨_, rfl⟩
  obtain ⟨t, htn⟩ : ∃ n, T.length = n := ⟨_, rfl⟩
  obtain ⟨h, hhn⟩ : ∃ n, H.length = n := ⟨_, rfl⟩
  rw [hn, htn, hhn]
  clear ho ht hh hn htn hhn
  have HB0 := Lib.hid ((Below.refl _ w).alloc (Nat.le_refl w.heap.size) (.cells #[.int .i64 wd, .int .i64 hg, .slice oa n ocap, .slice at0 t tcap, .slice ah h hcap] 28))
  unfold coV
  by_cases c0 : n ≤ 60
  case neg =>
    have x : ¬ (n : Int) ≤ 60 := by omega
    have xd : decide ((n : Int) ≤ 60) = false := decide_eq_false x
    have HN : Hid (fewB n t h = false) := Lib.hid (by unfold fewB; simp only [Bool.and_eq_true, Bool.or_eq_true, decide_eq_true_eq, Bool.eq_false_iff, ne_eq]; omega)
    rw [HN.out]
    go_enter Try.func6, Try.ntmps6
    go_wp2_with fail
    go_ret
    exact ⟨rfl, HB0.out⟩
  have x : (n : Int) ≤ 60 := by omega
  have ct : (t ≤ 5) ∨ (5 < t ∧ t ≤ 12) ∨ (12 < t ∧ t ≤ 20) ∨ (20 < t) := by omega
  have ch : (h ≤ 8) ∨ (8 < h ∧ h ≤ 60) ∨ (60 < h ∧ h ≤ 70) ∨ (70 < h) := by omega
  rcases ct with ct | ct | ct | ct
  · rcases ch with ch | ch | ch | ch
    · have y0 : (t : Int) ≤ 5 := by omega
      have z0 : (h : Int) ≤ 8 := by omega
      have HN : Hid (fewB n t h = true) := Lib.hid (by unfold fewB; simp only [Bool.and_eq_true, Bool.or_eq_true, decide_eq_true_eq, Bool.eq_false_iff, ne_eq]; omega)
      rw [HN.out]
      go_enter Try.func6, Try.ntmps6
      go_wp2_with fail
      go_ret
      exact ⟨rfl, HB0.out⟩
    · have y0 : (t : Int) ≤ 5 := by omega
      have z0 : ¬ (h : Int) ≤ 8 := by omega
      have z0d : decide ((h : Int) ≤ 8) = false := decide_eq_false z0
      have z1 : ¬ (60 : Int) < h := by omega
      have z1d : decide ((60 : Int) < h) = false := decide_eq_false z1
      have HN : Hid (fewB n t h = false) := Lib.hid (by unfold fewB; simp only [Bool.and_eq_true, Bool.or_eq_true, decide_eq_true_eq, Bool.eq_false_iff, ne_eq]; omega)
      rw [HN.out]
      go_enter Try.func6, Try.ntmps6
      go_wp2_with fail
      go_ret
      exact ⟨rfl, HB0.out⟩
    · have y0 : (t : Int) ≤ 5 := by omega
      have z0 : ¬ (h : Int) ≤ 8 := by omega
      have z0d : decide ((h : Int) ≤ 8) = false := decide_eq_false z0
      have z1 : (60 : Int) < h := by omega
      have z2 : (h : Int) ≤ 70 := by omega
      have HN : Hid (fewB n t h = true) := Lib.hid (by unfold fewB; simp only [Bool.and_eq_true, Bool.or_eq_true, decide_eq_true_eq, Bool.eq_false_iff, ne_eq]; omega)
      rw [HN.out]
      go_enter Try.func6, Try.ntmps6
      go_wp2_with fail
      go_ret
      exact ⟨rfl, HB0.out⟩
    · have y0 : (t : Int) ≤ 5 := by omega
      have z0 : ¬ (h : Int) ≤ 8 := by omega
      have z0d : decide ((h : Int) ≤ 8) = false := decide_eq_false z0
      have z1 : (60 : Int) < h := by omega
      have z2 : ¬ (h : Int) ≤ 70 := by omega
      have z2d : decide ((h : Int) ≤ 70) = false := decide_eq_false z2
      have HN : Hid (fewB n t h = false) := Lib.hid (by unfold fewB; simp only [Bool.and_eq_true, Bool.or_eq_true, decide_eq_true_eq, Bool.eq_false_iff, ne_eq]; omega)
      rw [HN.out]
      go_enter Try.func6, Try.ntmps6
      go_wp2_with fail
      go_ret
      exact ⟨rfl, HB0.out⟩
  · have y0 : ¬ (t : Int) ≤ 5 := by omega
    have y0d : decide ((t : Int) ≤ 5) = false := decide_eq_false y0
    have y1 : ¬ (12 : Int) < t := by omega
    have y1d : decide ((12 : Int) < t) = false := decide_eq_false y1
    have HN : Hid (fewB n t h = false) := Lib.hid (by unfold fewB; simp only [Bool.and_eq_true, Bool.or_eq_true, decide_eq_true_eq, Bool.eq_false_iff, ne_eq]; omega)
    rw [HN.out]
    go_enter Try.func6, Try.ntmps6
    go_wp2_with fail
    go_ret
    exact ⟨rfl, HB0.out⟩
  · rcases ch with ch | ch | ch | ch
    · have y0 : ¬ (t : Int) ≤ 5 := by omega
      have y0d : decide ((t : Int) ≤ 5) = false := decide_eq_false y0
      have y1 : (12 : Int) < t := by omega
      have y2 : (t : Int) ≤ 20 := by omega
      have z0 : (h : Int) ≤ 8 := by omega
      have HN : Hid (fewB n t h = true) := Lib.hid (by unfold fewB; simp only [Bool.and_eq_true, Bool.or_eq_true, decide_eq_true_eq, Bool.eq_false_iff, ne_eq]; omega)
      rw [HN.out]
      go_enter Try.func6, Try.ntmps6
      go_wp2_with fail
      go_ret
      exact ⟨rfl, HB0.out⟩
    · have y0 : ¬ (t : Int) ≤ 5 := by omega
      have y0d : decide ((t : Int) ≤ 5) = false := decide_eq_false y0
      have y1 : (12 : Int) < t := by omega
      have y2 : (t : Int) ≤ 20 := by omega
      have z0 : ¬ (h : Int) ≤ 8 := by omega
      have z0d : decide ((h : Int) ≤ 8) = false := decide_eq_false z0
      have z1 : ¬ (60 : Int) < h := by omega
      have z1d : decide ((60 : Int) < h) = false := decide_eq_false z1
      have HN : Hid (fewB n t h = false) := Lib.hid (by unfold fewB; simp only [Bool.and_eq_true, Bool.or_eq_true, decide_eq_true_eq, Bool.eq_false_iff, ne_eq]; omega)
      rw [HN.out]
      go_enter Try.func6, Try.ntmps6
      go_wp2_with fail
      go_ret
      exact ⟨rfl, HB0.out⟩
    · have y0 : ¬ (t : Int) ≤ 5 := by omega
      have y0d : decide ((t : Int) ≤ 5) = false := decide_eq_false y0
      have y1 : (12 : Int) < t := by omega
      have y2 : (t : Int) ≤ 20 := by omega
      have z0 : ¬ (h : Int) ≤ 8 := by omega
      have z0d : decide ((h : Int) ≤ 8) = false := decide_eq_false z0
      have z1 : (60 : Int) < h := by omega
      have z2 : (h : Int) ≤ 70 := by omega
      have HN : Hid (fewB n t h = true) := Lib.hid (by unfold fewB; simp only [Bool.and_eq_true, Bool.or_eq_true, decide_eq_true_eq, Bool.eq_false_iff, ne_eq]; omega)
      rw [HN.out]
      go_enter Try.func6, Try.ntmps6
      go_wp2_with fail
      go_ret
      exact ⟨rfl, HB0.out⟩
    · have y0 : ¬ (t : Int) ≤ 5 := by omega
      have y0d : decide ((t : Int) ≤ 5) = false := decide_eq_false y0
      have y1 : (12 : Int) < t := by omega
      have y2 : (t : Int) ≤ 20 := by omega
      have z0 : ¬ (h : Int) ≤ 8 := by omega
      have z0d : decide ((h : Int) ≤ 8) = false := decide_eq_false z0
      have z1 : (60 : Int) < h := by omega
      have z2 : ¬ (h : Int) ≤ 70 := by omega
      have z2d : decide ((h : Int) ≤ 70) = false := decide_eq_false z2
      have HN : Hid (fewB n t h = false) := Lib.hid (by unfold fewB; simp only [Bool.and_eq_true, Bool.or_eq_true, decide_eq_true_eq, Bool.eq_false_iff, ne_eq]; omega)
      rw [HN.out]
      go_enter Try.func6, Try.ntmps6
      go_wp2_with fail
      go_ret
      exact ⟨rfl, HB0.out⟩
  · have y0 : ¬ (t : Int) ≤ 5 := by omega
    have y0d : decide ((t : Int) ≤ 5) = false := decide_eq_false y0
    have y1 : (12 : Int) < t := by omega
    have y2 : ¬ (t : Int) ≤ 20 := by omega
    have y2d : decide ((t : Int) ≤ 20) = false := decide_eq_false y2
    have HN : Hid (fewB n t h = false) := Lib.hid (by unfold fewB; simp only [Bool.and_eq_true, Bool.or_eq_true, decide_eq_true_eq, Bool.eq_false_iff, ne_eq]; omega)
    rw [HN.out]
    go_enter Try.func6, Try.ntmps6
    go_wp2_with fail
    go_ret
    exact ⟨rfl, HB0.out⟩
end Go.Proofs.Ytnacgogcbbpjmaa
