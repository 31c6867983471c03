/- Package firetowerlaw05: few, CircleChecks. -/
import Derived.Test.YtebdboacmeafaaaGreatCD9
import Derived.Test.YtebdboacmeafaaaGreatCF0
import Derived.Laws.StructEq
set_option linter.unusedVariables false
set_option linter.unusedSimpArgs false
namespace Go.Proofs.YtebdboacmeafaaaGreat
open Go Go.RowKit

theorem upH {P : Program} {f : FuncId} {args : Array Value} {v : Value} {w Z : World} (hb : Below w.heap.size w Z) (h : ∀ w', Below w.heap.size w w' → Calls P f args w' fun e w'' => e = .returned v ∧ Below w'.heap.size w' w'') : ∀ w', Below Z.heap.size Z w' → Calls P f args w' fun e w'' => e = .returned v ∧ Below Z.heap.size Z w'' :=
  fun w' h' => (h w' (hb.trans (h'.mono hb.size))).mono fun e w'' ⟨he, hh⟩ => ⟨he, h'.trans (hh.mono h'.size)⟩
/-- At most five circles and ten checks, or too many of either. -/
def fwB (n m : Nat) : Bool := decide (12 < n) || decide (60 < m) || decide (n ≤ 5) && decide (m ≤ 10)
set_option maxRecDepth 100000 in
set_option maxHeartbeats 8000000 in
theorem few_any (a1 a2 : Option Addr) (n c1 m c2 : Nat) (w : World) : Calls Tryz.prog 7 #[.agg #[.slice a1 n c1, .slice a2 m c2]] w fun e w' => e = .returned (.bool (fwB n m)) ∧ Below w.heap.size w w' := by
  have HB := Lib.hid ((Below.refl w.heap.size w).alloc (Nat.le_refl _) (.cells #[.slice a1 n c1, .slice a2 m c2] 25))
  have HV : Hid (fwB n m = (decide (12 < n) || decide (60 < m) || decide (n ≤ 5) && decide (m ≤ 10))) := Lib.hid rfl
  obtain ⟨B, hB⟩ : ∃ B, fwB n m = B := ⟨_, rfl⟩
  rw [hB] at HV ⊢
  clear hB
  by_cases h1 : 12 < n
  · have i1 : (12 : Int) < (n : Int) := by omega
    have HN : Hid (B = true) := Lib.hid (by rw [HV.out, decide_eq_true h1]; rfl)
    go_enter Tryz.func7, Tryz.ntmps7
    go_wp2_with fail
    go_ret
    exact ⟨by rw [HN.out]; rfl, HB.out⟩
  have i1 : ¬ (12 : Int) < (n : Int) := by omega
  by_cases h2 : 60 < m
  · have i2 : (60 : Int) < (m : Int) := by omega
    have HN : Hid (B = true) := Lib.hid (by rw [HV.out, decide_eq_true h2]; simp)
    go_enter Tryz.func7, Tryz.ntmps7
    go_wp2_with fail
    go_ret
    exact ⟨by rw [HN.out]; rfl, HB.out⟩
  have i2 : ¬ (60 : Int) < (m : Int) := by omega
  by_cases h3 : n ≤ 5
  · have i3 : (n : Int) ≤ 5 := by omega
    by_cases h4 : m ≤ 10
    · have i4 : (m : Int) ≤ 10 := by omega
      have HN : Hid (B = true) := Lib.hid (by rw [HV.out, decide_eq_true h3, decide_eq_true h4]; simp)
      go_enter Tryz.func7, Tryz.ntmps7
      go_wp2_with fail
      go_ret
      exact ⟨by rw [HN.out]; rfl, HB.out⟩
    have i4 : ¬ (m : Int) ≤ 10 := by omega
    have HN : Hid (B = false) := Lib.hid (by rw [HV.out, decide_eq_false h1, decide_eq_false h2, decide_eq_false h4]; simp)
    go_enter Tryz.func7, Tryz.ntmps7
    go_wp2_with fail
    go_ret
    exact ⟨by rw [HN.out]; rfl, HB.out⟩
  have i3 : ¬ (n : Int) ≤ 5 := by omega
  have HN : Hid (B = false) := Lib.hid (by rw [HV.out, decide_eq_false h1, decide_eq_false h2, decide_eq_false h3]; rfl)
  go_enter Tryz.func7, Tryz.ntmps7
  go_wp2_with fail
  go_ret
  exact ⟨by rw [HN.out]; rfl, HB.out⟩
end Go.Proofs.YtebdboacmeafaaaGreat
