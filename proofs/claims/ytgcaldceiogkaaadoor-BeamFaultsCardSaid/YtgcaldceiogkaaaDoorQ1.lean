/- The reference's Can. -/
import Derived.Test.YtgcaldceiogkaaaDoorP9
import Derived.Test.YtgcaldceiogkaaaDoorE4
namespace Go.Proofs.YtgcaldceiogkaaaDoor
open Go.RowKit Go.Shelf

theorem touch_any (l : List Flt) (p : Int) : decide (0 < (touchR l p : Int)) = l.any (covers p) := by
  unfold touchR
  rw [Bool.eq_iff_iff]
  simp only [decide_eq_true_eq, List.any_eq_true]
  exact ⟨fun h => List.countP_pos_iff.1 (by omega), fun h => by have := List.countP_pos_iff.2 h; omega⟩
/-- The fault itself is wrong. -/
def argB (n : Int) (f : Flt) : Bool := decide (f.1 < 1) || decide (3 < f.1) || decide (f.2 < 0) || decide (n ≤ f.2) || decide (f.1 = 3) && decide (n - 1 ≤ f.2)
theorem errF_alt (n : Int) (pre : List Flt) (f : Flt) : errF n pre f = if argB n f then 1 else if pre.any (covers f.2) || decide (f.1 = 3) && pre.any (covers (f.2 + 1)) then 6 else 0 := by
  have h : argB n f = decide (widthZ f.1 = 0 ∨ f.2 < 0 ∨ n - widthZ f.1 < f.2) := by
    unfold argB widthZ
    rw [Bool.eq_iff_iff]
    simp only [Bool.or_eq_true, Bool.and_eq_true, decide_eq_true_eq]
    split
    · omega
    · split
      · omega
      · omega
  unfold errF
  rw [h]
  by_cases hc : widthZ f.1 = 0 ∨ f.2 < 0 ∨ n - widthZ f.1 < f.2
  · rw [if_pos hc, decide_eq_true hc]; rfl
  · rw [if_neg hc, decide_eq_false hc]
    simp only [Bool.false_eq_true, if_false]
    by_cases hb : pre.any (covers f.2) = true ∨ (f.1 = 3 ∧ pre.any (covers (f.2 + 1)) = true)
    · have e : (pre.any (covers f.2) || decide (f.1 = 3) && pre.any (covers (f.2 + 1))) = true := by
        simp only [Bool.or_eq_true, Bool.and_eq_true, decide_eq_true_eq]; exact hb
      rw [if_pos hb, if_pos e]
    · have e : ¬ (pre.any (covers f.2) || decide (f.1 = 3) && pre.any (covers (f.2 + 1))) = true := by
        simp only [Bool.or_eq_true, Bool.and_eq_true, decide_eq_true_eq]; exact hb
      rw [if_neg hb, if_neg e]
theorem FRow.cut {w : World} {b off n cap : Nat} {l : List Flt} (h : FRow w (.slice (some ⟨b, off, none⟩) n cap) l) (k : Nat) (hk : k ≤ l.length) (hk0 : 0 < l.length) : FRow w (.slice (some ⟨b, off, none⟩) k cap) (l.take k) := by
  rcases h with ⟨a, c, e, rfl⟩ | ⟨b', off', c, e, hb, hc⟩
  · simp at hk0
  · cases e
    refine .inr ⟨b, off, cap, by rw [List.length_take]; congr 1; omega, hb, fun i hi => ?_⟩
    rw [List.length_take] at hi
    have := hc i (by omega)
    have e2 : (l.take k).getD i (0, 0) = l.getD i (0, 0) := by
      rw [List.getD_eq_getElem?_getD, List.getD_eq_getElem?_getD, List.getElem?_take_of_lt (by omega)]
    rw [e2]; exact this
end Go.Proofs.YtgcaldceiogkaaaDoor
