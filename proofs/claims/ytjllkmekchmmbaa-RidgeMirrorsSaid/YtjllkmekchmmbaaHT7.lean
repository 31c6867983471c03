/- Theory of ridge: lines on a map that is turned over. -/
import Derived.Test.YtjllkmekchmmbaaHT0
import Derived.Test.YtjllkmekchmmbaaHT4
import Derived.Test.YtjllkmekchmmbaaHG1
set_option linter.unusedVariables false
set_option linter.unusedSimpArgs false
namespace Go.Proofs.Ytjllkmekchmmbaa
open Go Go.RowKit

/-- The ground at a crossing, by the heights at all places. -/
def grH (H : Pl → Int) (n k : Int) (f t : Pl) : Int := (n - beyP n k f t) * H (loP n k f t) + beyP n k f t * H (hiP n k f t)
theorem grP_H (g : List Int) (wd n k : Int) (f t : Pl) : grP g wd n k f t = grH (hAt g wd) n k f t := rfl
theorem at_flip (n k f t c : Int) : atP n k (c - f) (c - t) = n * c - atP n k f t := by
  unfold atP
  rw [Int.mul_sub, Int.mul_sub, Int.sub_mul, Int.sub_mul]; omega
theorem flip_parts {n A c : Int} (hn : 1 ≤ n) : (A % n = 0 ∧ (n * c - A) % n = 0 ∧ (n * c - A) / n = c - A / n ∧ (n * c - A + n - 1) / n = c - (A + n - 1) / n) ∨ (0 < A % n ∧ (n * c - A) % n = n - A % n ∧ (n * c - A) / n = c - (A + n - 1) / n ∧ (n * c - A + n - 1) / n = c - A / n) := by
  have h1 := Int.emod_nonneg A (show n ≠ 0 by omega)
  have h2 := Int.emod_lt_of_pos A (show 0 < n by omega)
  have h3 := Int.mul_ediv_add_emod A n
  have hu := up_whole (x := A) hn
  by_cases h : A % n = 0
  · left
    have e : n * c - A = n * (c - A / n) := by rw [Int.mul_sub]; omega
    refine ⟨h, by rw [e, Int.mul_emod_right], by rw [e, Int.mul_ediv_cancel_left _ (by omega)], ?_⟩
    rw [hu, if_neg (by omega), e, up_line hn]
  · right
    have hp : 0 < A % n := by omega
    have e : n * c - A = (n - A % n) + n * (c - A / n - 1) := by rw [Int.mul_sub, Int.mul_sub, Int.mul_one]; omega
    refine ⟨hp, ?_, ?_, ?_⟩
    · rw [e, Int.add_mul_emod_self_left, Int.emod_eq_of_lt (by omega) (by omega)]
    · rw [hu, if_pos hp, e, Int.add_mul_ediv_left _ _ (by omega), Int.ediv_eq_zero_of_lt (by omega) (by omega)]; omega
    · rw [e, show n - A % n + n * (c - A / n - 1) + n - 1 = (n - A % n - 1) + n * (c - A / n) by rw [Int.mul_sub, Int.mul_one]; omega, Int.add_mul_ediv_left _ _ (by omega), Int.ediv_eq_zero_of_lt (by omega) (by omega)]; omega
theorem whole_parts {n A : Int} (hn : 1 ≤ n) (h : A % n = 0) : (A + n - 1) / n = A / n := by
  rw [up_whole hn, if_neg (by omega)]
def flX (c : Int) (p : Pl) : Pl := (c - p.1, p.2)
def flY (c : Int) (p : Pl) : Pl := (p.1, c - p.2)
def flS (p : Pl) : Pl := (p.2, p.1)
/-- The line meets a column, or a row, or a place. -/
def onAx (n k : Int) (f t : Pl) : Prop := atP n k f.1 t.1 % n = 0 ∨ atP n k f.2 t.2 % n = 0
theorem grH_X {H : Pl → Int} {n k c : Int} {f t : Pl} (hn : 1 ≤ n) (ho : onAx n k f t) : grH (fun p => H (flX c p)) n k (flX c f) (flX c t) = grH H n k f t := by
  unfold grH beyP loP hiP flX
  simp only
  rw [at_flip]
  rcases flip_parts (A := atP n k f.1 t.1) (c := c) hn with ⟨h1, h2, h3, h4⟩ | ⟨h1, h2, h3, h4⟩
  · rw [h1, h2, h3, h4]
    simp only [show ∀ z : Int, c - (c - z) = z from fun z => by omega]
  · have hz : atP n k f.2 t.2 % n = 0 := by rcases ho with h | h <;> omega
    rw [h2, h3, h4, hz, whole_parts hn hz]
    simp only [show ∀ z : Int, c - (c - z) = z from fun z => by omega]
    rw [Int.add_zero, Int.add_zero, show n - (n - atP n k f.1 t.1 % n) = atP n k f.1 t.1 % n by omega]
    exact Int.add_comm _ _
theorem grH_S {H : Pl → Int} {n k : Int} {f t : Pl} : grH (fun p => H (flS p)) n k (flS f) (flS t) = grH H n k f t := by
  unfold grH beyP loP hiP flS
  simp only
  rw [Int.add_comm (atP n k f.2 t.2 % n)]
theorem grH_Y {H : Pl → Int} {n k c : Int} {f t : Pl} (hn : 1 ≤ n) (ho : onAx n k f t) : grH (fun p => H (flY c p)) n k (flY c f) (flY c t) = grH H n k f t := by
  have h := grH_X (H := fun p => H (flS p)) (n := n) (k := k) (c := c) (f := flS f) (t := flS t) hn (by unfold onAx flS at *; simp only; exact ho.symm)
  have h2 := grH_S (H := fun p => H (flY c p)) (n := n) (k := k) (f := flY c f) (t := flY c t)
  have h3 := grH_S (H := H) (n := n) (k := k) (f := f) (t := t)
  rw [← h2, ← h3, ← h]; rfl
theorem onAx_X {n k c : Int} {f t : Pl} (hn : 1 ≤ n) (ho : onAx n k f t) : onAx n k (flX c f) (flX c t) := by
  unfold onAx flX at *
  simp only
  rw [at_flip]
  rcases ho with h | h
  · left
    rcases flip_parts (A := atP n k f.1 t.1) (c := c) hn with ⟨_, h2, _⟩ | ⟨h1, _⟩
    · exact h2
    · omega
  · exact .inr h
theorem onAx_S {n k : Int} {f t : Pl} (ho : onAx n k f t) : onAx n k (flS f) (flS t) := by
  unfold onAx flS at *; simp only; exact ho.symm
theorem onAx_Y {n k c : Int} {f t : Pl} (hn : 1 ≤ n) (ho : onAx n k f t) : onAx n k (flY c f) (flY c t) := by
  have h := onAx_S (onAx_X (c := c) hn (onAx_S ho))
  exact h
end Go.Proofs.Ytjllkmekchmmbaa
