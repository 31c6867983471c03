/- Bounds of lowest terms. -/
import Derived.Test.YtjllkmekchmmbaaHE5
import Derived.Test.YtjllkmekchmmbaaHT6
set_option linter.unusedVariables false
set_option linter.unusedSimpArgs false
namespace Go.Proofs.Ytjllkmekchmmbaa
open Go Go.RowKit

theorem fold_ge {l : List Int} {a : Int} : a ≤ l.foldl max a := ((fold_max_le (l := l) (a := a) (r := l.foldl max a)).1 (Int.le_refl _)).1
theorem low_bd {x : Mt} (h : 1 ≤ x.k ∧ x.k < x.n ∧ x.n ≤ 48 ∧ -1000000 ≤ x.g ∧ x.g ≤ 1000000) : (1 ≤ (lowP x.k x.n).1 ∧ (lowP x.k x.n).1 ≤ 48) ∧ (1 ≤ (lowP x.k x.n).2 ∧ (lowP x.k x.n).2 ≤ 48) ∧ (-1000000 ≤ (lowP x.g x.n).1 ∧ (lowP x.g x.n).1 ≤ 1000000) ∧ (1 ≤ (lowP x.g x.n).2 ∧ (lowP x.g x.n).2 ≤ 48) ∧ 0 ≤ (lowP x.k x.n).2 - (lowP x.k x.n).1 := by
  obtain ⟨c, hc, k1, k2, k3, k4⟩ := low_parts (k := x.k) (n := x.n) (by omega)
  obtain ⟨d, hd, g1, g2, g3, g4⟩ := low_parts (k := x.g) (n := x.n) (by omega)
  obtain ⟨a, ha⟩ : ∃ a, (lowP x.k x.n).1 = a := ⟨_, rfl⟩
  obtain ⟨b, hb⟩ : ∃ a, (lowP x.k x.n).2 = a := ⟨_, rfl⟩
  obtain ⟨e, he⟩ : ∃ a, (lowP x.g x.n).1 = a := ⟨_, rfl⟩
  obtain ⟨f, hf⟩ : ∃ a, (lowP x.g x.n).2 = a := ⟨_, rfl⟩
  rw [ha] at k1 ⊢
  rw [hb] at k2 k3 k4 ⊢
  rw [he] at g1 ⊢
  rw [hf] at g2 g3 g4 ⊢
  have ha1 : 1 ≤ a := by
    rcases Int.lt_or_le 0 a with h1 | h1
    · omega
    · have := Int.mul_le_mul_of_nonneg_left h1 (show 0 ≤ c by omega)
      rw [Int.mul_zero] at this; omega
  have hab : a ≤ b := by
    rcases Int.lt_or_le b a with h1 | h1
    · have := Int.mul_le_mul_of_nonneg_left (show b ≤ a by omega) (show 0 ≤ c by omega)
      omega
    · exact h1
  have he1 : -1000000 ≤ e ∧ e ≤ 1000000 := by
    rcases Int.le_total 0 e with h1 | h1
    · have := Int.mul_le_mul_of_nonneg_right (show 1 ≤ d by omega) h1
      omega
    · have := Int.mul_le_mul_of_nonneg_right (show 1 ≤ d by omega) (show 0 ≤ -e by omega)
      have e2 : d * -e = -(d * e) := Int.mul_neg _ _
      omega
  omega
end Go.Proofs.Ytjllkmekchmmbaa
