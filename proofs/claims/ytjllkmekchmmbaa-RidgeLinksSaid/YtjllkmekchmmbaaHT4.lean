/- Theory of ridge: the ground at a crossing, as the reference counts it. -/
import Derived.Test.YtjllkmekchmmbaaHT3
import Derived.Test.YtjllkmekchmmbaaHE0
set_option linter.unusedVariables false
set_option linter.unusedSimpArgs false
namespace Go.Proofs.Ytjllkmekchmmbaa
open Go Go.RowKit

def pickL (i : Nat) (p : Pl) : Int := if i = 0 then p.1 else p.2
def pickC (i : Nat) (p : Pl) : Int := if i = 0 then p.2 else p.1
def lineP (i : Nat) (k : Int) (a b : Pl) : Int := if pickL i b - pickL i a < 0 then pickL i a - k else pickL i a + k
def wholeP (i : Nat) (k : Int) (a b : Pl) : Int := pickC i a * axN a b i + (pickC i b - pickC i a) * k
theorem at_line (f t k : Int) : atP (dist f t) k f t = dist f t * (if t - f < 0 then f - k else f + k) := by
  have e0 : k * f = f * k := Int.mul_comm ..
  have e1 : k * t = t * k := Int.mul_comm ..
  by_cases e : t - f < 0
  · rw [if_pos e, show dist f t = f - t by unfold dist; omega]
    unfold atP
    rw [Int.sub_mul (f - t) k f, Int.mul_sub (f - t) f k, Int.sub_mul f t k]
    omega
  · rw [if_neg e, show dist f t = t - f by unfold dist; omega]
    unfold atP
    rw [Int.sub_mul (t - f) k f, Int.mul_add (t - f) f k, Int.sub_mul t f k]
    omega
theorem at_whole (n k f t : Int) : atP n k f t = f * n + (t - f) * k := by
  unfold atP
  rw [Int.sub_mul, Int.sub_mul, Int.mul_comm n f, Int.mul_comm k f, Int.mul_comm k t]
  omega
theorem up_line {n l : Int} (hn : 1 ≤ n) : (n * l + n - 1) / n = l := by
  rw [show n * l + n - 1 = (n - 1) + n * l by omega, Int.add_mul_ediv_left _ _ (by omega), Int.ediv_eq_zero_of_lt (by omega) (by omega)]
  omega
theorem up_whole {n x : Int} (hn : 1 ≤ n) : (x + n - 1) / n = if 0 < x % n then x / n + 1 else x / n := by
  have h1 := Int.emod_nonneg x (show n ≠ 0 by omega)
  have h2 := Int.emod_lt_of_pos x (show 0 < n by omega)
  have h3 := Int.mul_ediv_add_emod x n
  have e : x + n - 1 = (x % n + n - 1) + n * (x / n) := by omega
  rw [e, Int.add_mul_ediv_left _ _ (by omega)]
  by_cases hr : 0 < x % n
  · rw [if_pos hr, show x % n + n - 1 = (x % n - 1) + n * 1 by omega, Int.add_mul_ediv_left _ _ (by omega), Int.ediv_eq_zero_of_lt (by omega) (by omega)]
    omega
  · rw [if_neg hr, Int.ediv_eq_zero_of_lt (by omega) (by omega)]
    omega
theorem rest_bd {n x m : Int} (hn : 1 ≤ n) (h0 : 0 ≤ x) (h1 : x ≤ n * (m - 1)) : 0 ≤ x / n ∧ x / n ≤ m - 1 ∧ (0 < x % n → x / n + 1 ≤ m - 1) := by
  have h3 := Int.mul_ediv_add_emod x n
  have h4 := Int.emod_nonneg x (show n ≠ 0 by omega)
  have h5 := Int.ediv_nonneg h0 (show 0 ≤ n by omega)
  have h6 : x / n ≤ m - 1 := by
    rcases Int.lt_or_le (m - 1) (x / n) with h | h
    · have := Int.mul_le_mul_of_nonneg_left (show m - 1 + 1 ≤ x / n from h) (show 0 ≤ n by omega)
      rw [Int.mul_add] at this; omega
    · exact h
  refine ⟨h5, h6, fun hr => ?_⟩
  rcases Int.lt_or_le (m - 1) (x / n + 1) with h | h
  · have e : x / n = m - 1 := by omega
    rw [e] at h3; omega
  · exact h
theorem place0 (l k : Int) : placeP ((0 : Nat) : Int) l k = (l, k) := rfl
theorem place1 (l k : Int) : placeP ((1 : Nat) : Int) l k = (k, l) := rfl
theorem pro_core {wd hg : Int} {g : List Int} {a b : Pl} (hm : vmB wd hg g = true) (ha : onB wd hg a = true) (hb : onB wd hg b = true) {i : Nat} {k : Int} (hi : i = 0 ∨ i = 1) (hk : 1 ≤ k ∧ k < axN a b i) :
    (0 ≤ wholeP i k a b ∧ wholeP i k a b ≤ 2400) ∧ (0 ≤ lineP i k a b ∧ lineP i k a b ≤ 48) ∧ (0 ≤ wholeP i k a b / axN a b i ∧ wholeP i k a b / axN a b i ≤ 48) ∧ onB wd hg (placeP i (lineP i k a b) (wholeP i k a b / axN a b i)) = true ∧ (0 < wholeP i k a b % axN a b i → onB wd hg (placeP i (lineP i k a b) (wholeP i k a b / axN a b i + 1)) = true) ∧
    grP g wd (axN a b i) k a b = if 0 < wholeP i k a b % axN a b i then hAt g wd (placeP i (lineP i k a b) (wholeP i k a b / axN a b i)) * (axN a b i - wholeP i k a b % axN a b i) + hAt g wd (placeP i (lineP i k a b) (wholeP i k a b / axN a b i + 1)) * (wholeP i k a b % axN a b i) else hAt g wd (placeP i (lineP i k a b) (wholeP i k a b / axN a b i)) * axN a b i := by
  obtain ⟨a1, a2, a3, a4⟩ := onB_ok ha
  obtain ⟨b1, b2, b3, b4⟩ := onB_ok hb
  obtain ⟨v1, v2, v3, v4, _, _⟩ := vmB_ok hm
  have d1 := dist_bd (a := a.1) (b := b.1) (by omega) (by omega)
  have d2 := dist_bd (a := a.2) (b := b.2) (by omega) (by omega)
  have hn : 1 ≤ axN a b i := by omega
  have key : ∀ (n l x : Int) (lo hi' : Pl), 1 ≤ n → lo = placeP i l (x / n) → hi' = placeP i l (if 0 < x % n then x / n + 1 else x / n) →
      (n - x % n) * hAt g wd lo + x % n * hAt g wd hi' = if 0 < x % n then hAt g wd (placeP i l (x / n)) * (n - x % n) + hAt g wd (placeP i l (x / n + 1)) * (x % n) else hAt g wd (placeP i l (x / n)) * n := by
    rintro n l x lo hi' h0 rfl rfl
    have h1 := Int.emod_nonneg x (show n ≠ 0 by omega)
    by_cases hr : 0 < x % n
    · rw [if_pos hr, if_pos hr, Int.mul_comm, Int.mul_comm (x % n)]
    · rw [if_neg hr, if_neg hr, show x % n = 0 by omega, Int.zero_mul, Int.sub_zero, Int.mul_comm]; omega
  have hz : ∀ n l : Int, 1 ≤ n → (n * l) % n = 0 := fun n l h => Int.mul_emod_right ..
  have hq : ∀ n l : Int, 1 ≤ n → (n * l) / n = l := fun n l h => Int.mul_ediv_cancel_left _ (by omega)
  rcases hi with rfl | rfl
  · have eL : atP (axN a b 0) k a.1 b.1 = axN a b 0 * lineP 0 k a b := at_line a.1 b.1 k
    have eW : atP (axN a b 0) k a.2 b.2 = wholeP 0 k a b := at_whole _ _ _ _
    have B1 := atP_bd (n := axN a b 0) (k := k) (f := a.2) (t := b.2) (m := hg) (by omega) (by omega) hn ⟨a3, a4⟩ ⟨b3, b4⟩
    rw [eW] at B1
    have hL : 0 ≤ lineP 0 k a b ∧ lineP 0 k a b < wd := by
      have e : axN a b 0 = dist a.1 b.1 := rfl
      rw [e] at hk
      unfold lineP pickL dist at *
      simp only [if_pos] at *
      split <;> omega
    obtain ⟨D1, D2, D3⟩ := rest_bd hn B1.1 B1.2
    have m1 : axN a b 0 * (hg - 1) ≤ 48 * 48 := Int.mul_le_mul (by unfold axN; rw [if_pos rfl]; omega) (by omega) (by omega) (by omega)
    refine ⟨by omega, by omega, by omega, onB_mk (by rw [place0]; simp only; omega), fun hr => onB_mk (by have := D3 hr; rw [place0]; simp only; omega), ?_⟩
    unfold grP beyP
    rw [eL, eW, hz _ _ hn, Int.zero_add]
    refine key _ _ _ _ _ hn ?_ ?_
    · unfold loP; rw [eL, eW, hq _ _ hn, place0]
    · unfold hiP; rw [eL, eW, up_line hn, up_whole hn, place0]
  · have eL : atP (axN a b 1) k a.2 b.2 = axN a b 1 * lineP 1 k a b := at_line a.2 b.2 k
    have eW : atP (axN a b 1) k a.1 b.1 = wholeP 1 k a b := at_whole _ _ _ _
    have B1 := atP_bd (n := axN a b 1) (k := k) (f := a.1) (t := b.1) (m := wd) (by omega) (by omega) hn ⟨a1, a2⟩ ⟨b1, b2⟩
    rw [eW] at B1
    have hL : 0 ≤ lineP 1 k a b ∧ lineP 1 k a b < hg := by
      have e : axN a b 1 = dist a.2 b.2 := rfl
      rw [e] at hk
      unfold lineP pickL dist at *
      simp only [Nat.one_ne_zero, if_neg, not_false_eq_true] at *
      split <;> omega
    obtain ⟨D1, D2, D3⟩ := rest_bd hn B1.1 B1.2
    have m1 : axN a b 1 * (wd - 1) ≤ 48 * 48 := Int.mul_le_mul (by unfold axN; rw [if_neg (by decide)]; omega) (by omega) (by omega) (by omega)
    refine ⟨by omega, by omega, by omega, onB_mk (by rw [place1]; simp only; omega), fun hr => onB_mk (by have := D3 hr; rw [place1]; simp only; omega), ?_⟩
    unfold grP beyP
    rw [eL, eW, hz _ _ hn, Int.add_zero]
    refine key _ _ _ _ _ hn ?_ ?_
    · unfold loP; rw [eL, eW, hq _ _ hn, place1]
    · unfold hiP; rw [eL, eW, up_line hn, up_whole hn, place1]
end Go.Proofs.Ytjllkmekchmmbaa
