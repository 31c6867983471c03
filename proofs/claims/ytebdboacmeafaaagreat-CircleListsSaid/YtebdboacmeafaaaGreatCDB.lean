/- Merged: CD3, CD4, CD5, CD6. -/
import Derived.Test.YtebdboacmeafaaaGreatCAB
import Derived.Test.YtebdboacmeafaaaGreatCAA
/- Package firetowerref05: Vector, Opening, Right. -/
set_option linter.unusedVariables false
set_option linter.unusedSimpArgs false
namespace Go.Proofs.YtebdboacmeafaaaGreat
open Go Go.RowKit

end Go.Proofs.YtebdboacmeafaaaGreat
/- Package firetowerref05: Has, Lies. -/
set_option linter.unusedVariables false
set_option linter.unusedSimpArgs false
namespace Go.Proofs.YtebdboacmeafaaaGreat
open Go Go.RowKit

/-- How far a bearing lies behind a wedge's beginning. -/
def psI (f num den : Int) : Int := if num - f * den < 0 then num - f * den + 3600 * den else num - f * den
def hsB (f t num den : Int) : Bool := decide (psI f num den ≤ opI f t * den)
theorem mul_48 {a b : Int} {A : Int} (ha : 0 ≤ a ∧ a ≤ A) (hb : 1 ≤ b ∧ b ≤ 48) : 0 ≤ a * b ∧ a * b ≤ A * 48 :=
  ⟨Int.mul_nonneg ha.1 (by omega), Int.mul_le_mul ha.2 hb.2 (by omega) (by omega)⟩
/-- A bearing lies in a wedge if its two neighbours do. -/
theorem hs_two {f o num den : Int} (hf : 0 ≤ f ∧ f ≤ 3599) (ho : 0 ≤ o ∧ o ≤ 900) (hd : 1 ≤ den) (hn : 0 ≤ num ∧ num < 3600 * den) :
    psI f num den ≤ o * den ↔ (num / den - f) % 3600 ≤ o ∧ ((num + den - 1) / den - f) % 3600 ≤ o := by
  obtain ⟨q, hq⟩ : ∃ q, num / den = q := ⟨_, rfl⟩
  obtain ⟨s, hs⟩ : ∃ s, num % den = s := ⟨_, rfl⟩
  have h1 : num = den * q + s := by rw [← hq, ← hs]; exact (Int.mul_ediv_add_emod num den).symm
  have h2 : 0 ≤ s := by rw [← hs]; exact Int.emod_nonneg _ (by omega)
  have h3 : s < den := by rw [← hs]; exact Int.emod_lt_of_pos _ (by omega)
  have hq0 : 0 ≤ q := by rw [← hq]; exact Int.ediv_nonneg hn.1 (by omega)
  have hq1 : q < 3600 := by rw [← hq]; exact Int.ediv_lt_of_lt_mul (by omega) hn.2
  have hc : (num + den - 1) / den = if s = 0 then q else q + 1 := by
    split
    · rename_i h0
      rw [h1, h0, show den * q + 0 + den - 1 = (den - 1) + den * q by omega, Int.add_mul_ediv_left _ _ (by omega), Int.ediv_eq_zero_of_lt (by omega) (by omega)]
      omega
    · rename_i h0
      rw [h1, show den * q + s + den - 1 = (s - 1) + den * (q + 1) by rw [Int.mul_add]; omega, Int.add_mul_ediv_left _ _ (by omega), Int.ediv_eq_zero_of_lt (by omega) (by omega)]
      omega
  obtain ⟨p, hp⟩ : ∃ p, (q - f) % 3600 = p := ⟨_, rfl⟩
  have hp2 : p = if q - f < 0 then q - f + 3600 else q - f := by split <;> omega
  have hps : psI f num den = den * p + s := by
    unfold psI
    have e1 : num - f * den = den * (q - f) + s := by rw [h1, Int.mul_sub, Int.mul_comm f den]; omega
    rw [e1, hp2]
    by_cases hneg : q - f < 0
    · have h4 : den * (q - f) ≤ den * (-1) := Int.mul_le_mul_of_nonneg_left (by omega) (by omega)
      rw [if_pos (by omega), if_pos hneg, Int.mul_add]
      omega
    · have h4 : 0 ≤ den * (q - f) := Int.mul_nonneg (by omega) (by omega)
      rw [if_neg (by omega), if_neg hneg]
  rw [hps, hq, hp, hc, Int.mul_comm o den]
  by_cases h0 : s = 0
  · rw [if_pos h0, hp, h0]
    constructor
    · intro h
      have h5 : p ≤ o := by
        rcases Int.lt_or_le o p with h6 | h6
        · have h7 : den * (o + 1) ≤ den * p := Int.mul_le_mul_of_nonneg_left (by omega) (by omega)
          rw [Int.mul_add] at h7
          omega
        · exact h6
      exact ⟨h5, h5⟩
    · intro h
      have h7 : den * p ≤ den * o := Int.mul_le_mul_of_nonneg_left h.1 (by omega)
      omega
  · rw [if_neg h0]
    constructor
    · intro h
      have h5 : p + 1 ≤ o := by
        rcases Int.lt_or_le o (p + 1) with h6 | h6
        · have h7 : den * o ≤ den * p := Int.mul_le_mul_of_nonneg_left (by omega) (by omega)
          omega
        · exact h6
      omega
    · intro h
      have h5 : p + 1 ≤ o := by omega
      have h7 : den * (p + 1) ≤ den * o := Int.mul_le_mul_of_nonneg_left h5 (by omega)
      rw [Int.mul_add] at h7
      omega
end Go.Proofs.YtebdboacmeafaaaGreat
/- Package firetowerref05: Lies. -/
set_option linter.unusedVariables false
set_option linter.unusedSimpArgs false
namespace Go.Proofs.YtebdboacmeafaaaGreat
open Go Go.RowKit

theorem ls_eq {f t a b c d : Int} (hv : vwB f t = true) (hb : brB a b c d = true) : lsB f t a b c d = hsB f t (twN (c - a) (d - b)) (twD (c - a) (d - b)) := by
  obtain ⟨h1, h2, h3⟩ := brB_ok hb
  obtain ⟨t1, t2, t3, t4, _⟩ := tw_ok (x := c - a) (y := d - b) (by omega) (by omega) h3
  obtain ⟨v1, v2, v3, v4⟩ := vw_ok hv
  unfold lsB hsB brDn brUp
  rw [hb, hv]
  simp only [if_true, Bool.true_and]
  rw [Bool.eq_iff_iff, Bool.and_eq_true, decide_eq_true_eq, decide_eq_true_eq, decide_eq_true_eq]
  exact (hs_two v1 v4 t1 ⟨t3, t4⟩).symm
end Go.Proofs.YtebdboacmeafaaaGreat
/- Package firetowerref05: Widen. -/
set_option linter.unusedVariables false
set_option linter.unusedSimpArgs false
namespace Go.Proofs.YtebdboacmeafaaaGreat
open Go Go.RowKit

end Go.Proofs.YtebdboacmeafaaaGreat
