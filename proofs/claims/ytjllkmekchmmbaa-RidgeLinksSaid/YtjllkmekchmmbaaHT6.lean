/- Theory of ridge: heights by fractions in lowest terms. -/
import Derived.Test.YtjllkmekchmmbaaHT2
import Derived.Test.YtjllkmekchmmbaaHT5
set_option linter.unusedVariables false
set_option linter.unusedSimpArgs false
namespace Go.Proofs.Ytjllkmekchmmbaa
open Go Go.RowKit

theorem low_parts {k n : Int} (hn : 1 ≤ n) : ∃ c : Int, 0 < c ∧ k = c * (lowP k n).1 ∧ n = c * (lowP k n).2 ∧ 1 ≤ (lowP k n).2 ∧ (lowP k n).2 ≤ n := by
  obtain ⟨k', hk⟩ : (Int.gcd k n : Int) ∣ k := Int.gcd_dvd_left ..
  obtain ⟨n', hn'⟩ : (Int.gcd k n : Int) ∣ n := Int.gcd_dvd_right ..
  have g1 : 0 < (Int.gcd k n : Int) := by have := Int.gcd_pos_of_ne_zero_right k (by omega : n ≠ 0); omega
  unfold lowP
  obtain ⟨g, hg⟩ : ∃ g, (Int.gcd k n : Int) = g := ⟨_, rfl⟩
  rw [hg] at hk hn' g1 ⊢
  have q1 : k / g = k' := by rw [hk]; exact Int.mul_ediv_cancel_left _ (by omega)
  have q2 : n / g = n' := by rw [hn']; exact Int.mul_ediv_cancel_left _ (by omega)
  simp only
  rw [q1, q2]
  have hp : 1 ≤ n' := by
    rcases Int.lt_or_le 0 n' with h | h
    · omega
    · have := Int.mul_le_mul_of_nonneg_left h (show 0 ≤ g by omega)
      rw [Int.mul_zero] at this; omega
  refine ⟨g, g1, hk, hn', hp, ?_⟩
  have := Int.mul_le_mul_of_nonneg_right (show 1 ≤ g by omega) (show 0 ≤ n' by omega)
  omega
def ceilP (x d : Int) : Int := if x ≤ 0 then 0 else (x + d - 1) / d
theorem ceil_iff {x d r : Int} (hd : 1 ≤ d) (hr : 0 ≤ r) : ceilP x d ≤ r ↔ x ≤ d * r := by
  have h0 : 0 ≤ d * r := Int.mul_nonneg (by omega) hr
  have e : r * d = d * r := Int.mul_comm ..
  unfold ceilP
  by_cases h : x ≤ 0
  · rw [if_pos h]; omega
  · rw [if_neg h, Int.ediv_le_iff_le_mul (by omega)]; omega
theorem ceil_nonneg {x d : Int} (hd : 1 ≤ d) : 0 ≤ ceilP x d := by
  unfold ceilP
  by_cases h : x ≤ 0
  · rw [if_pos h]; exact Int.le_refl _
  · rw [if_neg h]; exact Int.ediv_nonneg (by omega) (by omega)
/-- What a crossing lacks to be free, with all fractions in lowest terms. -/
def lackP (x : Mt) (u v : Int) : Int := (lowP x.g x.n).1 * (lowP x.k x.n).2 - (u * ((lowP x.k x.n).2 - (lowP x.k x.n).1) + v * (lowP x.k x.n).1) * (lowP x.g x.n).2
theorem lack_alg {c d a b e f k n g u v : Int} (k1 : k = c * a) (k2 : n = c * b) (g1 : g = d * e) (g2 : n = d * f) : c * d * (e * b - (u * (b - a) + v * a) * f) = n * (g - ((n - k) * u + k * v)) ∧ c * d * (a * f) = n * k := by
  have h1 : c * d * (e * b) = n * g := by
    have : c * d * (e * b) = (c * b) * (d * e) := by simp only [Int.mul_assoc, Int.mul_left_comm, Int.mul_comm]
    rw [this, ← k2, ← g1]
  have h3 : c * (u * (b - a) + v * a) = (n - k) * u + k * v := by
    rw [k1]; conv => rhs; rw [k2]
    rw [Int.mul_add, ← Int.mul_sub]
    simp only [Int.mul_assoc, Int.mul_left_comm, Int.mul_comm]
  have h2 : c * d * ((u * (b - a) + v * a) * f) = n * ((n - k) * u + k * v) := by
    rw [← h3]
    obtain ⟨z, hz⟩ : ∃ z, u * (b - a) + v * a = z := ⟨_, rfl⟩
    rw [hz]
    have : c * d * (z * f) = (d * f) * (c * z) := by simp only [Int.mul_assoc, Int.mul_left_comm, Int.mul_comm]
    rw [this, ← g2]
  refine ⟨by rw [Int.mul_sub, h1, h2, Int.mul_sub], ?_⟩
  have : c * d * (a * f) = (d * f) * (c * a) := by simp only [Int.mul_assoc, Int.mul_left_comm, Int.mul_comm]
  rw [this, ← g2, ← k1]
theorem lack_mul {x : Mt} (u v : Int) (hn : 1 ≤ x.n) : ∃ c, 0 < c ∧ c * lackP x u v = x.n * (x.g - partI x u v) ∧ c * ((lowP x.k x.n).1 * (lowP x.g x.n).2) = x.n * x.k := by
  obtain ⟨c, hc, k1, k2, _⟩ := low_parts (k := x.k) hn
  obtain ⟨d, hd, g1, g2, _⟩ := low_parts (k := x.g) hn
  exact ⟨c * d, Int.mul_pos hc hd, (lack_alg k1 k2 g1 g2).1, (lack_alg (u := u) (v := v) k1 k2 g1 g2).2⟩
theorem lack_le {x : Mt} {u v r : Int} (hn : 1 ≤ x.n) : lackP x u v ≤ (lowP x.k x.n).1 * (lowP x.g x.n).2 * r ↔ x.g ≤ partI x u v + x.k * r := by
  obtain ⟨c, hc, h1, h2⟩ := lack_mul u v hn
  rw [← Int.mul_le_mul_left hc, h1, ← Int.mul_assoc, h2, Int.mul_assoc, Int.mul_le_mul_left (by omega)]
  omega
theorem over_iff {x : Mt} {u v : Int} (hn : 1 ≤ x.n) : (u * ((lowP x.k x.n).2 - (lowP x.k x.n).1) + v * (lowP x.k x.n).1) * (lowP x.g x.n).2 < (lowP x.g x.n).1 * (lowP x.k x.n).2 ↔ partI x u v < x.g := by
  have h := lack_le (x := x) (u := u) (v := v) (r := 0) hn
  unfold lackP at h
  rw [Int.mul_zero, Int.mul_zero] at h
  omega
theorem ceil_lift {x : Mt} {u v : Int} (hk : 1 ≤ x.k) (hn : 1 ≤ x.n) (hd : 1 ≤ (lowP x.k x.n).1 * (lowP x.g x.n).2) : ceilP (lackP x u v) ((lowP x.k x.n).1 * (lowP x.g x.n).2) = max 0 (liftI u v x) := by
  have h : ∀ r, 0 ≤ r → (ceilP (lackP x u v) ((lowP x.k x.n).1 * (lowP x.g x.n).2) ≤ r ↔ max 0 (liftI u v x) ≤ r) := fun r hr => by
    rw [ceil_iff hd hr, lack_le hn]
    unfold liftI
    rw [← lift_iff hk hr]; omega
  have h1 := (h _ (ceil_nonneg (x := lackP x u v) hd)).1 (Int.le_refl _)
  have h2 := (h (max 0 (liftI u v x)) (by omega)).2 (Int.le_refl _)
  omega
theorem vl_zero (wd hg : Int) (g : List Int) (a b : Pl) (u : Int) : vlB wd hg g a b [u, 0] = vlB wd hg g a b [u] ∧ vlB wd hg g a b [0, u] = vlB wd hg g a b [u] := by
  unfold vlB tallB wiB
  simp
theorem ln_zero (wd hg : Int) (g : List Int) (a b : Pl) (u : Int) : lnE wd hg g a b [u, 0] = lnE wd hg g a b [u] ∧ lnE wd hg g a b [0, u] = lnE wd hg g a b [u] := by
  unfold lnE
  rw [(vl_zero wd hg g a b u).1, (vl_zero wd hg g a b u).2]; exact ⟨rfl, rfl⟩
end Go.Proofs.Ytjllkmekchmmbaa
