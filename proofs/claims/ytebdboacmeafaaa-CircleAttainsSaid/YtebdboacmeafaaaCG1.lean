/- Package firetowerref05: Shows, asked. -/
import Derived.Test.YtebdboacmeafaaaCCB
import Derived.Test.YtebdboacmeafaaaCF6
import Derived.Test.YtebdboacmeafaaaCAA
set_option linter.unusedVariables false
set_option linter.unusedSimpArgs false
namespace Go.Proofs.Ytebdboacmeafaaa
open Go Go.RowKit

theorem ceil_neg {A D : Int} (h : 1 ≤ D) : -(-A / D) = (A + D - 1) / D := by
  have h1 : D * (-A / D) + -A % D = -A := Int.mul_ediv_add_emod (-A) D
  have h2 := Int.emod_nonneg (-A) (by omega : D ≠ 0)
  have h3 := Int.emod_lt_of_pos (-A) (by omega : 0 < D)
  obtain ⟨q, hq⟩ : ∃ q, -A / D = q := ⟨_, rfl⟩
  obtain ⟨r, hr⟩ : ∃ r, -A % D = r := ⟨_, rfl⟩
  rw [hq, hr] at h1
  rw [hr] at h2 h3
  rw [hq]
  have e : A + D - 1 = (D - 1 - r) + (-q) * D := by
    have : -q * D = -(D * q) := by rw [Int.neg_mul, Int.mul_comm]
    omega
  rw [e, Int.add_mul_ediv_right _ _ (by omega), Int.ediv_eq_zero_of_lt (by omega) (by omega), Int.zero_add]
theorem sm_mul {x D : Int} (hx : -400 ≤ x ∧ x ≤ 400) (hD : 1 ≤ D ∧ D ≤ 48) : -19200 ≤ x * D ∧ x * D ≤ 19200 := by
  have h1 := Int.mul_le_mul_of_nonneg_right hx.1 (by omega : 0 ≤ D)
  have h2 := Int.mul_le_mul_of_nonneg_right hx.2 (by omega : 0 ≤ D)
  omega
def asB (rs rl : Int) : Bool := ciB rs 0 3599 && ciB rl 1 100
def asE (cs : List Ci) (ks : List Ck) (rc rt rs rl : Int) : Int := if ccE cs ks = 0 then (if asB rs rl = true then yrE cs ks rc rt else 1) else ccE cs ks
def asL (cs : List Ci) (ks : List Ck) (rc rt rs rl : Int) : Int := if ccE cs ks = 0 then (if asB rs rl = true then yrL cs ks rc rt else 0) else 0
def asH (cs : List Ci) (ks : List Ck) (rc rt rs rl : Int) : Int := if ccE cs ks = 0 then (if asB rs rl = true then yrH cs ks rc rt else 0) else 0
end Go.Proofs.Ytebdboacmeafaaa
