/- Package firetowerref05: Can, alone. -/
import Derived.Test.YtebdboacmeafaaaCEA
import Derived.Test.YtebdboacmeafaaaCB3
import Derived.Test.YtebdboacmeafaaaCDB
import Derived.Test.YtebdboacmeafaaaCE3
set_option linter.unusedVariables false
set_option linter.unusedSimpArgs false
namespace Go.Proofs.Ytebdboacmeafaaa
open Go Go.RowKit

/-- A reading can be, in one of the turns. -/
def c1B (s sl num den z j : Int) : Bool := decide (-sl * den ≤ num + (z - s + 3600 * j) * den) && decide (num + (z - s + 3600 * j) * den ≤ sl * den)
def cnB (s sl num den z : Int) : Bool := c1B s sl num den z (-2) || c1B s sl num den z (-1) || c1B s sl num den z 0 || c1B s sl num den z 1 || c1B s sl num den z 2
theorem cn_true {s sl num den z j : Int} (hj : -2 ≤ j ∧ j ≤ 2) (h : c1B s sl num den z j = true) : cnB s sl num den z = true := by
  unfold cnB
  rcases (by omega : j = -2 ∨ j = -1 ∨ j = 0 ∨ j = 1 ∨ j = 2) with rfl | rfl | rfl | rfl | rfl <;> rw [h] <;> simp
theorem cn_false {s sl num den z : Int} (h : ∀ j, -2 ≤ j → j < 3 → c1B s sl num den z j = false) : cnB s sl num den z = false := by
  unfold cnB
  rw [h (-2) (by omega) (by omega), h (-1) (by omega) (by omega), h 0 (by omega) (by omega), h 1 (by omega) (by omega), h 2 (by omega) (by omega)]; rfl
theorem cn_iff {s sl num den z : Int} : cnB s sl num den z = true ↔ ∃ j, (-2 ≤ j ∧ j ≤ 2) ∧ c1B s sl num den z j = true := by
  constructor
  · intro h
    unfold cnB at h
    simp only [Bool.or_eq_true] at h
    rcases h with (((h | h) | h) | h) | h
    · exact ⟨_, by omega, h⟩
    · exact ⟨_, by omega, h⟩
    · exact ⟨_, by omega, h⟩
    · exact ⟨_, by omega, h⟩
    · exact ⟨_, by omega, h⟩
  · rintro ⟨j, hj, h⟩
    exact cn_true hj h
/-- One turn: by the bearing's neighbours. -/
theorem c1_iff {s sl num den z j : Int} (hd : 1 ≤ den) : c1B s sl num den z j = true ↔ (num + den - 1) / den ≤ sl - (z - s + 3600 * j) ∧ -sl - (z - s + 3600 * j) ≤ num / den := by
  unfold c1B
  rw [Bool.and_eq_true, decide_eq_true_eq, decide_eq_true_eq]
  obtain ⟨t, ht⟩ : ∃ t, z - s + 3600 * j = t := ⟨_, rfl⟩
  rw [ht]
  have e1 : (-sl - t ≤ num / den) ↔ (-sl - t) * den ≤ num := Int.le_ediv_iff_mul_le (by omega)
  have e2 : ((num + den - 1) / den ≤ sl - t) ↔ num ≤ (sl - t) * den := by
    rw [← Int.lt_add_one_iff, Int.ediv_lt_iff_lt_mul (by omega), Int.add_mul]
    omega
  rw [e1, e2, Int.sub_mul, Int.sub_mul]
  constructor
  · rintro ⟨h1, h2⟩; constructor <;> omega
  · rintro ⟨h1, h2⟩; constructor <;> omega
/-- The zeros that a check allows are those of a span. -/
theorem cn_al {zx zy z : Int} {k : Ck} (hb : brB zx zy k.x k.y = true) (hs : 0 ≤ k.s ∧ k.s ≤ 3599) (hsl : 1 ≤ k.sl ∧ k.sl ≤ 100) (hz : -300 ≤ z ∧ z ≤ 300) :
    cnB k.s k.sl (twN (k.x - zx) (k.y - zy)) (twD (k.x - zx) (k.y - zy)) z = decide (alL zx zy k ≤ z ∧ z ≤ alH zx zy k) := by
  obtain ⟨n1, n2, n3⟩ := br_nx hb
  obtain ⟨h1, h2, h3⟩ := brB_ok hb
  obtain ⟨t1, _⟩ := tw_ok (x := k.x - zx) (y := k.y - zy) (by omega) (by omega) h3
  rw [Bool.eq_iff_iff, decide_eq_true_eq, cn_iff]
  unfold alL alH alM
  have eD : brDn zx zy k.x k.y = twN (k.x - zx) (k.y - zy) / twD (k.x - zx) (k.y - zy) := by unfold brDn; rw [if_pos hb]
  have eU : brUp zx zy k.x k.y = (twN (k.x - zx) (k.y - zy) + twD (k.x - zx) (k.y - zy) - 1) / twD (k.x - zx) (k.y - zy) := by unfold brUp; rw [if_pos hb]
  have key : ∀ j, c1B k.s k.sl (twN (k.x - zx) (k.y - zy)) (twD (k.x - zx) (k.y - zy)) z j = true ↔ brUp zx zy k.x k.y ≤ k.sl - (z - k.s + 3600 * j) ∧ -k.sl - (z - k.s + 3600 * j) ≤ brDn zx zy k.x k.y := fun j => by
    rw [eD, eU]; exact c1_iff t1
  simp only [key]
  clear key eD eU t1 h1 h2 h3 hb
  generalize brDn zx zy k.x k.y = D at *
  generalize brUp zx zy k.x k.y = U at *
  generalize k.s = s at *
  generalize k.sl = sl at *
  obtain ⟨q, hq⟩ : ∃ q, (s - sl - D + 1800) / 3600 = q := ⟨_, rfl⟩
  have hm : (s - sl - D + 1800) % 3600 = s - sl - D + 1800 - 3600 * q := by omega
  rw [hm]
  have hq2 : -1 ≤ q ∧ q ≤ 1 := by omega
  have hq3 : 0 ≤ s - sl - D + 1800 - 3600 * q ∧ s - sl - D + 1800 - 3600 * q < 3600 := by omega
  clear hm hq
  constructor
  · rintro ⟨j, hj, h1, h2⟩
    obtain rfl : j = q := by omega
    omega
  · rintro ⟨h1, h2⟩
    exact ⟨q, by omega, by omega, by omega⟩
/-- What a check's zeros are so far. -/
def oL (L H n : Int) : Int := if L < n ∧ L ≤ H then L else 0
def oH (L H n : Int) : Int := if L < n ∧ L ≤ H then min (n - 1) H else 0
def oN (L H n : Int) : Bool := !decide (L < n ∧ L ≤ H)
theorem o_step {L H n : Int} : (decide (L ≤ n ∧ n ≤ H) = true → oN L H (n + 1) = false ∧ oH L H (n + 1) = n ∧ (oN L H n = true → oL L H (n + 1) = n) ∧ (oN L H n = false → oL L H (n + 1) = oL L H n)) ∧
    (decide (L ≤ n ∧ n ≤ H) = false → oN L H (n + 1) = oN L H n ∧ oH L H (n + 1) = oH L H n ∧ oL L H (n + 1) = oL L H n) := by
  unfold oL oH oN
  refine ⟨fun h => ?_, fun h => ?_⟩
  · have h := of_decide_eq_true h
    have p : L < n + 1 ∧ L ≤ H := by omega
    rw [decide_eq_true p, if_pos p, if_pos p]
    refine ⟨rfl, by omega, fun h2 => ?_, fun h2 => ?_⟩
    · rw [Bool.not_eq_true', decide_eq_false_iff_not] at h2; omega
    · rw [Bool.not_eq_false', decide_eq_true_eq] at h2; rw [if_pos h2]
  · have h := of_decide_eq_false h
    by_cases p : L < n ∧ L ≤ H
    · have p2 : L < n + 1 ∧ L ≤ H := by omega
      rw [decide_eq_true p, decide_eq_true p2, if_pos p, if_pos p, if_pos p2, if_pos p2]
      exact ⟨rfl, by omega, rfl⟩
    · have p2 : ¬ (L < n + 1 ∧ L ≤ H) := by omega
      rw [decide_eq_false p, decide_eq_false p2, if_neg p, if_neg p, if_neg p2, if_neg p2]
      exact ⟨rfl, rfl, rfl⟩
theorem o_last {zx zy : Int} {k : Ck} : oN (alL zx zy k) (alH zx zy k) 301 = !(alB zx zy k) ∧ oL (alL zx zy k) (alH zx zy k) 301 = (if alB zx zy k = true then alL zx zy k else 0) ∧ oH (alL zx zy k) (alH zx zy k) 301 = (if alB zx zy k = true then alH zx zy k else 0) := by
  have h : alH zx zy k ≤ 300 := by unfold alH; omega
  unfold oN oL oH alB
  by_cases p : alL zx zy k ≤ alH zx zy k
  · have p2 : alL zx zy k < 301 ∧ alL zx zy k ≤ alH zx zy k := by omega
    rw [decide_eq_true p, decide_eq_true p2, if_pos p2, if_pos p2, if_pos rfl, if_pos rfl]
    exact ⟨rfl, rfl, by omega⟩
  · have p2 : ¬ (alL zx zy k < 301 ∧ alL zx zy k ≤ alH zx zy k) := by omega
    rw [decide_eq_false p, decide_eq_false p2, if_neg p2, if_neg p2, if_neg (by simp), if_neg (by simp)]
    exact ⟨rfl, rfl, rfl⟩
theorem o_zero {zx zy : Int} {k : Ck} : oN (alL zx zy k) (alH zx zy k) (-300) = true ∧ oL (alL zx zy k) (alH zx zy k) (-300) = 0 ∧ oH (alL zx zy k) (alH zx zy k) (-300) = 0 := by
  have h : ¬ (alL zx zy k < -300 ∧ alL zx zy k ≤ alH zx zy k) := by unfold alL; omega
  unfold oN oL oH
  rw [decide_eq_false h, if_neg h, if_neg h]
  exact ⟨rfl, rfl, rfl⟩
end Go.Proofs.Ytebdboacmeafaaa
