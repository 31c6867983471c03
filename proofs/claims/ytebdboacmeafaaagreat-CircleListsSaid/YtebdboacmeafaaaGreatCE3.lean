/- Package firetowerlaw05: CircleTurns. -/
import Derived.Test.YtebdboacmeafaaaGreatCD9
import Derived.Test.YtebdboacmeafaaaGreatCE1
import Derived.Test.YtebdboacmeafaaaGreatCDB
import Derived.Laws.StructEq
set_option linter.unusedVariables false
set_option linter.unusedSimpArgs false
namespace Go.Proofs.YtebdboacmeafaaaGreat
open Go Go.RowKit

/-- A bearing's neighbours. -/
theorem br_nx {a b c d : Int} (h : brB a b c d = true) : 0 ≤ brDn a b c d ∧ brDn a b c d < 3600 ∧ (brUp a b c d = brDn a b c d ∨ brUp a b c d = brDn a b c d + 1) := by
  obtain ⟨h1, h2, h3⟩ := brB_ok h
  obtain ⟨t1, t2, t3, t4, _⟩ := tw_ok (x := c - a) (y := d - b) (by omega) (by omega) h3
  unfold brDn brUp
  rw [if_pos h, if_pos h]
  generalize twN (c - a) (d - b) = num at *
  generalize twD (c - a) (d - b) = den at *
  obtain ⟨q, hq⟩ : ∃ q, num / den = q := ⟨_, rfl⟩
  obtain ⟨s, hs⟩ : ∃ s, num % den = s := ⟨_, rfl⟩
  have h1 : num = den * q + s := by rw [← hq, ← hs]; exact (Int.mul_ediv_add_emod num den).symm
  have h2 : 0 ≤ s := by rw [← hs]; exact Int.emod_nonneg _ (by omega)
  have h3 : s < den := by rw [← hs]; exact Int.emod_lt_of_pos _ (by omega)
  have hq0 : 0 ≤ q := by rw [← hq]; exact Int.ediv_nonneg t3 (by omega)
  have hq1 : q < 3600 := by rw [← hq]; exact Int.ediv_lt_of_lt_mul (by omega) t4
  have hc : (num + den - 1) / den = if s = 0 then q else q + 1 := by
    split
    · rename_i h0
      rw [h1, h0, show den * q + 0 + den - 1 = (den - 1) + den * q by omega, Int.add_mul_ediv_left _ _ (by omega), Int.ediv_eq_zero_of_lt (by omega) (by omega)]
      omega
    · rename_i h0
      rw [h1, show den * q + s + den - 1 = (s - 1) + den * (q + 1) by rw [Int.mul_add]; omega, Int.add_mul_ediv_left _ _ (by omega), Int.ediv_eq_zero_of_lt (by omega) (by omega)]
      omega
  rw [hq, hc]
  refine ⟨hq0, hq1, ?_⟩
  split
  · exact .inl rfl
  · exact .inr rfl
theorem op_of {f t : Int} (hf : 0 ≤ f ∧ f ≤ 3599) (ht : 0 ≤ t ∧ t ≤ 3599) : opI f t = (t - f) % 3600 := by
  unfold opI
  rw [ci_iff.2 hf, ci_iff.2 ht]; rfl
theorem vw_of {f t : Int} (hf : 0 ≤ f ∧ f ≤ 3599) (ht : 0 ≤ t ∧ t ≤ 3599) (h : (t - f) % 3600 ≤ 900) : vwB f t = true := by
  unfold vwB
  rw [op_of hf ht, ci_iff]
  omega
theorem ls_iff {f t a b c d : Int} (h : brB a b c d = true) : lsB f t a b c d = true ↔ vwB f t = true ∧ (brDn a b c d - f) % 3600 ≤ opI f t ∧ (brUp a b c d - f) % 3600 ≤ opI f t := by
  unfold lsB
  rw [h, Bool.true_and, Bool.and_eq_true, Bool.and_eq_true, decide_eq_true_eq, decide_eq_true_eq, and_assoc]
theorem ls_next {a b c d : Int} (h : brB a b c d = true) : lsB (brDn a b c d) ((brDn a b c d + 1) % 3600) a b c d = true := by
  obtain ⟨h1, h2, h3⟩ := br_nx h
  rw [ls_iff h, op_of (by omega) (by omega)]
  exact ⟨vw_of (by omega) (by omega) (by omega), by omega, by omega⟩
theorem ls_before {a b c d : Int} (h : brB a b c d = true) : lsB ((brDn a b c d + 3598) % 3600) ((brDn a b c d + 3599) % 3600) a b c d = false := by
  obtain ⟨h1, h2, h3⟩ := br_nx h
  rw [Bool.eq_false_iff, Ne, ls_iff h, op_of (by omega) (by omega)]
  rintro ⟨_, h4, _⟩
  omega
theorem mt_one {af at' bf bt x : Int} (ha : vwB af at' = true) (hb : vwB bf bt = true) : ((x - af) % 3600 ≤ opI af at' ∧ (x - bf) % 3600 ≤ opI bf bt) ↔ (mLo af at' bf ≤ mHi af at' bf bt ∧ (x - (af + mLo af at' bf) % 3600) % 3600 ≤ min (opI af at') (mHi af at' bf bt) - mLo af at' bf) := by
  obtain ⟨a1, a2, a3, a4, a5⟩ := vw_ok ha
  obtain ⟨b1, b2, b3, b4, b5⟩ := vw_ok hb
  obtain ⟨lo, hlo⟩ : ∃ z, mLo af at' bf = z := ⟨_, rfl⟩
  obtain ⟨hi, hhi⟩ : ∃ z, mHi af at' bf bt = z := ⟨_, rfl⟩
  obtain ⟨l1, l2⟩ := mLo_bd (bf := bf) ha
  rw [hlo] at l1 l2 ⊢
  rw [hhi]
  unfold mLo at hlo
  unfold mHi at hhi
  clear a3 b3
  generalize opI af at' = oa at *
  generalize opI bf bt = ob at *
  obtain ⟨px, hpx⟩ : ∃ z, (x - af) % 3600 = z := ⟨_, rfl⟩
  obtain ⟨m, hm⟩ : ∃ z, (bf - af) % 3600 = z := ⟨_, rfl⟩
  have e1 : (x - bf) % 3600 = (px - m) % 3600 := by omega
  have e2 : (x - (af + lo) % 3600) % 3600 = (px - lo) % 3600 := by omega
  have e3 : (af - bf) % 3600 = (0 - m) % 3600 := by omega
  have hp : 0 ≤ px ∧ px < 3600 := by omega
  have hm2 : 0 ≤ m ∧ m < 3600 := by omega
  rw [e1, e2, hpx]
  rw [e3] at hhi
  rw [hm] at hlo hhi
  clear e1 e2 e3 hpx hm
  split at hlo
  · rename_i hc
    rw [if_pos hc] at hhi
    subst hlo
    subst hhi
    have e4 : (px - m) % 3600 = if px < m then px - m + 3600 else px - m := by split <;> omega
    rw [e4]
    split <;> omega
  · rename_i hc
    rw [if_neg hc] at hhi
    subst hlo
    have e4 : (px - m) % 3600 = if px < m then px - m + 3600 else px - m := by split <;> omega
    have e5 : (0 - m) % 3600 = 3600 - m := by omega
    have e6 : (px - 0) % 3600 = px := by omega
    rw [e5] at hhi
    rw [e4, e6]
    subst hhi
    split <;> omega
theorem mt_parts {af at' bf bt : Int} (h : mtB af at' bf bt = true) : vwB af at' = true ∧ vwB bf bt = true ∧ mLo af at' bf ≤ mHi af at' bf bt ∧ vwB (mtFr af at' bf bt) (mtTo af at' bf bt) = true ∧ opI (mtFr af at' bf bt) (mtTo af at' bf bt) = min (opI af at') (mHi af at' bf bt) - mLo af at' bf ∧ mtFr af at' bf bt = (af + mLo af at' bf) % 3600 := by
  have h' := h
  unfold mtB at h'
  rw [Bool.and_eq_true, Bool.and_eq_true, decide_eq_true_eq] at h'
  obtain ⟨⟨ha, hb⟩, hl⟩ := h'
  obtain ⟨a1, a2, a3, a4, a5⟩ := vw_ok ha
  obtain ⟨l1, l2⟩ := mLo_bd (bf := bf) ha
  unfold mtFr mtTo
  rw [if_pos h, if_pos h]
  refine ⟨ha, hb, hl, ?_, ?_, rfl⟩
  · exact vw_of (by omega) (by omega) (by omega)
  · rw [op_of (by omega) (by omega)]; omega
theorem meet_lies {af at' bf bt a b c d : Int} (h : brB a b c d = true) (hm : mtB af at' bf bt = true) : lsB (mtFr af at' bf bt) (mtTo af at' bf bt) a b c d = (lsB af at' a b c d && lsB bf bt a b c d) := by
  obtain ⟨ha, hb, hl, hv, ho, hf⟩ := mt_parts hm
  have m1 := mt_one (x := brDn a b c d) ha hb
  have m2 := mt_one (x := brUp a b c d) ha hb
  rw [Bool.eq_iff_iff, Bool.and_eq_true, ls_iff h, ls_iff h, ls_iff h, ho, hf]
  constructor
  · rintro ⟨_, x1, x2⟩
    obtain ⟨y1, y2⟩ := m1.2 ⟨hl, x1⟩
    obtain ⟨y3, y4⟩ := m2.2 ⟨hl, x2⟩
    exact ⟨⟨ha, y1, y3⟩, hb, y2, y4⟩
  · rintro ⟨⟨_, y1, y3⟩, _, y2, y4⟩
    exact ⟨hf ▸ hv, (m1.1 ⟨y1, y2⟩).2, (m2.1 ⟨y3, y4⟩).2⟩
theorem meet_none {af at' bf bt a b c d : Int} (h : brB a b c d = true) (hm : mtB af at' bf bt = false) : (lsB af at' a b c d && lsB bf bt a b c d) = false := by
  rw [Bool.eq_false_iff, Ne, Bool.and_eq_true, ls_iff h, ls_iff h]
  rintro ⟨⟨ha, y1, y3⟩, hb, y2, y4⟩
  have m1 := (mt_one (x := brDn a b c d) ha hb).1 ⟨y1, y2⟩
  unfold mtB at hm
  rw [ha, hb, decide_eq_true m1.1] at hm
  cases hm
theorem widen_lies {f t n a b c d : Int} (hw : wdB f t n = true) (hl : lsB f t a b c d = true) : lsB (wdF f t n) (wdT f t n) a b c d = true := by
  have h : brB a b c d = true := by unfold lsB at hl; revert hl; cases brB a b c d <;> simp
  obtain ⟨h1, h2, h3⟩ := br_nx h
  rw [ls_iff h] at hl ⊢
  obtain ⟨hv, y1, y2⟩ := hl
  obtain ⟨a1, a2, a3, a4, a5⟩ := vw_ok hv
  unfold wdF wdT
  rw [if_pos hw, if_pos hw]
  unfold wdB at hw
  rw [Bool.and_eq_true, Bool.and_eq_true, decide_eq_true_eq, decide_eq_true_eq] at hw
  obtain ⟨⟨_, w1⟩, w2⟩ := hw
  have e3 : ((t + n) % 3600 - (f - n) % 3600) % 3600 = opI f t + 2 * n := by
    have e4 : ((t + n) % 3600 - (f - n) % 3600) % 3600 = ((t - f) % 3600 + 2 * n) % 3600 := by omega
    rw [e4, ← a3]
    omega
  have key : ∀ z : Int, (z - f) % 3600 ≤ opI f t → (z - (f - n) % 3600) % 3600 ≤ opI f t + 2 * n := fun z hz => by
    obtain ⟨p, hp⟩ : ∃ p, (z - f) % 3600 = p := ⟨_, rfl⟩
    have e5 : (z - (f - n) % 3600) % 3600 = (p + n) % 3600 := by omega
    rw [e5]
    have hp0 : 0 ≤ p ∧ p < 3600 := by omega
    rw [hp] at hz
    clear hp e5
    generalize opI f t = o at *
    omega
  have f1 : 0 ≤ (f - n) % 3600 ∧ (f - n) % 3600 ≤ 3599 := by omega
  have f2 : 0 ≤ (t + n) % 3600 ∧ (t + n) % 3600 ≤ 3599 := by omega
  rw [op_of f1 f2, e3]
  exact ⟨vw_of f1 f2 (by rw [e3]; generalize opI f t = o at *; omega), key _ y1, key _ y2⟩
end Go.Proofs.YtebdboacmeafaaaGreat
