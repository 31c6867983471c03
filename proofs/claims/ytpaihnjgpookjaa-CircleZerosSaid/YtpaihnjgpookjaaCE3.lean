/- Package firetowerlaw05: CircleTurns. -/
import Derived.Test.YtpaihnjgpookjaaCD9
import Derived.Test.YtpaihnjgpookjaaCE1
import Derived.Test.YtpaihnjgpookjaaCDB
import Derived.Laws.StructEq
set_option linter.unusedVariables false
set_option linter.unusedSimpArgs false
namespace Go.Proofs.Ytpaihnjgpookjaa
open Go Go.RowKit

/-- A bearing's neighbours. -/
theorem br_nx {a b c d : Int} (h : brB a b c d = true) : 0 ≤ brDn a b c d ∧ brDn a b c d < 3600 ∧ (brUp a b c d = brDn a b c d ∨ brUp a b c d = brDn a b c d + 1) := by
  obtain ⟨h1, h2, h3⟩ := brB_ok h
  obtain ⟨t1, t2, t3, t4, _⟩ := tw_ok (x := c - a) (y := d - b) (by omega) (by omega) h3
  unfold brDn brUp
  rw [if_pos h, if_pos h]
  generalize twN (c - a) (d - b) = num at *
  generalize twD (c - a) (d - b) = den at *
  obtain ⟨q, hq⟩ : ∃ q, num / den = q := ⟨_, rfl⟩
  obtain ⟨s, hs⟩ : ∃ s, num % den = s := ⟨_, rfl⟩
  have h1 : num = den * q + s := by rw [← hq, ← hs]; exact (Int.mul_ediv_add_emod num den).symm
  have h2 : 0 ≤ s := by rw [← hs]; exact Int.emod_nonneg _ (by omega)
  have h3 : s < den := by rw [← hs]; exact Int.emod_lt_of_pos _ (by omega)
  have hq0 : 0 ≤ q := by rw [← hq]; exact Int.ediv_nonneg t3 (by omega)
  have hq1 : q < 3600 := by rw [← hq]; exact Int.ediv_lt_of_lt_mul (by omega) t4
  have hc : (num + den - 1) / den = if s = 0 then q else q + 1 := by
    split
    · rename_i h0
      rw [h1, h0, show den * q + 0 + den - 1 = (den - 1) + den * q by omega, Int.add_mul_ediv_left _ _ (by omega), Int.ediv_eq_zero_of_lt (by omega) (by omega)]
      omega
    · rename_i h0
      rw [h1, show den * q + s + den - 1 = (s - 1) + den * (q + 1) by rw [Int.mul_add]; omega, Int.add_mul_ediv_left _ _ (by omega), Int.ediv_eq_zero_of_lt (by omega) (by omega)]
      omega
  rw [hq, hc]
  refine ⟨hq0, hq1, ?_⟩
  split
  · exact .inl rfl
  · exact .inr rfl
theorem op_of {f t : Int} (hf : 0 ≤ f ∧ f ≤ 3599) (ht : 0 ≤ t ∧ t ≤ 3599) : opI f t = (t - f) % 3600 := by
  unfold opI
  rw [ci_iff.2 hf, ci_iff.2 ht]; rfl
theorem vw_of {f t : Int} (hf : 0 ≤ f ∧ f ≤ 3599) (ht : 0 ≤ t ∧ t ≤ 3599) (h : (t - f) % 3600 ≤ 900) : vwB f t = true := by
  unfold vwB
  rw [op_of hf ht, ci_iff]
  omega
theorem ls_iff {f t a b c d : Int} (h : brB a b c d = true) : lsB f t a b c d = true ↔ vwB f t = true ∧ (brDn a b c d - f) % 3600 ≤ opI f t ∧ (brUp a b c d - f) % 3600 ≤ opI f t := by
  unfold lsB
  rw [h, Bool.true_and, Bool.and_eq_true, Bool.and_eq_true, decide_eq_true_eq, decide_eq_true_eq, and_assoc]
theorem ls_next {a b c d : Int} (h : brB a b c d = true) : lsB (brDn a b c d) ((brDn a b c d + 1) % 3600) a b c d = true := by
  obtain ⟨h1, h2, h3⟩ := br_nx h
  rw [ls_iff h, op_of (by omega) (by omega)]
  exact ⟨vw_of (by omega) (by omega) (by omega), by omega, by omega⟩
theorem ls_before {a b c d : Int} (h : brB a b c d = true) : lsB ((brDn a b c d + 3598) % 3600) ((brDn a b c d + 3599) % 3600) a b c d = false := by
  obtain ⟨h1, h2, h3⟩ := br_nx h
  rw [Bool.eq_false_iff, Ne, ls_iff h, op_of (by omega) (by omega)]
  rintro ⟨_, h4, _⟩
  omega
theorem mt_one {af at' bf bt x : Int} (ha : vwB af at' = true) (hb : vwB bf bt = true) : ((x - af) % 3600 ≤ opI af at' ∧ (x - bf) % 3600 ≤ opI bf bt) ↔ (mLo af at' bf ≤ mHi af at' bf bt ∧ (x - (af + mLo af at' bf) % 3600) % 3600 ≤ min (opI af at') (mHi af at' bf bt) - mLo af at' bf) := by
  obtain ⟨a1, a2, a3, a4, a5⟩ := vw_ok ha
  obtain ⟨b1, b2, b3, b4, b5⟩ := vw_ok hb
  obtain ⟨lo, hlo⟩ : ∃ z, mLo af at' bf = z := ⟨_, rfl⟩
  obtain ⟨hi, hhi⟩ : ∃ z, mHi af at' bf bt = z := ⟨_, rfl⟩
  obtain ⟨l1, l2⟩ := mLo_bd (bf := bf) ha
  rw [hlo] at l1 l2 ⊢
  rw [hhi]
  unfold mLo at hlo
  unfold mHi at hhi
  clear a3 b3
  generalize opI af at' = oa at *
  generalize opI bf bt = ob at *
  obtain ⟨px, hpx⟩ : ∃ z, (x - af) % 3600 = z := ⟨_, rfl⟩
  obtain ⟨m, hm⟩ : ∃ z, (bf - af) % 3600 = z := ⟨_, rfl⟩
  have e1 : (x - bf) % 3600 = (px - m) % 3600 := by omega
  have e2 : (x - (af + lo) % 3600) % 3600 = (px - lo) % 3600 := by omega
  have e3 : (af - bf) % 3600 = (0 - m) % 3600 := by omega
  have hp : 0 ≤ px ∧ px < 3600 := by omega
  have hm2 : 0 ≤ m ∧ m < 3600 := by omega
  rw [e1, e2, hpx]
  rw [e3] at hhi
  rw [hm] at hlo hhi
  clear e1 e2 e3 hpx hm
  split at hlo
  · rename_i hc
    rw [if_pos hc] at hhi
    subst hlo
    subst hhi
    have e4 : (px - m) % 3600 = if px < m then px - m + 3600 else px - m := by split <;> omega
    rw [e4]
    split <;> omega
  · rename_i hc
    rw [if_neg hc] at hhi
    subst hlo
    have e4 : (px - m) % 3600 = if px < m then px - m + 3600 else px - m := by split <;> omega
    have e5 : (0 - m) % 3600 = 3600 - m := by omega
    have e6 : (px - 0) % 3600 = px := by omega
    rw [e5] at hhi
    rw [e4, e6]
    subst hhi
    split <;> omega
theorem mt_parts {af at' bf bt : Int} (h : mtB af at' bf bt = true) : vwB af at' = true ∧ vwB bf bt = true ∧ mLo af at' bf ≤ mHi af at' bf bt ∧ vwB (mtFr af at' bf bt) (mtTo af at' bf bt) = true ∧ opI (mtFr af at' bf bt) (mtTo af at' bf bt) = min (opI af at') (mHi af at' bf bt) - mLo af at' bf ∧ mtFr af at' bf bt = (af + mLo af at' bf) % 3600 := by
  have h' := h
  unfold mtB at h'
  rw [Bool.and_eq_true, Bool.and_eq_true, decide_eq_true_eq] at h'
  obtain ⟨⟨ha, hb⟩, hl⟩ := h'
  obtain ⟨a1, a2, a3, a4, a5⟩ := vw_ok ha
  obtain ⟨l1, l2⟩ := mLo_bd (bf := bf) ha
  unfold mtFr mtTo
  rw [if_pos h, if_pos h]
  refine ⟨ha, hb, hl, ?_, ?_, rfl⟩
  · exact vw_of (by omega) (by omega) (by omega)
  · rw [op_of (by omega) (by omega)]; omega
theorem meet_lies {af at' bf bt a b c d : Int} (h : brB a b c d = true) (hm : mtB af at' bf bt = true) : lsB (mtFr af at' bf bt) (mtTo af at' bf bt) a b c d = (lsB af at' a b c d && lsB bf bt a b c d) := by
  obtain ⟨ha, hb, hl, hv, ho, hf⟩ := mt_parts hm
  have m1 := mt_one (x := brDn a b c d) ha hb
  have m2 := mt_one (x := brUp a b c d) ha hb
  rw [Bool.eq_iff_iff, Bool.and_eq_true, ls_iff h, ls_iff h, ls_iff h, ho, hf]
  constructor
  · rintro ⟨_, x1, x2⟩
    obtain ⟨y1, y2⟩ := m1.2 ⟨hl, x1⟩
    obtain ⟨y3, y4⟩ := m2.2 ⟨hl, x2⟩
    exact ⟨⟨ha, y1, y3⟩, hb, y2, y4⟩
  · rintro ⟨⟨_, y1, y3⟩, _, y2, y4⟩
    exact ⟨hf ▸ hv, (m1.1 ⟨y1, y2⟩).2, (m2.1 ⟨y3, y4⟩).2⟩
theorem meet_none {af at' bf bt a b c d : Int} (h : brB a b c d = true) (hm : mtB af at' bf bt = false) : (lsB af at' a b c d && lsB bf bt a b c d) = false := by
  rw [Bool.eq_false_iff, Ne, Bool.and_eq_true, ls_iff h, ls_iff h]
  rintro ⟨⟨ha, y1, y3⟩, hb, y2, y4⟩
  have m1 := (mt_one (x := brDn a b c d) ha hb).1 ⟨y1, y2⟩
  unfold mtB at hm
  rw [ha, hb, decide_eq_true m1.1] at hm
  cases hm
theorem widen_lies {f t n a b c d : Int} (hw : wdB f t n = true) (hl : lsB f t a b c d = true) : lsB (wdF f t n) (wdT f t n) a b c d = true := by
  have h : brB a b c d = true := by unfold lsB at hl; revert hl; cases brB a b c d <;> simp
  obtain ⟨h1, h2, h3⟩ := br_nx h
  rw [ls_iff h] at hl ⊢
  obtain ⟨hv, y1, y2⟩ := hl
  obtain ⟨a1, a2, a3, a4, a5⟩ := vw_ok hv
  unfold wdF wdT
  rw [if_pos hw, if_pos hw]
  unfold wdB at hw
  rw [Bool.and_eq_true, Bool.and_eq_true, decide_eq_true_eq, decide_eq_true_eq] at hw
  obtain ⟨⟨_, w1⟩, w2⟩ := hw
  have e3 : ((t + n) % 3600 - (f - n) % 3600) % 3600 = opI f t + 2 * n := by
    have e4 : ((t + n) % 3600 - (f - n) % 3600) % 3600 = ((t - f) % 3600 + 2 * n) % 3600 := by omega
    rw [e4, ← a3]
    omega
  have key : ∀ z : Int, (z - f) % 3600 ≤ opI f t → (z - (f - n) % 3600) % 3600 ≤ opI f t + 2 * n := fun z hz => by
    obtain ⟨p, hp⟩ : ∃ p, (z - f) % 3600 = p := ⟨_, rfl⟩
    have e5 : (z - (f - n) % 3600) % 3600 = (p + n) % 3600 := by omega
    rw [e5]
    have hp0 : 0 ≤ p ∧ p < 3600 := by omega
    rw [hp] at hz
    clear hp e5
    generalize opI f t = o at *
    omega
  have f1 : 0 ≤ (f - n) % 3600 ∧ (f - n) % 3600 ≤ 3599 := by omega
  have f2 : 0 ≤ (t + n) % 3600 ∧ (t + n) % 3600 ≤ 3599 := by omega
  rw [op_of f1 f2, e3]
  exact ⟨vw_of f1 f2 (by rw [e3]; generalize opI f t = o at *; omega), key _ y1, key _ y2⟩
set_option maxRecDepth 100000 in
set_option maxHeartbeats 8000000 in
theorem turns_card (a b c d pf pt qf qt n : Int) (w : World) (hn : -9223372036854775808 ≤ n ∧ n ≤ 9223372036854775807) : Calls Try.prog 7 #[.agg #[.int .i64 a, .int .i64 b], .agg #[.int .i64 c, .int .i64 d], .agg #[.int .i64 pf, .int .i64 pt], .agg #[.int .i64 qf, .int .i64 qt], .int .i64 n] w fun e w' => e = .returned (.bool true) ∧ Below w.heap.size w w' := by
  have H1 := Lib.hid (fun w' => Division_any a b c d w')
  unfold dvV at H1
  have H2 := Lib.hid (fun w' => Lies_any pf pt a b c d w')
  have H3 := Lib.hid (fun w' => Lies_any qf qt a b c d w')
  have H4 := Lib.hid (fun w' => Meet_any pf pt qf qt w')
  rw [mtV_eq] at H4
  have H5 := Lib.hid (fun w' => Lies_any (mtFr pf pt qf qt) (mtTo pf pt qf qt) a b c d w')
  have H6 := Lib.hid (fun w' => Widen_any pf pt n w')
  have H7 := Lib.hid (fun w' => Lies_any (wdF pf pt n) (wdT pf pt n) a b c d w')
  have H8 := Lib.hid (fun w' => sanity_any w')
  have H9 := Lib.hid (fun w' => Lies_any (brDn a b c d) ((brDn a b c d + 1) % 3600) a b c d w')
  have H10 := Lib.hid (fun w' => Lies_any ((brDn a b c d + 3598) % 3600) ((brDn a b c d + 3599) % 3600) a b c d w')
  have HNX := Lib.hid (br_nx (a := a) (b := b) (c := c) (d := d))
  have HNE := Lib.hid (ls_next (a := a) (b := b) (c := c) (d := d))
  have HNB := Lib.hid (ls_before (a := a) (b := b) (c := c) (d := d))
  have HME := Lib.hid (meet_lies (af := pf) (at' := pt) (bf := qf) (bt := qt) (a := a) (b := b) (c := c) (d := d))
  have HMN := Lib.hid (meet_none (af := pf) (at' := pt) (bf := qf) (bt := qt) (a := a) (b := b) (c := c) (d := d))
  have HOO : Hid (brB a b c d = false → lsB pf pt a b c d = false) := Lib.hid (fun h => by unfold lsB; rw [h]; rfl)
  have HTT : Hid (brB a b c d = false → lsB qf qt a b c d = false) := Lib.hid (fun h => by unfold lsB; rw [h]; rfl)
  have HWL := Lib.hid (widen_lies (f := pf) (t := pt) (n := n) (a := a) (b := b) (c := c) (d := d))
  obtain ⟨ok, hok⟩ : ∃ z, brB a b c d = z := ⟨_, rfl⟩
  obtain ⟨one, hone⟩ : ∃ z, lsB pf pt a b c d = z := ⟨_, rfl⟩
  obtain ⟨two, htwo⟩ : ∃ z, lsB qf qt a b c d = z := ⟨_, rfl⟩
  obtain ⟨both, hboth⟩ : ∃ z, lsB (mtFr pf pt qf qt) (mtTo pf pt qf qt) a b c d = z := ⟨_, rfl⟩
  obtain ⟨big, hbig⟩ : ∃ z, lsB (wdF pf pt n) (wdT pf pt n) a b c d = z := ⟨_, rfl⟩
  obtain ⟨nx, hnx⟩ : ∃ z, lsB (brDn a b c d) ((brDn a b c d + 1) % 3600) a b c d = z := ⟨_, rfl⟩
  obtain ⟨bef, hbef⟩ : ∃ z, lsB ((brDn a b c d + 3598) % 3600) ((brDn a b c d + 3599) % 3600) a b c d = z := ⟨_, rfl⟩
  obtain ⟨MF, hMF⟩ : ∃ z, mtFr pf pt qf qt = z := ⟨_, rfl⟩
  obtain ⟨MT, hMT⟩ : ∃ z, mtTo pf pt qf qt = z := ⟨_, rfl⟩
  obtain ⟨MB, hMB⟩ : ∃ z, mtB pf pt qf qt = z := ⟨_, rfl⟩
  obtain ⟨WF, hWF⟩ : ∃ z, wdF pf pt n = z := ⟨_, rfl⟩
  obtain ⟨WT, hWT⟩ : ∃ z, wdT pf pt n = z := ⟨_, rfl⟩
  obtain ⟨WB, hWB⟩ : ∃ z, wdB pf pt n = z := ⟨_, rfl⟩
  obtain ⟨D, hD⟩ : ∃ z, brDn a b c d = z := ⟨_, rfl⟩
  rw [hok, hD] at H1
  rw [hone] at H2
  rw [htwo] at H3
  rw [hMF, hMT, hMB] at H4
  rw [hboth, hMF, hMT] at H5
  rw [hWF, hWT, hWB] at H6
  rw [hbig, hWF, hWT] at H7
  rw [hnx, hD] at H9
  rw [hbef, hD] at H10
  rw [hok, hD] at HNX
  rw [hok, hone] at HOO
  rw [hok, htwo] at HTT
  rw [hok, hnx] at HNE
  rw [hok, hbef] at HNB
  rw [hok, hMB, hboth, hone, htwo] at HME
  rw [hok, hMB, hone, htwo] at HMN
  rw [hWB, hone, hbig] at HWL
  clear hok hone htwo hboth hbig hnx hbef hMF hMT hMB hWF hWT hWB hD
  obtain ⟨x0, x1, x2, x3, xlt, xb⟩ := cells4 w #[.int .i64 a, .int .i64 b] #[.int .i64 c, .int .i64 d] #[.int .i64 pf, .int .i64 pt] #[.int .i64 qf, .int .i64 qt] 25 25 23 23 (Below.refl _ _)
  have HNf : Hid (((((w.alloc (.cells #[.int .i64 a, .int .i64 b] 25)).alloc (.cells #[.int .i64 c, .int .i64 d] 25)).alloc (.cells #[.int .i64 pf, .int .i64 pt] 23)).alloc (.cells #[.int .i64 qf, .int .i64 qt] 23)).heap[w.heap.size]? = some (.cells #[.int .i64 a, .int .i64 b] 25 (0, 0))) := Lib.hid x0
  have HNt : Hid (((((w.alloc (.cells #[.int .i64 a, .int .i64 b] 25)).alloc (.cells #[.int .i64 c, .int .i64 d] 25)).alloc (.cells #[.int .i64 pf, .int .i64 pt] 23)).alloc (.cells #[.int .i64 qf, .int .i64 qt] 23)).heap[w.heap.size + 1]? = some (.cells #[.int .i64 c, .int .i64 d] 25 (0, 0))) := Lib.hid x1
  have HNp : Hid (((((w.alloc (.cells #[.int .i64 a, .int .i64 b] 25)).alloc (.cells #[.int .i64 c, .int .i64 d] 25)).alloc (.cells #[.int .i64 pf, .int .i64 pt] 23)).alloc (.cells #[.int .i64 qf, .int .i64 qt] 23)).heap[w.heap.size + 1 + 1]? = some (.cells #[.int .i64 pf, .int .i64 pt] 23 (0, 0))) := Lib.hid x2
  have HNq : Hid (((((w.alloc (.cells #[.int .i64 a, .int .i64 b] 25)).alloc (.cells #[.int .i64 c, .int .i64 d] 25)).alloc (.cells #[.int .i64 pf, .int .i64 pt] 23)).alloc (.cells #[.int .i64 qf, .int .i64 qt] 23)).heap[w.heap.size + 1 + 1 + 1]? = some (.cells #[.int .i64 qf, .int .i64 qt] 23 (0, 0))) := Lib.hid x3
  have HB : Hid (Below w.heap.size w ((((w.alloc (.cells #[.int .i64 a, .int .i64 b] 25)).alloc (.cells #[.int .i64 c, .int .i64 d] 25)).alloc (.cells #[.int .i64 pf, .int .i64 pt] 23)).alloc (.cells #[.int .i64 qf, .int .i64 qt] 23))) := Lib.hid xb
  obtain ⟨Z, hZ⟩ : ∃ Z, ((((w.alloc (.cells #[.int .i64 a, .int .i64 b] 25)).alloc (.cells #[.int .i64 c, .int .i64 d] 25)).alloc (.cells #[.int .i64 pf, .int .i64 pt] 23)).alloc (.cells #[.int .i64 qf, .int .i64 qt] 23)) = Z := ⟨_, rfl⟩
  rw [hZ] at HB HNf HNt HNp HNq
  have HZ := Lib.hid hZ
  clear hZ xlt xb x0 x1 x2 x3
  go_enter Try.func7, Try.ntmps7
  go_wp2_with fail
  rw [HZ.out]
  refine (H1.out _).mono ?_
  rintro e w1 ⟨rfl, hb⟩
  have HB := Lib.hid (HB.out.trans (hb.mono HB.out.size))
  have HNf := Lib.hid ((hb.block _ (Array.getElem?_eq_some_iff.1 HNf.out).1).trans HNf.out)
  have HNt := Lib.hid ((hb.block _ (Array.getElem?_eq_some_iff.1 HNt.out).1).trans HNt.out)
  have HNp := Lib.hid ((hb.block _ (Array.getElem?_eq_some_iff.1 HNp.out).1).trans HNp.out)
  have HNq := Lib.hid ((hb.block _ (Array.getElem?_eq_some_iff.1 HNq.out).1).trans HNq.out)
  clear hb
  cases ok
  · have hone : one = false := HOO.out (by trivial)
    have htwo : two = false := HTT.out (by trivial)
    subst hone
    subst htwo
    have zf0 := cellH HNf.out 0
    have zf1 := cellH HNf.out 1
    have zt0 := cellH HNt.out 0
    have zt1 := cellH HNt.out 1
    have zp0 := cellH HNp.out 0
    have zp1 := cellH HNp.out 1
    have zq0 := cellH HNq.out 0
    have zq1 := cellH HNq.out 1
    simp only [List.getElem?_toArray, List.getElem?_cons_zero, List.getElem?_cons_succ] at zf0 zf1 zt0 zt1 zp0 zp1 zq0 zq1
    go_wp2_with fail
    refine (H2.out _).mono ?_
    rintro e w2 ⟨rfl, hb⟩
    clear zf0 zf1 zt0 zt1 zp0 zp1 zq0 zq1
    have HB := Lib.hid (HB.out.trans (hb.mono HB.out.size))
    have HNf := Lib.hid ((hb.block _ (Array.getElem?_eq_some_iff.1 HNf.out).1).trans HNf.out)
    have HNt := Lib.hid ((hb.block _ (Array.getElem?_eq_some_iff.1 HNt.out).1).trans HNt.out)
    have HNp := Lib.hid ((hb.block _ (Array.getElem?_eq_some_iff.1 HNp.out).1).trans HNp.out)
    have HNq := Lib.hid ((hb.block _ (Array.getElem?_eq_some_iff.1 HNq.out).1).trans HNq.out)
    clear hb
    have zf0 := cellH HNf.out 0
    have zf1 := cellH HNf.out 1
    have zt0 := cellH HNt.out 0
    have zt1 := cellH HNt.out 1
    have zp0 := cellH HNp.out 0
    have zp1 := cellH HNp.out 1
    have zq0 := cellH HNq.out 0
    have zq1 := cellH HNq.out 1
    simp only [List.getElem?_toArray, List.getElem?_cons_zero, List.getElem?_cons_succ] at zf0 zf1 zt0 zt1 zp0 zp1 zq0 zq1
    go_wp2_with fail
    refine (H3.out _).mono ?_
    rintro e w3 ⟨rfl, hb⟩
    clear zf0 zf1 zt0 zt1 zp0 zp1 zq0 zq1
    have HB := Lib.hid (HB.out.trans (hb.mono HB.out.size))
    have HNf := Lib.hid ((hb.block _ (Array.getElem?_eq_some_iff.1 HNf.out).1).trans HNf.out)
    have HNt := Lib.hid ((hb.block _ (Array.getElem?_eq_some_iff.1 HNt.out).1).trans HNt.out)
    have HNp := Lib.hid ((hb.block _ (Array.getElem?_eq_some_iff.1 HNp.out).1).trans HNp.out)
    have HNq := Lib.hid ((hb.block _ (Array.getElem?_eq_some_iff.1 HNq.out).1).trans HNq.out)
    clear hb
    have zf0 := cellH HNf.out 0
    have zf1 := cellH HNf.out 1
    have zt0 := cellH HNt.out 0
    have zt1 := cellH HNt.out 1
    have zp0 := cellH HNp.out 0
    have zp1 := cellH HNp.out 1
    have zq0 := cellH HNq.out 0
    have zq1 := cellH HNq.out 1
    simp only [List.getElem?_toArray, List.getElem?_cons_zero, List.getElem?_cons_succ] at zf0 zf1 zt0 zt1 zp0 zp1 zq0 zq1
    go_wp2_with fail
    refine (H4.out _).mono ?_
    rintro e w4 ⟨rfl, hb⟩
    clear zf0 zf1 zt0 zt1 zp0 zp1 zq0 zq1
    have HB := Lib.hid (HB.out.trans (hb.mono HB.out.size))
    have HNf := Lib.hid ((hb.block _ (Array.getElem?_eq_some_iff.1 HNf.out).1).trans HNf.out)
    have HNt := Lib.hid ((hb.block _ (Array.getElem?_eq_some_iff.1 HNt.out).1).trans HNt.out)
    have HNp := Lib.hid ((hb.block _ (Array.getElem?_eq_some_iff.1 HNp.out).1).trans HNp.out)
    have HNq := Lib.hid ((hb.block _ (Array.getElem?_eq_some_iff.1 HNq.out).1).trans HNq.out)
    clear hb
    have hal : Below w4.heap.size w4 (w4.alloc (.cells #[.int .i64 MF, .int .i64 MT] 23)) := (Below.refl _ w4).alloc (Nat.le_refl _) _
    have HSm : Hid (w.heap.size ≤ w4.heap.size) := Lib.hid HB.out.size
    have HNm : Hid ((w4.alloc (.cells #[.int .i64 MF, .int .i64 MT] 23)).heap[w4.heap.size]? = some (.cells #[.int .i64 MF, .int .i64 MT] 23 (0, 0))) := Lib.hid (heap_alloc_new _ _)
    have HB := Lib.hid (HB.out.trans (hal.mono HB.out.size))
    have HNf := Lib.hid ((hal.block _ (Array.getElem?_eq_some_iff.1 HNf.out).1).trans HNf.out)
    have HNt := Lib.hid ((hal.block _ (Array.getElem?_eq_some_iff.1 HNt.out).1).trans HNt.out)
    have HNp := Lib.hid ((hal.block _ (Array.getElem?_eq_some_iff.1 HNp.out).1).trans HNp.out)
    have HNq := Lib.hid ((hal.block _ (Array.getElem?_eq_some_iff.1 HNq.out).1).trans HNq.out)
    obtain ⟨am, ham⟩ : ∃ qq, w4.alloc (.cells #[.int .i64 MF, .int .i64 MT] 23) = qq := ⟨_, rfl⟩
    obtain ⟨bkm, hbm⟩ : ∃ qq, w4.heap.size = qq := ⟨_, rfl⟩
    rw [ham] at HB HNm HNf HNt HNp HNq
    rw [hbm] at HNm HSm
    clear hal
    have zf0 := cellH HNf.out 0
    have zf1 := cellH HNf.out 1
    have zt0 := cellH HNt.out 0
    have zt1 := cellH HNt.out 1
    have zp0 := cellH HNp.out 0
    have zp1 := cellH HNp.out 1
    simp only [List.getElem?_toArray, List.getElem?_cons_zero, List.getElem?_cons_succ] at zf0 zf1 zt0 zt1 zp0 zp1
    go_wp2_with fail
    try clear ham hbm
    refine (H6.out _).mono ?_
    rintro e w5 ⟨rfl, hb⟩
    clear zf0 zf1 zt0 zt1 zp0 zp1
    have HB := Lib.hid (HB.out.trans (hb.mono HB.out.size))
    have HNf := Lib.hid ((hb.block _ (Array.getElem?_eq_some_iff.1 HNf.out).1).trans HNf.out)
    have HNt := Lib.hid ((hb.block _ (Array.getElem?_eq_some_iff.1 HNt.out).1).trans HNt.out)
    have HNp := Lib.hid ((hb.block _ (Array.getElem?_eq_some_iff.1 HNp.out).1).trans HNp.out)
    have HNq := Lib.hid ((hb.block _ (Array.getElem?_eq_some_iff.1 HNq.out).1).trans HNq.out)
    have HNm := Lib.hid ((hb.block _ (Array.getElem?_eq_some_iff.1 HNm.out).1).trans HNm.out)
    clear hb
    have hal : Below w5.heap.size w5 (w5.alloc (.cells #[.int .i64 WF, .int .i64 WT] 23)) := (Below.refl _ w5).alloc (Nat.le_refl _) _
    have HSv : Hid (w.heap.size ≤ w5.heap.size) := Lib.hid HB.out.size
    have HNv : Hid ((w5.alloc (.cells #[.int .i64 WF, .int .i64 WT] 23)).heap[w5.heap.size]? = some (.cells #[.int .i64 WF, .int .i64 WT] 23 (0, 0))) := Lib.hid (heap_alloc_new _ _)
    have HB := Lib.hid (HB.out.trans (hal.mono HB.out.size))
    have HNf := Lib.hid ((hal.block _ (Array.getElem?_eq_some_iff.1 HNf.out).1).trans HNf.out)
    have HNt := Lib.hid ((hal.block _ (Array.getElem?_eq_some_iff.1 HNt.out).1).trans HNt.out)
    have HNp := Lib.hid ((hal.block _ (Array.getElem?_eq_some_iff.1 HNp.out).1).trans HNp.out)
    have HNq := Lib.hid ((hal.block _ (Array.getElem?_eq_some_iff.1 HNq.out).1).trans HNq.out)
    have HNm := Lib.hid ((hal.block _ (Array.getElem?_eq_some_iff.1 HNm.out).1).trans HNm.out)
    obtain ⟨av, hav⟩ : ∃ qq, w5.alloc (.cells #[.int .i64 WF, .int .i64 WT] 23) = qq := ⟨_, rfl⟩
    obtain ⟨bkv, hbv⟩ : ∃ qq, w5.heap.size = qq := ⟨_, rfl⟩
    rw [hav] at HB HNv HNf HNt HNp HNq HNm
    rw [hbv] at HNv HSv
    clear hal
    cases WB
    · have KK := HWL
      have zf0 := cellH HNf.out 0
      have zf1 := cellH HNf.out 1
      have zt0 := cellH HNt.out 0
      have zt1 := cellH HNt.out 1
      have zv0 := cellH HNv.out 0
      have zv1 := cellH HNv.out 1
      simp only [List.getElem?_toArray, List.getElem?_cons_zero, List.getElem?_cons_succ] at zf0 zf1 zt0 zt1 zv0 zv1
      go_wp2_with fail
      try clear hav hbv
      refine (H8.out _).mono ?_
      rintro e w6 ⟨rfl, hb⟩
      clear zf0 zf1 zt0 zt1 zv0 zv1
      have HB := Lib.hid (HB.out.trans (hb.mono HB.out.size))
      have HNf := Lib.hid ((hb.block _ (Array.getElem?_eq_some_iff.1 HNf.out).1).trans HNf.out)
      have HNt := Lib.hid ((hb.block _ (Array.getElem?_eq_some_iff.1 HNt.out).1).trans HNt.out)
      have HNp := Lib.hid ((hb.block _ (Array.getElem?_eq_some_iff.1 HNp.out).1).trans HNp.out)
      have HNq := Lib.hid ((hb.block _ (Array.getElem?_eq_some_iff.1 HNq.out).1).trans HNq.out)
      have HNm := Lib.hid ((hb.block _ (Array.getElem?_eq_some_iff.1 HNm.out).1).trans HNm.out)
      have HNv := Lib.hid ((hb.block _ (Array.getElem?_eq_some_iff.1 HNv.out).1).trans HNv.out)
      clear hb
      clear KK
      go_wp2_with fail
      go_ret
      exact ⟨rfl, HB.out⟩
    · have KK := HWL
      have zf0 := cellH HNf.out 0
      have zf1 := cellH HNf.out 1
      have zt0 := cellH HNt.out 0
      have zt1 := cellH HNt.out 1
      have zv0 := cellH HNv.out 0
      have zv1 := cellH HNv.out 1
      simp only [List.getElem?_toArray, List.getElem?_cons_zero, List.getElem?_cons_succ] at zf0 zf1 zt0 zt1 zv0 zv1
      go_wp2_with fail
      try clear hav hbv
      refine (H8.out _).mono ?_
      rintro e w7 ⟨rfl, hb⟩
      clear zf0 zf1 zt0 zt1 zv0 zv1
      have HB := Lib.hid (HB.out.trans (hb.mono HB.out.size))
      have HNf := Lib.hid ((hb.block _ (Array.getElem?_eq_some_iff.1 HNf.out).1).trans HNf.out)
      have HNt := Lib.hid ((hb.block _ (Array.getElem?_eq_some_iff.1 HNt.out).1).trans HNt.out)
      have HNp := Lib.hid ((hb.block _ (Array.getElem?_eq_some_iff.1 HNp.out).1).trans HNp.out)
      have HNq := Lib.hid ((hb.block _ (Array.getElem?_eq_some_iff.1 HNq.out).1).trans HNq.out)
      have HNm := Lib.hid ((hb.block _ (Array.getElem?_eq_some_iff.1 HNm.out).1).trans HNm.out)
      have HNv := Lib.hid ((hb.block _ (Array.getElem?_eq_some_iff.1 HNv.out).1).trans HNv.out)
      clear hb
      clear KK
      go_wp2_with fail
      go_ret
      exact ⟨rfl, HB.out⟩
  have hnx := HNX.out rfl
  have e1 : IntKind.i64.wrap (D + 1) = D + 1 := IntWalk.i64_in _ (by omega)
  have e2 : IntKind.i64.wrap (D + 3600) = D + 3600 := IntWalk.i64_in _ (by omega)
  have e3 : IntKind.i64.wrap (D + 3600 - 2) = D + 3600 - 2 := IntWalk.i64_in _ (by omega)
  have e4 : IntKind.i64.wrap (D + 3600 - 1) = D + 3600 - 1 := IntWalk.i64_in _ (by omega)
  have t1 : (D + 1).tmod 3600 = (D + 1) % 3600 := Int.tmod_eq_emod_of_nonneg (by omega)
  have t2 : (D + 3600 - 2).tmod 3600 = (D + 3598) % 3600 := by rw [Int.tmod_eq_emod_of_nonneg (by omega)]; congr 1; omega
  have t3 : (D + 3600 - 1).tmod 3600 = (D + 3599) % 3600 := by rw [Int.tmod_eq_emod_of_nonneg (by omega)]; congr 1; omega
  have d1 : decide (D < 0) = false := decide_eq_false (by omega)
  have d2 : decide (3600 ≤ D) = false := decide_eq_false (by omega)
  obtain ⟨E1, hE1⟩ : ∃ z, (D + 1) % 3600 = z := ⟨_, rfl⟩
  obtain ⟨E2, hE2⟩ : ∃ z, (D + 3598) % 3600 = z := ⟨_, rfl⟩
  obtain ⟨E3, hE3⟩ : ∃ z, (D + 3599) % 3600 = z := ⟨_, rfl⟩
  rw [hE1] at H9 t1
  rw [hE2, hE3] at H10
  rw [hE2] at t2
  rw [hE3] at t3
  obtain rfl : nx = true := HNE.out rfl
  obtain rfl : bef = false := HNB.out rfl
  have HME := Lib.hid (HME.out rfl)
  have HMN := Lib.hid (HMN.out rfl)
  clear hnx hE1 hE2 hE3 HNE HNB HNX HOO HTT
  have hal : Below w1.heap.size w1 (w1.alloc (.cells #[.int .i64 D, .int .i64 E1] 23)) := (Below.refl _ w1).alloc (Nat.le_refl _) _
  have HSn : Hid (w.heap.size ≤ w1.heap.size) := Lib.hid HB.out.size
  have HNn : Hid ((w1.alloc (.cells #[.int .i64 D, .int .i64 E1] 23)).heap[w1.heap.size]? = some (.cells #[.int .i64 D, .int .i64 E1] 23 (0, 0))) := Lib.hid (heap_alloc_new _ _)
  have HB := Lib.hid (HB.out.trans (hal.mono HB.out.size))
  have HNf := Lib.hid ((hal.block _ (Array.getElem?_eq_some_iff.1 HNf.out).1).trans HNf.out)
  have HNt := Lib.hid ((hal.block _ (Array.getElem?_eq_some_iff.1 HNt.out).1).trans HNt.out)
  have HNp := Lib.hid ((hal.block _ (Array.getElem?_eq_some_iff.1 HNp.out).1).trans HNp.out)
  have HNq := Lib.hid ((hal.block _ (Array.getElem?_eq_some_iff.1 HNq.out).1).trans HNq.out)
  obtain ⟨an, han⟩ : ∃ qq, w1.alloc (.cells #[.int .i64 D, .int .i64 E1] 23) = qq := ⟨_, rfl⟩
  obtain ⟨bkn, hbn⟩ : ∃ qq, w1.heap.size = qq := ⟨_, rfl⟩
  rw [han] at HB HNn HNf HNt HNp HNq
  rw [hbn] at HNn HSn
  clear hal
  have hal : Below an.heap.size an (an.alloc (.cells #[.int .i64 E2, .int .i64 E3] 23)) := (Below.refl _ an).alloc (Nat.le_refl _) _
  have HSk : Hid (w.heap.size ≤ an.heap.size) := Lib.hid HB.out.size
  have HNk : Hid ((an.alloc (.cells #[.int .i64 E2, .int .i64 E3] 23)).heap[an.heap.size]? = some (.cells #[.int .i64 E2, .int .i64 E3] 23 (0, 0))) := Lib.hid (heap_alloc_new _ _)
  have HB := Lib.hid (HB.out.trans (hal.mono HB.out.size))
  have HNf := Lib.hid ((hal.block _ (Array.getElem?_eq_some_iff.1 HNf.out).1).trans HNf.out)
  have HNt := Lib.hid ((hal.block _ (Array.getElem?_eq_some_iff.1 HNt.out).1).trans HNt.out)
  have HNp := Lib.hid ((hal.block _ (Array.getElem?_eq_some_iff.1 HNp.out).1).trans HNp.out)
  have HNq := Lib.hid ((hal.block _ (Array.getElem?_eq_some_iff.1 HNq.out).1).trans HNq.out)
  have HNn := Lib.hid ((hal.block _ (Array.getElem?_eq_some_iff.1 HNn.out).1).trans HNn.out)
  obtain ⟨ak, hak⟩ : ∃ qq, an.alloc (.cells #[.int .i64 E2, .int .i64 E3] 23) = qq := ⟨_, rfl⟩
  obtain ⟨bkk, hbk⟩ : ∃ qq, an.heap.size = qq := ⟨_, rfl⟩
  rw [hak] at HB HNk HNf HNt HNp HNq HNn
  rw [hbk] at HNk HSk
  clear hal
  have zf0 := cellH HNf.out 0
  have zf1 := cellH HNf.out 1
  have zt0 := cellH HNt.out 0
  have zt1 := cellH HNt.out 1
  have zp0 := cellH HNp.out 0
  have zp1 := cellH HNp.out 1
  have zq0 := cellH HNq.out 0
  have zq1 := cellH HNq.out 1
  have zn0 := cellH HNn.out 0
  have zn1 := cellH HNn.out 1
  have zk0 := cellH HNk.out 0
  have zk1 := cellH HNk.out 1
  simp only [List.getElem?_toArray, List.getElem?_cons_zero, List.getElem?_cons_succ] at zf0 zf1 zt0 zt1 zp0 zp1 zq0 zq1 zn0 zn1 zk0 zk1
  go_wp2_with fail
  try clear han hbn hak hbk
  refine (H9.out _).mono ?_
  rintro e w8 ⟨rfl, hb⟩
  clear zf0 zf1 zt0 zt1 zp0 zp1 zq0 zq1 zn0 zn1 zk0 zk1
  have HB := Lib.hid (HB.out.trans (hb.mono HB.out.size))
  have HNf := Lib.hid ((hb.block _ (Array.getElem?_eq_some_iff.1 HNf.out).1).trans HNf.out)
  have HNt := Lib.hid ((hb.block _ (Array.getElem?_eq_some_iff.1 HNt.out).1).trans HNt.out)
  have HNp := Lib.hid ((hb.block _ (Array.getElem?_eq_some_iff.1 HNp.out).1).trans HNp.out)
  have HNq := Lib.hid ((hb.block _ (Array.getElem?_eq_some_iff.1 HNq.out).1).trans HNq.out)
  have HNn := Lib.hid ((hb.block _ (Array.getElem?_eq_some_iff.1 HNn.out).1).trans HNn.out)
  have HNk := Lib.hid ((hb.block _ (Array.getElem?_eq_some_iff.1 HNk.out).1).trans HNk.out)
  clear hb
  clear e1 e2 e3 e4 t1 t2 t3 d1 d2
  have zf0 := cellH HNf.out 0
  have zf1 := cellH HNf.out 1
  have zt0 := cellH HNt.out 0
  have zt1 := cellH HNt.out 1
  have zp0 := cellH HNp.out 0
  have zp1 := cellH HNp.out 1
  have zq0 := cellH HNq.out 0
  have zq1 := cellH HNq.out 1
  have zn0 := cellH HNn.out 0
  have zn1 := cellH HNn.out 1
  have zk0 := cellH HNk.out 0
  have zk1 := cellH HNk.out 1
  simp only [List.getElem?_toArray, List.getElem?_cons_zero, List.getElem?_cons_succ] at zf0 zf1 zt0 zt1 zp0 zp1 zq0 zq1 zn0 zn1 zk0 zk1
  go_wp2_with fail
  refine (H10.out _).mono ?_
  rintro e w9 ⟨rfl, hb⟩
  clear zf0 zf1 zt0 zt1 zp0 zp1 zq0 zq1 zn0 zn1 zk0 zk1
  have HB := Lib.hid (HB.out.trans (hb.mono HB.out.size))
  have HNf := Lib.hid ((hb.block _ (Array.getElem?_eq_some_iff.1 HNf.out).1).trans HNf.out)
  have HNt := Lib.hid ((hb.block _ (Array.getElem?_eq_some_iff.1 HNt.out).1).trans HNt.out)
  have HNp := Lib.hid ((hb.block _ (Array.getElem?_eq_some_iff.1 HNp.out).1).trans HNp.out)
  have HNq := Lib.hid ((hb.block _ (Array.getElem?_eq_some_iff.1 HNq.out).1).trans HNq.out)
  have HNn := Lib.hid ((hb.block _ (Array.getElem?_eq_some_iff.1 HNn.out).1).trans HNn.out)
  have HNk := Lib.hid ((hb.block _ (Array.getElem?_eq_some_iff.1 HNk.out).1).trans HNk.out)
  clear hb
  clear HNn HNk
  have zf0 := cellH HNf.out 0
  have zf1 := cellH HNf.out 1
  have zt0 := cellH HNt.out 0
  have zt1 := cellH HNt.out 1
  have zp0 := cellH HNp.out 0
  have zp1 := cellH HNp.out 1
  have zq0 := cellH HNq.out 0
  have zq1 := cellH HNq.out 1
  simp only [List.getElem?_toArray, List.getElem?_cons_zero, List.getElem?_cons_succ] at zf0 zf1 zt0 zt1 zp0 zp1 zq0 zq1
  go_wp2_with fail
  refine (H2.out _).mono ?_
  rintro e w10 ⟨rfl, hb⟩
  clear zf0 zf1 zt0 zt1 zp0 zp1 zq0 zq1
  have HB := Lib.hid (HB.out.trans (hb.mono HB.out.size))
  have HNf := Lib.hid ((hb.block _ (Array.getElem?_eq_some_iff.1 HNf.out).1).trans HNf.out)
  have HNt := Lib.hid ((hb.block _ (Array.getElem?_eq_some_iff.1 HNt.out).1).trans HNt.out)
  have HNp := Lib.hid ((hb.block _ (Array.getElem?_eq_some_iff.1 HNp.out).1).trans HNp.out)
  have HNq := Lib.hid ((hb.block _ (Array.getElem?_eq_some_iff.1 HNq.out).1).trans HNq.out)
  clear hb
  have zf0 := cellH HNf.out 0
  have zf1 := cellH HNf.out 1
  have zt0 := cellH HNt.out 0
  have zt1 := cellH HNt.out 1
  have zp0 := cellH HNp.out 0
  have zp1 := cellH HNp.out 1
  have zq0 := cellH HNq.out 0
  have zq1 := cellH HNq.out 1
  simp only [List.getElem?_toArray, List.getElem?_cons_zero, List.getElem?_cons_succ] at zf0 zf1 zt0 zt1 zp0 zp1 zq0 zq1
  go_wp2_with fail
  refine (H3.out _).mono ?_
  rintro e w11 ⟨rfl, hb⟩
  clear zf0 zf1 zt0 zt1 zp0 zp1 zq0 zq1
  have HB := Lib.hid (HB.out.trans (hb.mono HB.out.size))
  have HNf := Lib.hid ((hb.block _ (Array.getElem?_eq_some_iff.1 HNf.out).1).trans HNf.out)
  have HNt := Lib.hid ((hb.block _ (Array.getElem?_eq_some_iff.1 HNt.out).1).trans HNt.out)
  have HNp := Lib.hid ((hb.block _ (Array.getElem?_eq_some_iff.1 HNp.out).1).trans HNp.out)
  have HNq := Lib.hid ((hb.block _ (Array.getElem?_eq_some_iff.1 HNq.out).1).trans HNq.out)
  clear hb
  have zf0 := cellH HNf.out 0
  have zf1 := cellH HNf.out 1
  have zt0 := cellH HNt.out 0
  have zt1 := cellH HNt.out 1
  have zp0 := cellH HNp.out 0
  have zp1 := cellH HNp.out 1
  have zq0 := cellH HNq.out 0
  have zq1 := cellH HNq.out 1
  simp only [List.getElem?_toArray, List.getElem?_cons_zero, List.getElem?_cons_succ] at zf0 zf1 zt0 zt1 zp0 zp1 zq0 zq1
  go_wp2_with fail
  refine (H4.out _).mono ?_
  rintro e w12 ⟨rfl, hb⟩
  clear zf0 zf1 zt0 zt1 zp0 zp1 zq0 zq1
  have HB := Lib.hid (HB.out.trans (hb.mono HB.out.size))
  have HNf := Lib.hid ((hb.block _ (Array.getElem?_eq_some_iff.1 HNf.out).1).trans HNf.out)
  have HNt := Lib.hid ((hb.block _ (Array.getElem?_eq_some_iff.1 HNt.out).1).trans HNt.out)
  have HNp := Lib.hid ((hb.block _ (Array.getElem?_eq_some_iff.1 HNp.out).1).trans HNp.out)
  have HNq := Lib.hid ((hb.block _ (Array.getElem?_eq_some_iff.1 HNq.out).1).trans HNq.out)
  clear hb
  have hal : Below w12.heap.size w12 (w12.alloc (.cells #[.int .i64 MF, .int .i64 MT] 23)) := (Below.refl _ w12).alloc (Nat.le_refl _) _
  have HSm : Hid (w.heap.size ≤ w12.heap.size) := Lib.hid HB.out.size
  have HNm : Hid ((w12.alloc (.cells #[.int .i64 MF, .int .i64 MT] 23)).heap[w12.heap.size]? = some (.cells #[.int .i64 MF, .int .i64 MT] 23 (0, 0))) := Lib.hid (heap_alloc_new _ _)
  have HB := Lib.hid (HB.out.trans (hal.mono HB.out.size))
  have HNf := Lib.hid ((hal.block _ (Array.getElem?_eq_some_iff.1 HNf.out).1).trans HNf.out)
  have HNt := Lib.hid ((hal.block _ (Array.getElem?_eq_some_iff.1 HNt.out).1).trans HNt.out)
  have HNp := Lib.hid ((hal.block _ (Array.getElem?_eq_some_iff.1 HNp.out).1).trans HNp.out)
  have HNq := Lib.hid ((hal.block _ (Array.getElem?_eq_some_iff.1 HNq.out).1).trans HNq.out)
  obtain ⟨am, ham⟩ : ∃ qq, w12.alloc (.cells #[.int .i64 MF, .int .i64 MT] 23) = qq := ⟨_, rfl⟩
  obtain ⟨bkm, hbm⟩ : ∃ qq, w12.heap.size = qq := ⟨_, rfl⟩
  rw [ham] at HB HNm HNf HNt HNp HNq
  rw [hbm] at HNm HSm
  clear hal
  cases MB
  · have KM := HMN
    cases one
    · skip
      have zf0 := cellH HNf.out 0
      have zf1 := cellH HNf.out 1
      have zt0 := cellH HNt.out 0
      have zt1 := cellH HNt.out 1
      have zp0 := cellH HNp.out 0
      have zp1 := cellH HNp.out 1
      simp only [List.getElem?_toArray, List.getElem?_cons_zero, List.getElem?_cons_succ] at zf0 zf1 zt0 zt1 zp0 zp1
      go_wp2_with fail
      try clear ham hbm
      refine (H6.out _).mono ?_
      rintro e w13 ⟨rfl, hb⟩
      clear zf0 zf1 zt0 zt1 zp0 zp1
      have HB := Lib.hid (HB.out.trans (hb.mono HB.out.size))
      have HNf := Lib.hid ((hb.block _ (Array.getElem?_eq_some_iff.1 HNf.out).1).trans HNf.out)
      have HNt := Lib.hid ((hb.block _ (Array.getElem?_eq_some_iff.1 HNt.out).1).trans HNt.out)
      have HNp := Lib.hid ((hb.block _ (Array.getElem?_eq_some_iff.1 HNp.out).1).trans HNp.out)
      have HNq := Lib.hid ((hb.block _ (Array.getElem?_eq_some_iff.1 HNq.out).1).trans HNq.out)
      have HNm := Lib.hid ((hb.block _ (Array.getElem?_eq_some_iff.1 HNm.out).1).trans HNm.out)
      clear hb
      have hal : Below w13.heap.size w13 (w13.alloc (.cells #[.int .i64 WF, .int .i64 WT] 23)) := (Below.refl _ w13).alloc (Nat.le_refl _) _
      have HSv : Hid (w.heap.size ≤ w13.heap.size) := Lib.hid HB.out.size
      have HNv : Hid ((w13.alloc (.cells #[.int .i64 WF, .int .i64 WT] 23)).heap[w13.heap.size]? = some (.cells #[.int .i64 WF, .int .i64 WT] 23 (0, 0))) := Lib.hid (heap_alloc_new _ _)
      have HB := Lib.hid (HB.out.trans (hal.mono HB.out.size))
      have HNf := Lib.hid ((hal.block _ (Array.getElem?_eq_some_iff.1 HNf.out).1).trans HNf.out)
      have HNt := Lib.hid ((hal.block _ (Array.getElem?_eq_some_iff.1 HNt.out).1).trans HNt.out)
      have HNp := Lib.hid ((hal.block _ (Array.getElem?_eq_some_iff.1 HNp.out).1).trans HNp.out)
      have HNq := Lib.hid ((hal.block _ (Array.getElem?_eq_some_iff.1 HNq.out).1).trans HNq.out)
      have HNm := Lib.hid ((hal.block _ (Array.getElem?_eq_some_iff.1 HNm.out).1).trans HNm.out)
      obtain ⟨av, hav⟩ : ∃ qq, w13.alloc (.cells #[.int .i64 WF, .int .i64 WT] 23) = qq := ⟨_, rfl⟩
      obtain ⟨bkv, hbv⟩ : ∃ qq, w13.heap.size = qq := ⟨_, rfl⟩
      rw [hav] at HB HNv HNf HNt HNp HNq HNm
      rw [hbv] at HNv HSv
      clear hal
      cases WB
      · have KK := HWL
        have zf0 := cellH HNf.out 0
        have zf1 := cellH HNf.out 1
        have zt0 := cellH HNt.out 0
        have zt1 := cellH HNt.out 1
        have zv0 := cellH HNv.out 0
        have zv1 := cellH HNv.out 1
        simp only [List.getElem?_toArray, List.getElem?_cons_zero, List.getElem?_cons_succ] at zf0 zf1 zt0 zt1 zv0 zv1
        go_wp2_with fail
        try clear hav hbv
        refine (H8.out _).mono ?_
        rintro e w14 ⟨rfl, hb⟩
        clear zf0 zf1 zt0 zt1 zv0 zv1
        have HB := Lib.hid (HB.out.trans (hb.mono HB.out.size))
        have HNf := Lib.hid ((hb.block _ (Array.getElem?_eq_some_iff.1 HNf.out).1).trans HNf.out)
        have HNt := Lib.hid ((hb.block _ (Array.getElem?_eq_some_iff.1 HNt.out).1).trans HNt.out)
        have HNp := Lib.hid ((hb.block _ (Array.getElem?_eq_some_iff.1 HNp.out).1).trans HNp.out)
        have HNq := Lib.hid ((hb.block _ (Array.getElem?_eq_some_iff.1 HNq.out).1).trans HNq.out)
        have HNm := Lib.hid ((hb.block _ (Array.getElem?_eq_some_iff.1 HNm.out).1).trans HNm.out)
        have HNv := Lib.hid ((hb.block _ (Array.getElem?_eq_some_iff.1 HNv.out).1).trans HNv.out)
        clear hb
        clear KK
        go_wp2_with fail
        go_ret
        exact ⟨rfl, HB.out⟩
      · have KK := HWL
        have zf0 := cellH HNf.out 0
        have zf1 := cellH HNf.out 1
        have zt0 := cellH HNt.out 0
        have zt1 := cellH HNt.out 1
        have zv0 := cellH HNv.out 0
        have zv1 := cellH HNv.out 1
        simp only [List.getElem?_toArray, List.getElem?_cons_zero, List.getElem?_cons_succ] at zf0 zf1 zt0 zt1 zv0 zv1
        go_wp2_with fail
        try clear hav hbv
        refine (H8.out _).mono ?_
        rintro e w15 ⟨rfl, hb⟩
        clear zf0 zf1 zt0 zt1 zv0 zv1
        have HB := Lib.hid (HB.out.trans (hb.mono HB.out.size))
        have HNf := Lib.hid ((hb.block _ (Array.getElem?_eq_some_iff.1 HNf.out).1).trans HNf.out)
        have HNt := Lib.hid ((hb.block _ (Array.getElem?_eq_some_iff.1 HNt.out).1).trans HNt.out)
        have HNp := Lib.hid ((hb.block _ (Array.getElem?_eq_some_iff.1 HNp.out).1).trans HNp.out)
        have HNq := Lib.hid ((hb.block _ (Array.getElem?_eq_some_iff.1 HNq.out).1).trans HNq.out)
        have HNm := Lib.hid ((hb.block _ (Array.getElem?_eq_some_iff.1 HNm.out).1).trans HNm.out)
        have HNv := Lib.hid ((hb.block _ (Array.getElem?_eq_some_iff.1 HNv.out).1).trans HNv.out)
        clear hb
        clear KK
        go_wp2_with fail
        go_ret
        exact ⟨rfl, HB.out⟩
    · have htw : two = false := by simpa using KM.out (by trivial)
      subst htw
      have zf0 := cellH HNf.out 0
      have zf1 := cellH HNf.out 1
      have zt0 := cellH HNt.out 0
      have zt1 := cellH HNt.out 1
      have zp0 := cellH HNp.out 0
      have zp1 := cellH HNp.out 1
      simp only [List.getElem?_toArray, List.getElem?_cons_zero, List.getElem?_cons_succ] at zf0 zf1 zt0 zt1 zp0 zp1
      go_wp2_with fail
      try clear ham hbm
      refine (H6.out _).mono ?_
      rintro e w16 ⟨rfl, hb⟩
      clear zf0 zf1 zt0 zt1 zp0 zp1
      have HB := Lib.hid (HB.out.trans (hb.mono HB.out.size))
      have HNf := Lib.hid ((hb.block _ (Array.getElem?_eq_some_iff.1 HNf.out).1).trans HNf.out)
      have HNt := Lib.hid ((hb.block _ (Array.getElem?_eq_some_iff.1 HNt.out).1).trans HNt.out)
      have HNp := Lib.hid ((hb.block _ (Array.getElem?_eq_some_iff.1 HNp.out).1).trans HNp.out)
      have HNq := Lib.hid ((hb.block _ (Array.getElem?_eq_some_iff.1 HNq.out).1).trans HNq.out)
      have HNm := Lib.hid ((hb.block _ (Array.getElem?_eq_some_iff.1 HNm.out).1).trans HNm.out)
      clear hb
      have hal : Below w16.heap.size w16 (w16.alloc (.cells #[.int .i64 WF, .int .i64 WT] 23)) := (Below.refl _ w16).alloc (Nat.le_refl _) _
      have HSv : Hid (w.heap.size ≤ w16.heap.size) := Lib.hid HB.out.size
      have HNv : Hid ((w16.alloc (.cells #[.int .i64 WF, .int .i64 WT] 23)).heap[w16.heap.size]? = some (.cells #[.int .i64 WF, .int .i64 WT] 23 (0, 0))) := Lib.hid (heap_alloc_new _ _)
      have HB := Lib.hid (HB.out.trans (hal.mono HB.out.size))
      have HNf := Lib.hid ((hal.block _ (Array.getElem?_eq_some_iff.1 HNf.out).1).trans HNf.out)
      have HNt := Lib.hid ((hal.block _ (Array.getElem?_eq_some_iff.1 HNt.out).1).trans HNt.out)
      have HNp := Lib.hid ((hal.block _ (Array.getElem?_eq_some_iff.1 HNp.out).1).trans HNp.out)
      have HNq := Lib.hid ((hal.block _ (Array.getElem?_eq_some_iff.1 HNq.out).1).trans HNq.out)
      have HNm := Lib.hid ((hal.block _ (Array.getElem?_eq_some_iff.1 HNm.out).1).trans HNm.out)
      obtain ⟨av, hav⟩ : ∃ qq, w16.alloc (.cells #[.int .i64 WF, .int .i64 WT] 23) = qq := ⟨_, rfl⟩
      obtain ⟨bkv, hbv⟩ : ∃ qq, w16.heap.size = qq := ⟨_, rfl⟩
      rw [hav] at HB HNv HNf HNt HNp HNq HNm
      rw [hbv] at HNv HSv
      clear hal
      cases WB
      · have KK := HWL
        have zf0 := cellH HNf.out 0
        have zf1 := cellH HNf.out 1
        have zt0 := cellH HNt.out 0
        have zt1 := cellH HNt.out 1
        have zv0 := cellH HNv.out 0
        have zv1 := cellH HNv.out 1
        simp only [List.getElem?_toArray, List.getElem?_cons_zero, List.getElem?_cons_succ] at zf0 zf1 zt0 zt1 zv0 zv1
        go_wp2_with fail
        try clear hav hbv
        refine (H8.out _).mono ?_
        rintro e w17 ⟨rfl, hb⟩
        clear zf0 zf1 zt0 zt1 zv0 zv1
        have HB := Lib.hid (HB.out.trans (hb.mono HB.out.size))
        have HNf := Lib.hid ((hb.block _ (Array.getElem?_eq_some_iff.1 HNf.out).1).trans HNf.out)
        have HNt := Lib.hid ((hb.block _ (Array.getElem?_eq_some_iff.1 HNt.out).1).trans HNt.out)
        have HNp := Lib.hid ((hb.block _ (Array.getElem?_eq_some_iff.1 HNp.out).1).trans HNp.out)
        have HNq := Lib.hid ((hb.block _ (Array.getElem?_eq_some_iff.1 HNq.out).1).trans HNq.out)
        have HNm := Lib.hid ((hb.block _ (Array.getElem?_eq_some_iff.1 HNm.out).1).trans HNm.out)
        have HNv := Lib.hid ((hb.block _ (Array.getElem?_eq_some_iff.1 HNv.out).1).trans HNv.out)
        clear hb
        clear KK
        go_wp2_with fail
        go_ret
        exact ⟨rfl, HB.out⟩
      · have KK := HWL
        have zf0 := cellH HNf.out 0
        have zf1 := cellH HNf.out 1
        have zt0 := cellH HNt.out 0
        have zt1 := cellH HNt.out 1
        have zv0 := cellH HNv.out 0
        have zv1 := cellH HNv.out 1
        simp only [List.getElem?_toArray, List.getElem?_cons_zero, List.getElem?_cons_succ] at zf0 zf1 zt0 zt1 zv0 zv1
        go_wp2_with fail
        try clear hav hbv
        refine (H8.out _).mono ?_
        rintro e w18 ⟨rfl, hb⟩
        clear zf0 zf1 zt0 zt1 zv0 zv1
        have HB := Lib.hid (HB.out.trans (hb.mono HB.out.size))
        have HNf := Lib.hid ((hb.block _ (Array.getElem?_eq_some_iff.1 HNf.out).1).trans HNf.out)
        have HNt := Lib.hid ((hb.block _ (Array.getElem?_eq_some_iff.1 HNt.out).1).trans HNt.out)
        have HNp := Lib.hid ((hb.block _ (Array.getElem?_eq_some_iff.1 HNp.out).1).trans HNp.out)
        have HNq := Lib.hid ((hb.block _ (Array.getElem?_eq_some_iff.1 HNq.out).1).trans HNq.out)
        have HNm := Lib.hid ((hb.block _ (Array.getElem?_eq_some_iff.1 HNm.out).1).trans HNm.out)
        have HNv := Lib.hid ((hb.block _ (Array.getElem?_eq_some_iff.1 HNv.out).1).trans HNv.out)
        clear hb
        have hbig := KK.out (by trivial) (by trivial)
        subst hbig
        have zf0 := cellH HNf.out 0
        have zf1 := cellH HNf.out 1
        have zt0 := cellH HNt.out 0
        have zt1 := cellH HNt.out 1
        have zv0 := cellH HNv.out 0
        have zv1 := cellH HNv.out 1
        simp only [List.getElem?_toArray, List.getElem?_cons_zero, List.getElem?_cons_succ] at zf0 zf1 zt0 zt1 zv0 zv1
        go_wp2_with fail
        refine (H7.out _).mono ?_
        rintro e w19 ⟨rfl, hb⟩
        clear zf0 zf1 zt0 zt1 zv0 zv1
        have HB := Lib.hid (HB.out.trans (hb.mono HB.out.size))
        have HNf := Lib.hid ((hb.block _ (Array.getElem?_eq_some_iff.1 HNf.out).1).trans HNf.out)
        have HNt := Lib.hid ((hb.block _ (Array.getElem?_eq_some_iff.1 HNt.out).1).trans HNt.out)
        have HNp := Lib.hid ((hb.block _ (Array.getElem?_eq_some_iff.1 HNp.out).1).trans HNp.out)
        have HNq := Lib.hid ((hb.block _ (Array.getElem?_eq_some_iff.1 HNq.out).1).trans HNq.out)
        have HNm := Lib.hid ((hb.block _ (Array.getElem?_eq_some_iff.1 HNm.out).1).trans HNm.out)
        have HNv := Lib.hid ((hb.block _ (Array.getElem?_eq_some_iff.1 HNv.out).1).trans HNv.out)
        clear hb
        clear KK
        go_wp2_with fail
        go_ret
        exact ⟨rfl, HB.out⟩
  · have KM := HMN
    cases one
    · skip
      have hbo : both = false := by simpa using HME.out (by trivial)
      subst hbo
      have zf0 := cellH HNf.out 0
      have zf1 := cellH HNf.out 1
      have zt0 := cellH HNt.out 0
      have zt1 := cellH HNt.out 1
      have zm0 := cellH HNm.out 0
      have zm1 := cellH HNm.out 1
      simp only [List.getElem?_toArray, List.getElem?_cons_zero, List.getElem?_cons_succ] at zf0 zf1 zt0 zt1 zm0 zm1
      go_wp2_with fail
      try clear ham hbm
      refine (H5.out _).mono ?_
      rintro e w20 ⟨rfl, hb⟩
      clear zf0 zf1 zt0 zt1 zm0 zm1
      have HB := Lib.hid (HB.out.trans (hb.mono HB.out.size))
      have HNf := Lib.hid ((hb.block _ (Array.getElem?_eq_some_iff.1 HNf.out).1).trans HNf.out)
      have HNt := Lib.hid ((hb.block _ (Array.getElem?_eq_some_iff.1 HNt.out).1).trans HNt.out)
      have HNp := Lib.hid ((hb.block _ (Array.getElem?_eq_some_iff.1 HNp.out).1).trans HNp.out)
      have HNq := Lib.hid ((hb.block _ (Array.getElem?_eq_some_iff.1 HNq.out).1).trans HNq.out)
      have HNm := Lib.hid ((hb.block _ (Array.getElem?_eq_some_iff.1 HNm.out).1).trans HNm.out)
      clear hb
      have zf0 := cellH HNf.out 0
      have zf1 := cellH HNf.out 1
      have zt0 := cellH HNt.out 0
      have zt1 := cellH HNt.out 1
      have zp0 := cellH HNp.out 0
      have zp1 := cellH HNp.out 1
      simp only [List.getElem?_toArray, List.getElem?_cons_zero, List.getElem?_cons_succ] at zf0 zf1 zt0 zt1 zp0 zp1
      go_wp2_with fail
      refine (H6.out _).mono ?_
      rintro e w21 ⟨rfl, hb⟩
      clear zf0 zf1 zt0 zt1 zp0 zp1
      have HB := Lib.hid (HB.out.trans (hb.mono HB.out.size))
      have HNf := Lib.hid ((hb.block _ (Array.getElem?_eq_some_iff.1 HNf.out).1).trans HNf.out)
      have HNt := Lib.hid ((hb.block _ (Array.getElem?_eq_some_iff.1 HNt.out).1).trans HNt.out)
      have HNp := Lib.hid ((hb.block _ (Array.getElem?_eq_some_iff.1 HNp.out).1).trans HNp.out)
      have HNq := Lib.hid ((hb.block _ (Array.getElem?_eq_some_iff.1 HNq.out).1).trans HNq.out)
      have HNm := Lib.hid ((hb.block _ (Array.getElem?_eq_some_iff.1 HNm.out).1).trans HNm.out)
      clear hb
      have hal : Below w21.heap.size w21 (w21.alloc (.cells #[.int .i64 WF, .int .i64 WT] 23)) := (Below.refl _ w21).alloc (Nat.le_refl _) _
      have HSv : Hid (w.heap.size ≤ w21.heap.size) := Lib.hid HB.out.size
      have HNv : Hid ((w21.alloc (.cells #[.int .i64 WF, .int .i64 WT] 23)).heap[w21.heap.size]? = some (.cells #[.int .i64 WF, .int .i64 WT] 23 (0, 0))) := Lib.hid (heap_alloc_new _ _)
      have HB := Lib.hid (HB.out.trans (hal.mono HB.out.size))
      have HNf := Lib.hid ((hal.block _ (Array.getElem?_eq_some_iff.1 HNf.out).1).trans HNf.out)
      have HNt := Lib.hid ((hal.block _ (Array.getElem?_eq_some_iff.1 HNt.out).1).trans HNt.out)
      have HNp := Lib.hid ((hal.block _ (Array.getElem?_eq_some_iff.1 HNp.out).1).trans HNp.out)
      have HNq := Lib.hid ((hal.block _ (Array.getElem?_eq_some_iff.1 HNq.out).1).trans HNq.out)
      have HNm := Lib.hid ((hal.block _ (Array.getElem?_eq_some_iff.1 HNm.out).1).trans HNm.out)
      obtain ⟨av, hav⟩ : ∃ qq, w21.alloc (.cells #[.int .i64 WF, .int .i64 WT] 23) = qq := ⟨_, rfl⟩
      obtain ⟨bkv, hbv⟩ : ∃ qq, w21.heap.size = qq := ⟨_, rfl⟩
      rw [hav] at HB HNv HNf HNt HNp HNq HNm
      rw [hbv] at HNv HSv
      clear hal
      cases WB
      · have KK := HWL
        have zf0 := cellH HNf.out 0
        have zf1 := cellH HNf.out 1
        have zt0 := cellH HNt.out 0
        have zt1 := cellH HNt.out 1
        have zv0 := cellH HNv.out 0
        have zv1 := cellH HNv.out 1
        simp only [List.getElem?_toArray, List.getElem?_cons_zero, List.getElem?_cons_succ] at zf0 zf1 zt0 zt1 zv0 zv1
        go_wp2_with fail
        try clear hav hbv
        refine (H8.out _).mono ?_
        rintro e w22 ⟨rfl, hb⟩
        clear zf0 zf1 zt0 zt1 zv0 zv1
        have HB := Lib.hid (HB.out.trans (hb.mono HB.out.size))
        have HNf := Lib.hid ((hb.block _ (Array.getElem?_eq_some_iff.1 HNf.out).1).trans HNf.out)
        have HNt := Lib.hid ((hb.block _ (Array.getElem?_eq_some_iff.1 HNt.out).1).trans HNt.out)
        have HNp := Lib.hid ((hb.block _ (Array.getElem?_eq_some_iff.1 HNp.out).1).trans HNp.out)
        have HNq := Lib.hid ((hb.block _ (Array.getElem?_eq_some_iff.1 HNq.out).1).trans HNq.out)
        have HNm := Lib.hid ((hb.block _ (Array.getElem?_eq_some_iff.1 HNm.out).1).trans HNm.out)
        have HNv := Lib.hid ((hb.block _ (Array.getElem?_eq_some_iff.1 HNv.out).1).trans HNv.out)
        clear hb
        clear KK
        go_wp2_with fail
        go_ret
        exact ⟨rfl, HB.out⟩
      · have KK := HWL
        have zf0 := cellH HNf.out 0
        have zf1 := cellH HNf.out 1
        have zt0 := cellH HNt.out 0
        have zt1 := cellH HNt.out 1
        have zv0 := cellH HNv.out 0
        have zv1 := cellH HNv.out 1
        simp only [List.getElem?_toArray, List.getElem?_cons_zero, List.getElem?_cons_succ] at zf0 zf1 zt0 zt1 zv0 zv1
        go_wp2_with fail
        try clear hav hbv
        refine (H8.out _).mono ?_
        rintro e w23 ⟨rfl, hb⟩
        clear zf0 zf1 zt0 zt1 zv0 zv1
        have HB := Lib.hid (HB.out.trans (hb.mono HB.out.size))
        have HNf := Lib.hid ((hb.block _ (Array.getElem?_eq_some_iff.1 HNf.out).1).trans HNf.out)
        have HNt := Lib.hid ((hb.block _ (Array.getElem?_eq_some_iff.1 HNt.out).1).trans HNt.out)
        have HNp := Lib.hid ((hb.block _ (Array.getElem?_eq_some_iff.1 HNp.out).1).trans HNp.out)
        have HNq := Lib.hid ((hb.block _ (Array.getElem?_eq_some_iff.1 HNq.out).1).trans HNq.out)
        have HNm := Lib.hid ((hb.block _ (Array.getElem?_eq_some_iff.1 HNm.out).1).trans HNm.out)
        have HNv := Lib.hid ((hb.block _ (Array.getElem?_eq_some_iff.1 HNv.out).1).trans HNv.out)
        clear hb
        clear KK
        go_wp2_with fail
        go_ret
        exact ⟨rfl, HB.out⟩
    · have hbo : both = two := by simpa using HME.out (by trivial)
      subst hbo
      cases both
      · skip
        have zf0 := cellH HNf.out 0
        have zf1 := cellH HNf.out 1
        have zt0 := cellH HNt.out 0
        have zt1 := cellH HNt.out 1
        have zm0 := cellH HNm.out 0
        have zm1 := cellH HNm.out 1
        simp only [List.getElem?_toArray, List.getElem?_cons_zero, List.getElem?_cons_succ] at zf0 zf1 zt0 zt1 zm0 zm1
        go_wp2_with fail
        try clear ham hbm
        refine (H5.out _).mono ?_
        rintro e w24 ⟨rfl, hb⟩
        clear zf0 zf1 zt0 zt1 zm0 zm1
        have HB := Lib.hid (HB.out.trans (hb.mono HB.out.size))
        have HNf := Lib.hid ((hb.block _ (Array.getElem?_eq_some_iff.1 HNf.out).1).trans HNf.out)
        have HNt := Lib.hid ((hb.block _ (Array.getElem?_eq_some_iff.1 HNt.out).1).trans HNt.out)
        have HNp := Lib.hid ((hb.block _ (Array.getElem?_eq_some_iff.1 HNp.out).1).trans HNp.out)
        have HNq := Lib.hid ((hb.block _ (Array.getElem?_eq_some_iff.1 HNq.out).1).trans HNq.out)
        have HNm := Lib.hid ((hb.block _ (Array.getElem?_eq_some_iff.1 HNm.out).1).trans HNm.out)
        clear hb
        have zf0 := cellH HNf.out 0
        have zf1 := cellH HNf.out 1
        have zt0 := cellH HNt.out 0
        have zt1 := cellH HNt.out 1
        have zp0 := cellH HNp.out 0
        have zp1 := cellH HNp.out 1
        simp only [List.getElem?_toArray, List.getElem?_cons_zero, List.getElem?_cons_succ] at zf0 zf1 zt0 zt1 zp0 zp1
        go_wp2_with fail
        refine (H6.out _).mono ?_
        rintro e w25 ⟨rfl, hb⟩
        clear zf0 zf1 zt0 zt1 zp0 zp1
        have HB := Lib.hid (HB.out.trans (hb.mono HB.out.size))
        have HNf := Lib.hid ((hb.block _ (Array.getElem?_eq_some_iff.1 HNf.out).1).trans HNf.out)
        have HNt := Lib.hid ((hb.block _ (Array.getElem?_eq_some_iff.1 HNt.out).1).trans HNt.out)
        have HNp := Lib.hid ((hb.block _ (Array.getElem?_eq_some_iff.1 HNp.out).1).trans HNp.out)
        have HNq := Lib.hid ((hb.block _ (Array.getElem?_eq_some_iff.1 HNq.out).1).trans HNq.out)
        have HNm := Lib.hid ((hb.block _ (Array.getElem?_eq_some_iff.1 HNm.out).1).trans HNm.out)
        clear hb
        have hal : Below w25.heap.size w25 (w25.alloc (.cells #[.int .i64 WF, .int .i64 WT] 23)) := (Below.refl _ w25).alloc (Nat.le_refl _) _
        have HSv : Hid (w.heap.size ≤ w25.heap.size) := Lib.hid HB.out.size
        have HNv : Hid ((w25.alloc (.cells #[.int .i64 WF, .int .i64 WT] 23)).heap[w25.heap.size]? = some (.cells #[.int .i64 WF, .int .i64 WT] 23 (0, 0))) := Lib.hid (heap_alloc_new _ _)
        have HB := Lib.hid (HB.out.trans (hal.mono HB.out.size))
        have HNf := Lib.hid ((hal.block _ (Array.getElem?_eq_some_iff.1 HNf.out).1).trans HNf.out)
        have HNt := Lib.hid ((hal.block _ (Array.getElem?_eq_some_iff.1 HNt.out).1).trans HNt.out)
        have HNp := Lib.hid ((hal.block _ (Array.getElem?_eq_some_iff.1 HNp.out).1).trans HNp.out)
        have HNq := Lib.hid ((hal.block _ (Array.getElem?_eq_some_iff.1 HNq.out).1).trans HNq.out)
        have HNm := Lib.hid ((hal.block _ (Array.getElem?_eq_some_iff.1 HNm.out).1).trans HNm.out)
        obtain ⟨av, hav⟩ : ∃ qq, w25.alloc (.cells #[.int .i64 WF, .int .i64 WT] 23) = qq := ⟨_, rfl⟩
        obtain ⟨bkv, hbv⟩ : ∃ qq, w25.heap.size = qq := ⟨_, rfl⟩
        rw [hav] at HB HNv HNf HNt HNp HNq HNm
        rw [hbv] at HNv HSv
        clear hal
        cases WB
        · have KK := HWL
          have zf0 := cellH HNf.out 0
          have zf1 := cellH HNf.out 1
          have zt0 := cellH HNt.out 0
          have zt1 := cellH HNt.out 1
          have zv0 := cellH HNv.out 0
          have zv1 := cellH HNv.out 1
          simp only [List.getElem?_toArray, List.getElem?_cons_zero, List.getElem?_cons_succ] at zf0 zf1 zt0 zt1 zv0 zv1
          go_wp2_with fail
          try clear hav hbv
          refine (H8.out _).mono ?_
          rintro e w26 ⟨rfl, hb⟩
          clear zf0 zf1 zt0 zt1 zv0 zv1
          have HB := Lib.hid (HB.out.trans (hb.mono HB.out.size))
          have HNf := Lib.hid ((hb.block _ (Array.getElem?_eq_some_iff.1 HNf.out).1).trans HNf.out)
          have HNt := Lib.hid ((hb.block _ (Array.getElem?_eq_some_iff.1 HNt.out).1).trans HNt.out)
          have HNp := Lib.hid ((hb.block _ (Array.getElem?_eq_some_iff.1 HNp.out).1).trans HNp.out)
          have HNq := Lib.hid ((hb.block _ (Array.getElem?_eq_some_iff.1 HNq.out).1).trans HNq.out)
          have HNm := Lib.hid ((hb.block _ (Array.getElem?_eq_some_iff.1 HNm.out).1).trans HNm.out)
          have HNv := Lib.hid ((hb.block _ (Array.getElem?_eq_some_iff.1 HNv.out).1).trans HNv.out)
          clear hb
          clear KK
          go_wp2_with fail
          go_ret
          exact ⟨rfl, HB.out⟩
        · have KK := HWL
          have zf0 := cellH HNf.out 0
          have zf1 := cellH HNf.out 1
          have zt0 := cellH HNt.out 0
          have zt1 := cellH HNt.out 1
          have zv0 := cellH HNv.out 0
          have zv1 := cellH HNv.out 1
          simp only [List.getElem?_toArray, List.getElem?_cons_zero, List.getElem?_cons_succ] at zf0 zf1 zt0 zt1 zv0 zv1
          go_wp2_with fail
          try clear hav hbv
          refine (H8.out _).mono ?_
          rintro e w27 ⟨rfl, hb⟩
          clear zf0 zf1 zt0 zt1 zv0 zv1
          have HB := Lib.hid (HB.out.trans (hb.mono HB.out.size))
          have HNf := Lib.hid ((hb.block _ (Array.getElem?_eq_some_iff.1 HNf.out).1).trans HNf.out)
          have HNt := Lib.hid ((hb.block _ (Array.getElem?_eq_some_iff.1 HNt.out).1).trans HNt.out)
          have HNp := Lib.hid ((hb.block _ (Array.getElem?_eq_some_iff.1 HNp.out).1).trans HNp.out)
          have HNq := Lib.hid ((hb.block _ (Array.getElem?_eq_some_iff.1 HNq.out).1).trans HNq.out)
          have HNm := Lib.hid ((hb.block _ (Array.getElem?_eq_some_iff.1 HNm.out).1).trans HNm.out)
          have HNv := Lib.hid ((hb.block _ (Array.getElem?_eq_some_iff.1 HNv.out).1).trans HNv.out)
          clear hb
          have hbig := KK.out (by trivial) (by trivial)
          subst hbig
          have zf0 := cellH HNf.out 0
          have zf1 := cellH HNf.out 1
          have zt0 := cellH HNt.out 0
          have zt1 := cellH HNt.out 1
          have zv0 := cellH HNv.out 0
          have zv1 := cellH HNv.out 1
          simp only [List.getElem?_toArray, List.getElem?_cons_zero, List.getElem?_cons_succ] at zf0 zf1 zt0 zt1 zv0 zv1
          go_wp2_with fail
          refine (H7.out _).mono ?_
          rintro e w28 ⟨rfl, hb⟩
          clear zf0 zf1 zt0 zt1 zv0 zv1
          have HB := Lib.hid (HB.out.trans (hb.mono HB.out.size))
          have HNf := Lib.hid ((hb.block _ (Array.getElem?_eq_some_iff.1 HNf.out).1).trans HNf.out)
          have HNt := Lib.hid ((hb.block _ (Array.getElem?_eq_some_iff.1 HNt.out).1).trans HNt.out)
          have HNp := Lib.hid ((hb.block _ (Array.getElem?_eq_some_iff.1 HNp.out).1).trans HNp.out)
          have HNq := Lib.hid ((hb.block _ (Array.getElem?_eq_some_iff.1 HNq.out).1).trans HNq.out)
          have HNm := Lib.hid ((hb.block _ (Array.getElem?_eq_some_iff.1 HNm.out).1).trans HNm.out)
          have HNv := Lib.hid ((hb.block _ (Array.getElem?_eq_some_iff.1 HNv.out).1).trans HNv.out)
          clear hb
          clear KK
          go_wp2_with fail
          go_ret
          exact ⟨rfl, HB.out⟩
      · skip
        have zf0 := cellH HNf.out 0
        have zf1 := cellH HNf.out 1
        have zt0 := cellH HNt.out 0
        have zt1 := cellH HNt.out 1
        have zm0 := cellH HNm.out 0
        have zm1 := cellH HNm.out 1
        simp only [List.getElem?_toArray, List.getElem?_cons_zero, List.getElem?_cons_succ] at zf0 zf1 zt0 zt1 zm0 zm1
        go_wp2_with fail
        try clear ham hbm
        refine (H5.out _).mono ?_
        rintro e w29 ⟨rfl, hb⟩
        clear zf0 zf1 zt0 zt1 zm0 zm1
        have HB := Lib.hid (HB.out.trans (hb.mono HB.out.size))
        have HNf := Lib.hid ((hb.block _ (Array.getElem?_eq_some_iff.1 HNf.out).1).trans HNf.out)
        have HNt := Lib.hid ((hb.block _ (Array.getElem?_eq_some_iff.1 HNt.out).1).trans HNt.out)
        have HNp := Lib.hid ((hb.block _ (Array.getElem?_eq_some_iff.1 HNp.out).1).trans HNp.out)
        have HNq := Lib.hid ((hb.block _ (Array.getElem?_eq_some_iff.1 HNq.out).1).trans HNq.out)
        have HNm := Lib.hid ((hb.block _ (Array.getElem?_eq_some_iff.1 HNm.out).1).trans HNm.out)
        clear hb
        have zf0 := cellH HNf.out 0
        have zf1 := cellH HNf.out 1
        have zt0 := cellH HNt.out 0
        have zt1 := cellH HNt.out 1
        have zp0 := cellH HNp.out 0
        have zp1 := cellH HNp.out 1
        simp only [List.getElem?_toArray, List.getElem?_cons_zero, List.getElem?_cons_succ] at zf0 zf1 zt0 zt1 zp0 zp1
        go_wp2_with fail
        refine (H6.out _).mono ?_
        rintro e w30 ⟨rfl, hb⟩
        clear zf0 zf1 zt0 zt1 zp0 zp1
        have HB := Lib.hid (HB.out.trans (hb.mono HB.out.size))
        have HNf := Lib.hid ((hb.block _ (Array.getElem?_eq_some_iff.1 HNf.out).1).trans HNf.out)
        have HNt := Lib.hid ((hb.block _ (Array.getElem?_eq_some_iff.1 HNt.out).1).trans HNt.out)
        have HNp := Lib.hid ((hb.block _ (Array.getElem?_eq_some_iff.1 HNp.out).1).trans HNp.out)
        have HNq := Lib.hid ((hb.block _ (Array.getElem?_eq_some_iff.1 HNq.out).1).trans HNq.out)
        have HNm := Lib.hid ((hb.block _ (Array.getElem?_eq_some_iff.1 HNm.out).1).trans HNm.out)
        clear hb
        have hal : Below w30.heap.size w30 (w30.alloc (.cells #[.int .i64 WF, .int .i64 WT] 23)) := (Below.refl _ w30).alloc (Nat.le_refl _) _
        have HSv : Hid (w.heap.size ≤ w30.heap.size) := Lib.hid HB.out.size
        have HNv : Hid ((w30.alloc (.cells #[.int .i64 WF, .int .i64 WT] 23)).heap[w30.heap.size]? = some (.cells #[.int .i64 WF, .int .i64 WT] 23 (0, 0))) := Lib.hid (heap_alloc_new _ _)
        have HB := Lib.hid (HB.out.trans (hal.mono HB.out.size))
        have HNf := Lib.hid ((hal.block _ (Array.getElem?_eq_some_iff.1 HNf.out).1).trans HNf.out)
        have HNt := Lib.hid ((hal.block _ (Array.getElem?_eq_some_iff.1 HNt.out).1).trans HNt.out)
        have HNp := Lib.hid ((hal.block _ (Array.getElem?_eq_some_iff.1 HNp.out).1).trans HNp.out)
        have HNq := Lib.hid ((hal.block _ (Array.getElem?_eq_some_iff.1 HNq.out).1).trans HNq.out)
        have HNm := Lib.hid ((hal.block _ (Array.getElem?_eq_some_iff.1 HNm.out).1).trans HNm.out)
        obtain ⟨av, hav⟩ : ∃ qq, w30.alloc (.cells #[.int .i64 WF, .int .i64 WT] 23) = qq := ⟨_, rfl⟩
        obtain ⟨bkv, hbv⟩ : ∃ qq, w30.heap.size = qq := ⟨_, rfl⟩
        rw [hav] at HB HNv HNf HNt HNp HNq HNm
        rw [hbv] at HNv HSv
        clear hal
        cases WB
        · have KK := HWL
          have zf0 := cellH HNf.out 0
          have zf1 := cellH HNf.out 1
          have zt0 := cellH HNt.out 0
          have zt1 := cellH HNt.out 1
          have zv0 := cellH HNv.out 0
          have zv1 := cellH HNv.out 1
          simp only [List.getElem?_toArray, List.getElem?_cons_zero, List.getElem?_cons_succ] at zf0 zf1 zt0 zt1 zv0 zv1
          go_wp2_with fail
          try clear hav hbv
          refine (H8.out _).mono ?_
          rintro e w31 ⟨rfl, hb⟩
          clear zf0 zf1 zt0 zt1 zv0 zv1
          have HB := Lib.hid (HB.out.trans (hb.mono HB.out.size))
          have HNf := Lib.hid ((hb.block _ (Array.getElem?_eq_some_iff.1 HNf.out).1).trans HNf.out)
          have HNt := Lib.hid ((hb.block _ (Array.getElem?_eq_some_iff.1 HNt.out).1).trans HNt.out)
          have HNp := Lib.hid ((hb.block _ (Array.getElem?_eq_some_iff.1 HNp.out).1).trans HNp.out)
          have HNq := Lib.hid ((hb.block _ (Array.getElem?_eq_some_iff.1 HNq.out).1).trans HNq.out)
          have HNm := Lib.hid ((hb.block _ (Array.getElem?_eq_some_iff.1 HNm.out).1).trans HNm.out)
          have HNv := Lib.hid ((hb.block _ (Array.getElem?_eq_some_iff.1 HNv.out).1).trans HNv.out)
          clear hb
          clear KK
          go_wp2_with fail
          go_ret
          exact ⟨rfl, HB.out⟩
        · have KK := HWL
          have zf0 := cellH HNf.out 0
          have zf1 := cellH HNf.out 1
          have zt0 := cellH HNt.out 0
          have zt1 := cellH HNt.out 1
          have zv0 := cellH HNv.out 0
          have zv1 := cellH HNv.out 1
          simp only [List.getElem?_toArray, List.getElem?_cons_zero, List.getElem?_cons_succ] at zf0 zf1 zt0 zt1 zv0 zv1
          go_wp2_with fail
          try clear hav hbv
          refine (H8.out _).mono ?_
          rintro e w32 ⟨rfl, hb⟩
          clear zf0 zf1 zt0 zt1 zv0 zv1
          have HB := Lib.hid (HB.out.trans (hb.mono HB.out.size))
          have HNf := Lib.hid ((hb.block _ (Array.getElem?_eq_some_iff.1 HNf.out).1).trans HNf.out)
          have HNt := Lib.hid ((hb.block _ (Array.getElem?_eq_some_iff.1 HNt.out).1).trans HNt.out)
          have HNp := Lib.hid ((hb.block _ (Array.getElem?_eq_some_iff.1 HNp.out).1).trans HNp.out)
          have HNq := Lib.hid ((hb.block _ (Array.getElem?_eq_some_iff.1 HNq.out).1).trans HNq.out)
          have HNm := Lib.hid ((hb.block _ (Array.getElem?_eq_some_iff.1 HNm.out).1).trans HNm.out)
          have HNv := Lib.hid ((hb.block _ (Array.getElem?_eq_some_iff.1 HNv.out).1).trans HNv.out)
          clear hb
          have hbig := KK.out (by trivial) (by trivial)
          subst hbig
          have zf0 := cellH HNf.out 0
          have zf1 := cellH HNf.out 1
          have zt0 := cellH HNt.out 0
          have zt1 := cellH HNt.out 1
          have zv0 := cellH HNv.out 0
          have zv1 := cellH HNv.out 1
          simp only [List.getElem?_toArray, List.getElem?_cons_zero, List.getElem?_cons_succ] at zf0 zf1 zt0 zt1 zv0 zv1
          go_wp2_with fail
          refine (H7.out _).mono ?_
          rintro e w33 ⟨rfl, hb⟩
          clear zf0 zf1 zt0 zt1 zv0 zv1
          have HB := Lib.hid (HB.out.trans (hb.mono HB.out.size))
          have HNf := Lib.hid ((hb.block _ (Array.getElem?_eq_some_iff.1 HNf.out).1).trans HNf.out)
          have HNt := Lib.hid ((hb.block _ (Array.getElem?_eq_some_iff.1 HNt.out).1).trans HNt.out)
          have HNp := Lib.hid ((hb.block _ (Array.getElem?_eq_some_iff.1 HNp.out).1).trans HNp.out)
          have HNq := Lib.hid ((hb.block _ (Array.getElem?_eq_some_iff.1 HNq.out).1).trans HNq.out)
          have HNm := Lib.hid ((hb.block _ (Array.getElem?_eq_some_iff.1 HNm.out).1).trans HNm.out)
          have HNv := Lib.hid ((hb.block _ (Array.getElem?_eq_some_iff.1 HNv.out).1).trans HNv.out)
          clear hb
          clear KK
          go_wp2_with fail
          go_ret
          exact ⟨rfl, HB.out⟩
end Go.Proofs.Ytpaihnjgpookjaa
