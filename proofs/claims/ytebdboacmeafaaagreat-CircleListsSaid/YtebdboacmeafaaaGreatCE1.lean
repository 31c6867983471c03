/- Package firetowerref05: Meet, and what two wedges have in common. -/
import Derived.Test.YtebdboacmeafaaaGreatCDB
import Derived.Test.YtebdboacmeafaaaGreatCAB
set_option linter.unusedVariables false
set_option linter.unusedSimpArgs false
namespace Go.Proofs.YtebdboacmeafaaaGreat
open Go Go.RowKit

/-- Where the directions that two wedges have in common begin and end, as steps from the beginning of the first one. -/
def mLo (af at' bf : Int) : Int := if (bf - af) % 3600 ≤ opI af at' then (bf - af) % 3600 else 0
def mHi (af at' bf bt : Int) : Int := if (bf - af) % 3600 ≤ opI af at' then (bf - af) % 3600 + opI bf bt else opI bf bt - (af - bf) % 3600
theorem mt_in {af at' bf bt k : Int} (ha : vwB af at' = true) (hb : vwB bf bt = true) (hk : 0 ≤ k ∧ k ≤ opI af at') : hsB bf bt ((af + k) % 3600) 1 = decide (mLo af at' bf ≤ k ∧ k ≤ mHi af at' bf bt) := by
  obtain ⟨a1, a2, a3, a4, a5⟩ := vw_ok ha
  obtain ⟨b1, b2, b3, b4, b5⟩ := vw_ok hb
  unfold hsB psI mLo mHi
  clear a3 b3
  generalize opI af at' = oa at *
  generalize opI bf bt = ob at *
  simp only [Int.mul_one]
  rw [decide_eq_decide]
  (repeat' split) <;> omega
theorem mLo_bd {af at' bf : Int} (ha : vwB af at' = true) : 0 ≤ mLo af at' bf ∧ mLo af at' bf ≤ opI af at' := by
  obtain ⟨a1, a2, a3, a4, a5⟩ := vw_ok ha
  unfold mLo
  split <;> omega
/-- The first and the last common direction among the first steps. -/
def mtF (af at' bf bt k : Int) : Int := if mLo af at' bf < k ∧ mLo af at' bf ≤ mHi af at' bf bt then (af + mLo af at' bf) % 3600 else -1
def mtT (af at' bf bt k : Int) : Int := if mLo af at' bf < k ∧ mLo af at' bf ≤ mHi af at' bf bt then (af + min (k - 1) (mHi af at' bf bt)) % 3600 else -1
theorem mt_zero {af at' bf bt : Int} (ha : vwB af at' = true) : mtF af at' bf bt 0 = -1 ∧ mtT af at' bf bt 0 = -1 := by
  obtain ⟨h1, _⟩ := mLo_bd (bf := bf) ha
  unfold mtF mtT
  rw [if_neg (by omega), if_neg (by omega)]
  exact ⟨rfl, rfl⟩
theorem mt_step {af at' bf bt k : Int} (ha : vwB af at' = true) (hb : vwB bf bt = true) (hk : 0 ≤ k ∧ k ≤ opI af at') :
    (hsB bf bt ((af + k) % 3600) 1 = true → mtF af at' bf bt (k + 1) = (if mtF af at' bf bt k < 0 then (af + k) % 3600 else mtF af at' bf bt k) ∧ mtT af at' bf bt (k + 1) = (af + k) % 3600) ∧
    (hsB bf bt ((af + k) % 3600) 1 = false → mtF af at' bf bt (k + 1) = mtF af at' bf bt k ∧ mtT af at' bf bt (k + 1) = mtT af at' bf bt k) := by
  rw [mt_in ha hb hk]
  obtain ⟨h1, h2⟩ := mLo_bd (bf := bf) ha
  unfold mtF mtT
  generalize mLo af at' bf = lo at *
  generalize mHi af at' bf bt = hi at *
  refine ⟨fun h => ?_, fun h => ?_⟩
  · have h := of_decide_eq_true h
    have p1 : lo < k + 1 ∧ lo ≤ hi := by omega
    rw [if_pos p1, if_pos p1, show min (k + 1 - 1) hi = k by omega]
    refine ⟨?_, rfl⟩
    by_cases hl : lo < k
    · have p2 : lo < k ∧ lo ≤ hi := by omega
      rw [if_pos p2, if_neg (by omega)]
    · have p2 : ¬ (lo < k ∧ lo ≤ hi) := by omega
      rw [if_neg p2, if_pos (by decide), show k = lo by omega]
  · have h := of_decide_eq_false h
    by_cases hl : lo < k ∧ lo ≤ hi
    · have p1 : lo < k + 1 ∧ lo ≤ hi := by omega
      rw [if_pos p1, if_pos p1, if_pos hl, if_pos hl, show min (k + 1 - 1) hi = min (k - 1) hi by omega]
      exact ⟨rfl, rfl⟩
    · have p1 : ¬ (lo < k + 1 ∧ lo ≤ hi) := by omega
      rw [if_neg p1, if_neg p1, if_neg hl, if_neg hl]
      exact ⟨rfl, rfl⟩
/-- What two wedges have in common, by its parts. -/
def mtB (af at' bf bt : Int) : Bool := vwB af at' && vwB bf bt && decide (mLo af at' bf ≤ mHi af at' bf bt)
def mtFr (af at' bf bt : Int) : Int := if mtB af at' bf bt = true then (af + mLo af at' bf) % 3600 else 0
def mtTo (af at' bf bt : Int) : Int := if mtB af at' bf bt = true then (af + min (opI af at') (mHi af at' bf bt)) % 3600 else 0
theorem mt_last {af at' bf bt : Int} (ha : vwB af at' = true) (hb : vwB bf bt = true) :
    (mtF af at' bf bt (opI af at' + 1) < 0 ↔ mtB af at' bf bt = false) ∧ (mtB af at' bf bt = true → mtF af at' bf bt (opI af at' + 1) = mtFr af at' bf bt ∧ mtT af at' bf bt (opI af at' + 1) = mtTo af at' bf bt) := by
  obtain ⟨h1, h2⟩ := mLo_bd (bf := bf) ha
  unfold mtF mtT mtFr mtTo mtB
  rw [ha, hb]
  simp only [Bool.true_and]
  generalize mLo af at' bf = lo at *
  generalize mHi af at' bf bt = hi at *
  generalize opI af at' = oa at *
  by_cases h : lo ≤ hi
  · have p1 : lo < oa + 1 ∧ lo ≤ hi := by omega
    rw [decide_eq_true h, if_pos p1, if_pos p1, if_pos rfl, if_pos rfl, show oa + 1 - 1 = oa by omega]
    exact ⟨⟨fun h => by omega, fun h => by cases h⟩, fun _ => ⟨rfl, rfl⟩⟩
  · have p1 : ¬ (lo < oa + 1 ∧ lo ≤ hi) := by omega
    rw [decide_eq_false h, if_neg p1]
    exact ⟨⟨fun _ => rfl, fun _ => by decide⟩, fun h => by cases h⟩
theorem mtV_eq (af at' bf bt : Int) : mtV af at' bf bt = .tuple #[.agg #[.int .i64 (mtFr af at' bf bt), .int .i64 (mtTo af at' bf bt)], .bool (mtB af at' bf bt)] := by
  have hN : mtB af at' bf bt = false → (.tuple #[.agg #[.int .i64 (mtFr af at' bf bt), .int .i64 (mtTo af at' bf bt)], .bool (mtB af at' bf bt)] : Value) = mtN := fun h => by
    unfold mtFr mtTo
    rw [h]; rfl
  by_cases ha : vwB af at' = true
  · by_cases hb : vwB bf bt = true
    · rw [mtV, if_pos ha, if_pos hb]
      obtain ⟨a1, a2, a3, a4, a5⟩ := vw_ok ha
      obtain ⟨b1, b2, b3, b4, b5⟩ := vw_ok hb
      by_cases hm : opI af at' < (bf - af) % 3600
      · have hlo : mLo af at' bf = 0 := by unfold mLo; rw [if_neg (by omega)]
        have hhi : mHi af at' bf bt = opI bf bt - (af - bf) % 3600 := by unfold mHi; rw [if_neg (by omega)]
        rw [if_pos hm]
        unfold mtK mtL
        by_cases hl : opI bf bt - (af - bf) % 3600 < 0
        · rw [if_pos hl, hN (by unfold mtB; rw [ha, hb, hlo, hhi, decide_eq_false (by omega)]; rfl)]
        · have hB : mtB af at' bf bt = true := by unfold mtB; rw [ha, hb, hlo, hhi, decide_eq_true (by omega)]; rfl
          unfold mtFr mtTo
          rw [hB, if_neg hl, if_pos rfl, if_pos rfl, hlo, hhi, show (af + 0) % 3600 = af by omega, Int.min_comm]
      · have hlo : mLo af at' bf = (bf - af) % 3600 := by unfold mLo; rw [if_pos (by omega)]
        have hhi : mHi af at' bf bt = (bf - af) % 3600 + opI bf bt := by unfold mHi; rw [if_pos (by omega)]
        have hB : mtB af at' bf bt = true := by unfold mtB; rw [ha, hb, hlo, hhi, decide_eq_true (by omega)]; rfl
        rw [if_neg hm]
        unfold mtK mtL mtFr mtTo
        rw [hB, if_neg (by omega), if_pos rfl, if_pos rfl, hlo, hhi, show (af + (bf - af) % 3600) % 3600 = bf by omega, show (bf + min (opI af at' - (bf - af) % 3600) (opI bf bt)) % 3600 = (af + min (opI af at') ((bf - af) % 3600 + opI bf bt)) % 3600 by omega]
    · rw [mtV, if_pos ha, if_neg hb, hN (by unfold mtB; rw [ha, Bool.eq_false_iff.2 hb]; rfl)]
  · rw [mtV, if_neg ha, hN (by unfold mtB; rw [Bool.eq_false_iff.2 ha]; rfl)]
theorem mt_none {af at' bf bt : Int} (h : mtB af at' bf bt = false) : mtFr af at' bf bt = 0 ∧ mtTo af at' bf bt = 0 := by
  unfold mtFr mtTo
  rw [h]
  exact ⟨rfl, rfl⟩
theorem mt_all {af at' bf bt : Int} (ha : vwB af at' = true) (hb : vwB bf bt = true) : ∃ (F T : Int → Int) (I : Int → Bool), F 0 = -1 ∧ T 0 = -1 ∧ (∀ k, 0 ≤ k ∧ k ≤ opI af at' → I k = hsB bf bt ((af + k) % 3600) 1 ∧ (I k = true → F (k + 1) = (if F k < 0 then (af + k) % 3600 else F k) ∧ T (k + 1) = (af + k) % 3600) ∧ (I k = false → F (k + 1) = F k ∧ T (k + 1) = T k)) ∧
    (F (opI af at' + 1) < 0 ↔ mtB af at' bf bt = false) ∧ (mtB af at' bf bt = true → F (opI af at' + 1) = mtFr af at' bf bt ∧ T (opI af at' + 1) = mtTo af at' bf bt) :=
  ⟨fun k => mtF af at' bf bt k, fun k => mtT af at' bf bt k, fun k => hsB bf bt ((af + k) % 3600) 1, (mt_zero ha).1, (mt_zero ha).2, fun k hk => ⟨rfl, (mt_step ha hb hk).1, (mt_step ha hb hk).2⟩, (mt_last ha hb).1, (mt_last ha hb).2⟩
end Go.Proofs.YtebdboacmeafaaaGreat
