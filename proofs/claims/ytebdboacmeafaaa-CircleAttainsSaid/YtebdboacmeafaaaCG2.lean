/- Package firetowerref05: Wedge. -/
import Derived.Test.YtebdboacmeafaaaCG1
import Derived.Test.YtebdboacmeafaaaCDA
import Derived.Test.YtebdboacmeafaaaCF9
set_option linter.unusedVariables false
set_option linter.unusedSimpArgs false
namespace Go.Proofs.Ytebdboacmeafaaa
open Go Go.RowKit

/-- The reference's bounds and refusal are those of the dial. -/
theorem zy_eq (cs : List Ci) (ks : List Ck) (id t : Int) : zrE cs ks id t = yrE cs ks id t ∧ (yrE cs ks id t = 0 → zrL cs ks id t = yrL cs ks id t ∧ zrH cs ks id t = yrH cs ks id t) := by
  have hz := zr_eq (cs := cs) (ks := ks) id t
  unfold zrV at hz
  have hE : zrE cs ks id t = yrE cs ks id t := by
    by_cases h : zrE cs ks id t = 0
    · rw [if_pos h] at hz; injection hz with h1; injection h1 with h1; injection h1 with _ h1; injection h1 with h1; injection h1 with _ h1; omega
    · rw [if_neg h] at hz; injection hz with h1; injection h1 with h1; injection h1 with _ h1; injection h1 with h1; injection h1 with _ h1
  refine ⟨hE, fun h => ?_⟩
  have h2 : zrE cs ks id t = 0 := by rw [hE, h]
  rw [if_pos h2] at hz
  constructor
  · injection hz with h1; injection h1 with h1; injection h1 with h1; injection h1 with h1; injection h1 with h1; injection h1 with h1; injection h1
  · injection hz with h1; injection h1 with h1; injection h1 with h1; injection h1 with h1; injection h1 with h1; injection h1 with _ h1; injection h1 with h1; injection h1
def rwE (cs : List Ci) (ks : List Ck) (rc rt rs rl : Int) : Int := if asE cs ks rc rt rs rl = 0 then (if 900 < 2 * rl + asH cs ks rc rt rs rl - asL cs ks rc rt rs rl then 50 else 0) else asE cs ks rc rt rs rl
def rwF (cs : List Ci) (ks : List Ck) (rc rt rs rl : Int) : Int := if rwE cs ks rc rt rs rl = 0 then (rs - rl - asH cs ks rc rt rs rl) % 3600 else 0
def rwT (cs : List Ci) (ks : List Ck) (rc rt rs rl : Int) : Int := if rwE cs ks rc rt rs rl = 0 then (rs + rl - asL cs ks rc rt rs rl) % 3600 else 0
theorem as_of {cs : List Ci} {ks : List Ck} {rc rt rs rl : Int} (h : asE cs ks rc rt rs rl = 0) : asL cs ks rc rt rs rl = zrL cs ks rc rt ∧ asH cs ks rc rt rs rl = zrH cs ks rc rt ∧ ((0 ≤ rs ∧ rs ≤ 3599) ∧ (1 ≤ rl ∧ rl ≤ 100)) ∧ (-300 ≤ asL cs ks rc rt rs rl ∧ asL cs ks rc rt rs rl ≤ 300) ∧ -300 ≤ asH cs ks rc rt rs rl ∧ asH cs ks rc rt rs rl ≤ 300 := by
  unfold asE at h
  split at h
  · rename_i h1
    split at h
    · rename_i h2
      obtain ⟨e1, e2⟩ := zy_eq cs ks rc rt
      obtain ⟨e3, e4⟩ := e2 h
      have hl : asL cs ks rc rt rs rl = yrL cs ks rc rt := by unfold asL; rw [if_pos h1, if_pos h2]
      have hh : asH cs ks rc rt rs rl = yrH cs ks rc rt := by unfold asH; rw [if_pos h1, if_pos h2]
      obtain ⟨z, hz, ho, hr1, hr2⟩ := yr_ok h
      have hzo := Ci.ok_iff.1 (ciF_ok ho hz)
      have hb := sp_bd (dr := z.dr) (l := dlL z ks) (t := rt) (by omega) (by omega) (dlL_ok ho hz)
      obtain ⟨g1, g2⟩ := zr_of (ks := ks) (t := rt) hz
      unfold asB at h2
      rw [Bool.and_eq_true, ci_iff, ci_iff] at h2
      rw [hl, hh, ← e3, ← e4, g1, g2]
      exact ⟨rfl, rfl, h2, hb⟩
    · exact absurd h (by decide)
  · rename_i h1; exact absurd h h1
theorem as_df (cs : List Ci) (ks : List Ck) (rc rt rs rl : Int) : asE cs ks rc rt rs rl = dfE cs ks rc rt rs rl := by
  have e1 := (zy_eq cs ks rc rt).1
  unfold asE dfE asB
  unfold zrE at e1
  by_cases h : ccE cs ks = 0
  · rw [if_pos h] at e1
    rw [if_pos h, if_pos h, e1]
  · rw [if_neg h, if_neg h]
/-- The wedge of a reading is the reference's. -/
theorem wg_eq (cs : List Ci) (ks : List Ck) (rc rt rs rl : Int) : wgV cs ks rc rt rs rl = .tuple #[.agg #[.int .i64 (rwF cs ks rc rt rs rl), .int .i64 (rwT cs ks rc rt rs rl)], .int .i64 (rwE cs ks rc rt rs rl)] := by
  have hE : zfE cs ks rc rt rs rl = rwE cs ks rc rt rs rl := by
    unfold zfE rwE
    rw [← as_df]
    by_cases h : asE cs ks rc rt rs rl = 0
    · obtain ⟨e1, e2, _⟩ := as_of h
      rw [if_pos h, if_pos h, e1, e2]
    · rw [if_neg h, if_neg h]
  unfold wgV rwF rwT
  rw [hE]
  by_cases h : rwE cs ks rc rt rs rl = 0
  · have h2 : asE cs ks rc rt rs rl = 0 := by
      unfold rwE at h
      split at h
      · assumption
      · exact h
    obtain ⟨e1, e2, _⟩ := as_of h2
    rw [if_pos h, if_pos h, if_pos h, h, e1, e2]
  · rw [if_neg h, if_neg h, if_neg h]
end Go.Proofs.Ytebdboacmeafaaa
