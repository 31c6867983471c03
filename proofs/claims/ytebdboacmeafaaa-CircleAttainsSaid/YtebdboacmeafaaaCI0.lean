/- The place of a circle as the laws find it, and the zeros and turns that explain a reading, counted (for CircleSharp and CircleTrue). -/
import Derived.Test.YtebdboacmeafaaaCH1
set_option linter.unusedVariables false
set_option linter.unusedSimpArgs false
namespace Go.Proofs.Ytebdboacmeafaaa
open Go Go.RowKit

/-- The place of the last one of the first circles that has an ID. -/
def frP (cs : List Ci) (id : Int) : Nat → Int × Int
  | 0 => (-1, 0)
  | k + 1 => if ((cs.getD k .nil).id == id) = true then ((cs.getD k .nil).x, (cs.getD k .nil).y) else frP cs id k
theorem cs_ids {cs : List Ci} {ks : List Ck} (ho : CcOk cs ks) {j k : Nat} (hj : j < k) (hk : k < cs.length) : ((cs.getD k .nil).id == (cs.getD j .nil).id) = false := by
  have h := (ho.ci k hk).2
  unfold ciF at h
  rw [List.find?_eq_none] at h
  have hm : cs.getD j .nil ∈ cs.take k := by
    rw [List.getD_eq_getElem?_getD, List.getElem?_eq_getElem (by omega)]
    exact List.mem_take_iff_getElem.2 ⟨j, by omega, rfl⟩
  have h2 := h _ hm
  have h3 : ¬ (cs.getD j .nil).id = (cs.getD k .nil).id := by simpa using h2
  exact beq_eq_false_iff_ne.2 (fun e => h3 e.symm)
theorem frP_eq {cs : List Ci} {ks : List Ck} (ho : CcOk cs ks) {id : Int} {z : Ci} (hz : ciF cs id = some z) : frP cs id cs.length = (z.x, z.y) := by
  obtain ⟨j, hj, hjz, hzi⟩ := ciF_mem hz
  have key : ∀ k, k ≤ cs.length → j < k → frP cs id k = (z.x, z.y) := by
    intro k
    induction k with
    | zero => intro _ h; omega
    | succ k ih =>
      intro hk hjk
      show (if ((cs.getD k .nil).id == id) = true then ((cs.getD k .nil).x, (cs.getD k .nil).y) else frP cs id k) = _
      rcases Nat.lt_or_ge j k with h | h
      · have h2 := cs_ids ho h (by omega : k < cs.length)
        rw [hjz, hzi] at h2
        rw [if_neg (by rw [h2]; simp), ih (by omega) h]
      · obtain rfl : k = j := by omega
        rw [hjz, hzi, if_pos (by simp)]
  exact key _ (Nat.le_refl _) hj

/-- A zero explains a reading with some turns. -/
def shK (up dn rs rl n k : Int) : Bool := decide (up + n - rl ≤ rs + k * 3600) && decide (rs + k * 3600 ≤ dn + n + rl)
def so1 (up dn rs rl n : Int) : Nat → Bool
  | 0 => false
  | j + 1 => so1 up dn rs rl n j || shK up dn rs rl n ((j : Int) - 1)
def so2 (B : Bool) (up dn rs rl L : Int) : Nat → Bool
  | 0 => false
  | j + 1 => so2 B up dn rs rl L j || (B && so1 up dn rs rl (L + j) 3)
theorem so1_iff {up dn rs rl n : Int} : ∀ {j : Nat}, so1 up dn rs rl n j = true ↔ ∃ k : Int, (-1 ≤ k ∧ k < (j : Int) - 1) ∧ shK up dn rs rl n k = true
  | 0 => by
    constructor
    · intro h; cases h
    · rintro ⟨k, h, _⟩; omega
  | j + 1 => by
    show (so1 up dn rs rl n j || shK up dn rs rl n ((j : Int) - 1)) = true ↔ _
    rw [Bool.or_eq_true, so1_iff]
    constructor
    · rintro (⟨k, h1, h2⟩ | h)
      · exact ⟨k, by omega, h2⟩
      · exact ⟨(j : Int) - 1, by omega, h⟩
    · rintro ⟨k, h1, h2⟩
      by_cases hk : k = (j : Int) - 1
      · exact .inr (hk ▸ h2)
      · exact .inl ⟨k, by omega, h2⟩
theorem so2_iff {B : Bool} {up dn rs rl L : Int} : ∀ {j : Nat}, so2 B up dn rs rl L j = true ↔ B = true ∧ ∃ n : Int, (L ≤ n ∧ n < L + j) ∧ so1 up dn rs rl n 3 = true
  | 0 => by
    constructor
    · intro h; cases h
    · rintro ⟨_, k, h, _⟩; omega
  | j + 1 => by
    show (so2 B up dn rs rl L j || (B && so1 up dn rs rl (L + j) 3)) = true ↔ _
    rw [Bool.or_eq_true, so2_iff, Bool.and_eq_true]
    constructor
    · rintro (⟨hb, k, h1, h2⟩ | ⟨hb, h⟩)
      · exact ⟨hb, k, by omega, h2⟩
      · exact ⟨hb, L + j, by omega, h⟩
    · rintro ⟨hb, k, h1, h2⟩
      by_cases hk : k = L + j
      · exact .inr ⟨hb, hk ▸ h2⟩
      · exact .inl ⟨hb, k, by omega, h2⟩
/-- What follows from a wedge's being there. -/
theorem rw_facts {cs : List Ci} {ks : List Ck} {rc rt rs rl : Int} (h : rwE cs ks rc rt rs rl = 0) : zrE cs ks rc rt = 0 ∧ (0 ≤ rs ∧ rs ≤ 3599) ∧ (1 ≤ rl ∧ rl ≤ 100) ∧ (-300 ≤ zrL cs ks rc rt ∧ zrL cs ks rc rt ≤ 300) ∧ (-300 ≤ zrH cs ks rc rt ∧ zrH cs ks rc rt ≤ 300) := by
  have hop : asE cs ks rc rt rs rl = 0 := by
    unfold rwE at h
    split at h
    · rename_i h1; exact h1
    · rename_i h1; exact absurd h h1
  obtain ⟨e1, e2, ⟨hs, hl⟩, hL, hH⟩ := as_of hop
  have hd := hop
  rw [as_df] at hd
  have hzE : zrE cs ks rc rt = 0 := by
    unfold dfE at hd
    unfold zrE
    split at hd
    · rename_i hc
      rw [if_pos hc]
      split at hd
      · exact hd
      · exact absurd hd (by decide)
    · rename_i hc; exact absurd hd hc
  rw [e1] at hL
  rw [e2] at hH
  exact ⟨hzE, hs, hl, hL, hH⟩
/-- The zeros between the bounds that explain the reading, counted: there is one exactly if the place lies in the wedge. -/
theorem so2_ls {cs : List Ci} {ks : List Ck} {rc rt rs rl : Int} (h : rwE cs ks rc rt rs rl = 0) {z : Ci} (hz : ciF cs rc = some z) (a b : Int) :
    so2 (brB z.x z.y a b) (brUp z.x z.y a b) (brDn z.x z.y a b) rs rl (zrL cs ks rc rt) (zrH cs ks rc rt - zrL cs ks rc rt + 1).toNat = lsB (rwF cs ks rc rt rs rl) (rwT cs ks rc rt rs rl) z.x z.y a b := by
  obtain ⟨hzE, _⟩ := rw_facts h
  obtain ⟨_, _, _, hLH⟩ := zr_le hzE
  rw [Bool.eq_iff_iff, so2_iff, sharp_ls h hz]
  constructor
  · rintro ⟨hb, n, h1, h2⟩
    obtain ⟨k, h3, h4⟩ := so1_iff.1 h2
    unfold shK at h4
    rw [Bool.and_eq_true, decide_eq_true_eq, decide_eq_true_eq] at h4
    exact ⟨hb, n, by omega, k, by omega, h4⟩
  · rintro ⟨hb, n, h1, k, h3, h4⟩
    refine ⟨hb, n, by omega, so1_iff.2 ⟨k, by omega, ?_⟩⟩
    unfold shK
    rw [Bool.and_eq_true, decide_eq_true_eq, decide_eq_true_eq]
    exact h4
end Go.Proofs.Ytebdboacmeafaaa
