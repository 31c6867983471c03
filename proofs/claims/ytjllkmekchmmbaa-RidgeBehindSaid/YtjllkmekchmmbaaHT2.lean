/- Theory of ridge: the least height with which a line is free. -/
import Derived.Test.YtjllkmekchmmbaaHT0
import Derived.Test.YtjllkmekchmmbaaHB5
set_option linter.unusedVariables false
set_option linter.unusedSimpArgs false
namespace Go.Proofs.Ytjllkmekchmmbaa
open Go Go.RowKit

theorem lift_iff {g p k r : Int} (hk : 1 ≤ k) (hr : 0 ≤ r) : (g - p + k - 1).tdiv k ≤ r ↔ g ≤ p + k * r := by
  have hkr : 0 ≤ k * r := Int.mul_nonneg (by omega) hr
  by_cases h : g - p + k - 1 < 0
  · constructor
    · intro _; omega
    · intro _
      have h1 := Int.tdiv_nonneg (show 0 ≤ -(g - p + k - 1) by omega) (show 0 ≤ k by omega)
      rw [Int.neg_tdiv] at h1
      omega
  · rw [Int.tdiv_eq_ediv_of_nonneg (by omega)]
    constructor
    · intro h2
      have h3 := (Int.ediv_le_iff_le_mul (show 0 < k by omega)).1 h2
      have e : r * k = k * r := Int.mul_comm ..
      omega
    · intro h2
      refine (Int.ediv_le_iff_le_mul (show 0 < k by omega)).2 ?_
      have e : r * k = k * r := Int.mul_comm ..
      omega
theorem fold_max_le {l : List Int} : ∀ {a r : Int}, l.foldl max a ≤ r ↔ a ≤ r ∧ ∀ x ∈ l, x ≤ r := by
  induction l with
  | nil => intro a r; simp
  | cons y t ih =>
    intro a r
    rw [List.foldl_cons, ih]
    simp only [List.mem_cons, forall_eq_or_imp]
    constructor
    · rintro ⟨h1, h2⟩; exact ⟨by omega, by omega, h2⟩
    · rintro ⟨h1, h2, h3⟩; exact ⟨by omega, h3⟩
theorem part_add (x : Mt) (u v r : Int) : partI x u (v + r) = partI x u v + x.k * r := by
  unfold partI
  rw [Int.mul_add]; omega
theorem free_nd {g : List Int} {wd : Int} {a b : Pl} {up rise : Int} (hr : 0 ≤ rise) : freeB g wd a up b rise = true ↔ ndI g wd a up b ≤ rise := by
  rw [freeB_iff]
  unfold ndI
  rw [fold_max_le]
  constructor
  · intro h
    refine ⟨hr, fun y hy => ?_⟩
    obtain ⟨x, hx, rfl⟩ := List.mem_map.1 hy
    obtain ⟨i, k, hik, rfl⟩ := (mts_mem x).1 hx
    have h1 := h _ hx
    unfold liftI
    refine (lift_iff (by unfold mkM; simp only; omega) hr).2 (Int.le_trans h1 (Int.le_of_eq ?_))
    exact part_add _ _ _ _
  · rintro ⟨_, h⟩ x hx
    have h1 := h _ (List.mem_map.2 ⟨x, hx, rfl⟩)
    obtain ⟨i, k, hik, rfl⟩ := (mts_mem x).1 hx
    unfold liftI at h1
    have h2 := (lift_iff (by unfold mkM; simp only; omega) hr).1 h1
    exact Int.le_trans h2 (Int.le_of_eq (part_add _ _ _ _).symm)
theorem nd_nonneg (g : List Int) (wd : Int) (a : Pl) (up : Int) (b : Pl) : 0 ≤ ndI g wd a up b := by
  have h : ndI g wd a up b ≤ ndI g wd a up b := Int.le_refl _
  unfold ndI at h ⊢
  exact ((fold_max_le (r := _)).1 h).1
theorem free_dec (g : List Int) (wd : Int) (a b : Pl) (up rise : Int) (hr : 0 ≤ rise) : freeB g wd a up b rise = decide (ndI g wd a up b ≤ rise) := by
  rw [Bool.eq_iff_iff, free_nd hr, decide_eq_true_eq]
end Go.Proofs.Ytjllkmekchmmbaa
