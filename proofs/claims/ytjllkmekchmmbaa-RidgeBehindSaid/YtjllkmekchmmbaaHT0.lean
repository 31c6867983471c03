/- Theory of ridge: a line of sight from both ends, with taller masts. -/
import Derived.Test.YtjllkmekchmmbaaHA9
set_option linter.unusedVariables false
set_option linter.unusedSimpArgs false
namespace Go.Proofs.Ytjllkmekchmmbaa
open Go Go.RowKit

theorem atP_symm (n k f t : Int) : atP n k f t = atP n (n - k) t f := by
  unfold atP
  rw [show n - (n - k) = k by omega]; exact Int.add_comm _ _
theorem grP_symm (g : List Int) (wd n k : Int) (f t : Pl) : grP g wd n k f t = grP g wd n (n - k) t f := by
  have e1 := atP_symm n k f.1 t.1
  have e2 := atP_symm n k f.2 t.2
  unfold grP beyP loP hiP
  rw [e1, e2]
theorem dist_symm (x y : Int) : dist x y = dist y x := by unfold dist; omega
theorem freeB_iff {g : List Int} {wd : Int} {a b : Pl} {up rise : Int} : freeB g wd a up b rise = true ↔ ∀ x ∈ mts g wd a b, x.g ≤ partI x (hAt g wd a + up) (hAt g wd b + rise) := by
  unfold freeB blk
  rw [List.isEmpty_iff, List.map_eq_nil_iff, List.filter_eq_nil_iff]
  refine forall_congr' fun x => forall_congr' fun _ => ?_
  unfold overB
  rw [decide_eq_true_eq, Int.not_lt]
theorem freeB_half {g : List Int} {wd : Int} {a b : Pl} {up rise : Int} (h : freeB g wd a up b rise = true) : freeB g wd b rise a up = true := by
  rw [freeB_iff] at h ⊢
  intro x hx
  obtain ⟨i, k, hik, rfl⟩ := (mts_mem x).1 hx
  have hd1 := dist_symm a.1 b.1
  have hd2 := dist_symm a.2 b.2
  have hn : axN b a i = axN a b i := by unfold axN; rw [hd1, hd2]
  have hkn : 1 ≤ k ∧ (k : Int) < axN a b i := by
    unfold axN
    rcases hik with ⟨rfl, h1, h2⟩ | ⟨rfl, h1, h2⟩
    · rw [← hd1] at h2; rw [if_pos rfl]; omega
    · rw [← hd2] at h2; rw [if_neg (by decide)]; omega
  obtain ⟨m, hm⟩ : ∃ m : Nat, (axN a b i : Int) - k = m := ⟨(axN a b i - k).toNat, by omega⟩
  have hx' : mkM g wd a b (i, m) ∈ mts g wd a b := (mts_mem _).2 ⟨i, m, by
    unfold axN at hkn hm
    rcases hik with ⟨rfl, h1, h2⟩ | ⟨rfl, h1, h2⟩
    · rw [if_pos rfl] at hkn hm; exact .inl ⟨rfl, by omega, by omega⟩
    · rw [if_neg (by decide)] at hkn hm; exact .inr ⟨rfl, by omega, by omega⟩, rfl⟩
  have h2 := h _ hx'
  unfold mkM partI at h2 ⊢
  simp only at h2 ⊢
  rw [hn]
  rw [grP_symm g wd (axN a b i) k b a, hm]
  refine Int.le_trans h2 (Int.le_of_eq ?_)
  rw [show axN a b i - (m : Int) = k by omega]
  exact Int.add_comm _ _
theorem freeB_symm (g : List Int) (wd : Int) (a b : Pl) (up rise : Int) : freeB g wd a up b rise = freeB g wd b rise a up := by
  cases h : freeB g wd a up b rise with
  | true => exact (freeB_half h).symm
  | false =>
    cases h2 : freeB g wd b rise a up with
    | false => rfl
    | true => rw [freeB_half h2] at h; cases h
theorem freeB_more {g : List Int} {wd : Int} {a b : Pl} {up rise up' rise' : Int} (h : freeB g wd a up b rise = true) (h1 : up ≤ up') (h2 : rise ≤ rise') : freeB g wd a up' b rise' = true := by
  rw [freeB_iff] at h ⊢
  intro x hx
  refine Int.le_trans (h x hx) ?_
  obtain ⟨i, k, hik, rfl⟩ := (mts_mem x).1 hx
  have hk : 0 ≤ (k : Int) ∧ (k : Int) ≤ axN a b i := by
    unfold axN
    rcases hik with ⟨rfl, h1, h2⟩ | ⟨rfl, h1, h2⟩
    · rw [if_pos rfl]; omega
    · rw [if_neg (by decide)]; omega
  unfold mkM partI
  simp only
  exact Int.add_le_add (Int.mul_le_mul_of_nonneg_left (by omega) (by omega)) (Int.mul_le_mul_of_nonneg_left (by omega) (by omega))
end Go.Proofs.Ytjllkmekchmmbaa
