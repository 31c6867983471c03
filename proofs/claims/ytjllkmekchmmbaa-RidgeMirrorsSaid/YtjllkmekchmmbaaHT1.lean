/- Theory of ridge: lower ground. -/
import Derived.Test.YtjllkmekchmmbaaHT0
import Derived.Test.YtjllkmekchmmbaaHD4
set_option linter.unusedVariables false
set_option linter.unusedSimpArgs false
namespace Go.Proofs.Ytjllkmekchmmbaa
open Go Go.RowKit

theorem atP_dvd (k f t : Int) : atP (dist f t) k f t % dist f t = 0 := by
  have e0 : k * f = f * k := Int.mul_comm ..
  have e1 : k * t = t * k := Int.mul_comm ..
  rcases (by unfold dist; omega : dist f t = f - t ∨ dist f t = t - f) with e | e
  · rw [e]
    have h : atP (f - t) k f t = (f - t) * (f - k) := by
      unfold atP
      rw [Int.sub_mul (f - t) k f, Int.mul_sub (f - t) f k, Int.sub_mul f t k]
      omega
    rw [h, Int.mul_emod_right]
  · rw [e]
    have h : atP (t - f) k f t = (t - f) * (f + k) := by
      unfold atP
      rw [Int.sub_mul (t - f) k f, Int.mul_add (t - f) f k, Int.sub_mul t f k]
      omega
    rw [h, Int.mul_emod_right]
theorem bey_bd {a b : Pl} {i k : Nat} (hi : i = 0 ∨ i = 1) (hk : 1 ≤ k ∧ (k : Int) < axN a b i) : 0 ≤ beyP (axN a b i) k a b ∧ beyP (axN a b i) k a b ≤ axN a b i := by
  have h0 : 0 < axN a b i := by omega
  have m1 := Int.emod_nonneg (atP (axN a b i) k a.1 b.1) (show axN a b i ≠ 0 by omega)
  have m2 := Int.emod_nonneg (atP (axN a b i) k a.2 b.2) (show axN a b i ≠ 0 by omega)
  have m3 := Int.emod_lt_of_pos (atP (axN a b i) k a.1 b.1) h0
  have m4 := Int.emod_lt_of_pos (atP (axN a b i) k a.2 b.2) h0
  unfold beyP
  rcases hi with rfl | rfl
  · have z : atP (axN a b 0) k a.1 b.1 % axN a b 0 = 0 := by
      unfold axN; rw [if_pos rfl]; exact atP_dvd _ _ _
    omega
  · have z : atP (axN a b 1) k a.2 b.2 % axN a b 1 = 0 := by
      unfold axN; rw [if_neg (by decide)]; exact atP_dvd _ _ _
    omega
theorem freeB_low {g g' : List Int} {wd : Int} {a b : Pl} {up rise : Int} (h : freeB g wd a up b rise = true) (hl : ∀ p, hAt g' wd p ≤ hAt g wd p) (ha : hAt g' wd a = hAt g wd a) (hb : hAt g' wd b = hAt g wd b) : freeB g' wd a up b rise = true := by
  rw [freeB_iff] at h ⊢
  intro x hx
  obtain ⟨i, k, hik, rfl⟩ := (mts_mem x).1 hx
  have hx' : mkM g wd a b (i, k) ∈ mts g wd a b := (mts_mem _).2 ⟨i, k, hik, rfl⟩
  have h2 := h _ hx'
  have hk : 1 ≤ k ∧ (k : Int) < axN a b i := by
    unfold axN
    rcases hik with ⟨rfl, h1, h2⟩ | ⟨rfl, h1, h2⟩
    · rw [if_pos rfl]; omega
    · rw [if_neg (by decide)]; omega
  have hi : i = 0 ∨ i = 1 := by rcases hik with ⟨h, _⟩ | ⟨h, _⟩ <;> simp [h]
  obtain ⟨y1, y2⟩ := bey_bd hi hk
  rw [ha, hb]
  refine Int.le_trans ?_ h2
  unfold mkM grP
  simp only
  exact Int.add_le_add (Int.mul_le_mul_of_nonneg_left (hl _) (by omega)) (Int.mul_le_mul_of_nonneg_left (hl _) y1)
theorem hAt_set (g : List Int) (wd : Int) (p q : Pl) (v : Int) (hp : ixN wd p < g.length) : hAt (g.set (ixN wd p) v) wd q = if ixN wd q = ixN wd p then v else hAt g wd q := by
  unfold hAt
  show (g.set (ixN wd p) v).getD (ixN wd q) 0 = if ixN wd q = ixN wd p then v else g.getD (ixN wd q) 0
  rw [List.getD_eq_getElem?_getD, List.getElem?_set, List.getD_eq_getElem?_getD]
  by_cases e : ixN wd q = ixN wd p
  · rw [if_pos e, if_pos e.symm, if_pos hp]; rfl
  · rw [if_neg e, if_neg (fun k => e k.symm)]
theorem ix_inj {wd hg : Int} {p q : Pl} (hp : onB wd hg p = true) (hq : onB wd hg q = true) (h : ixN wd p = ixN wd q) : p = q := by
  obtain ⟨a1, a2, a3, a4⟩ := onB_ok hp
  obtain ⟨b1, b2, b3, b4⟩ := onB_ok hq
  have n1 : 0 ≤ p.2 * wd := Int.mul_nonneg (by omega) (by omega)
  have n2 : 0 ≤ q.2 * wd := Int.mul_nonneg (by omega) (by omega)
  unfold ixN at h
  have e : p.2 * wd + p.1 = q.2 * wd + q.1 := by omega
  have y : p.2 = q.2 := by
    rcases Int.lt_trichotomy p.2 q.2 with k | k | k
    · have := Int.mul_le_mul_of_nonneg_right (show p.2 + 1 ≤ q.2 from k) (show 0 ≤ wd by omega)
      rw [Int.add_mul, Int.one_mul] at this; omega
    · exact k
    · have := Int.mul_le_mul_of_nonneg_right (show q.2 + 1 ≤ p.2 from k) (show 0 ≤ wd by omega)
      rw [Int.add_mul, Int.one_mul] at this; omega
  rw [y] at e
  exact Prod.ext (by omega) y
end Go.Proofs.Ytjllkmekchmmbaa
