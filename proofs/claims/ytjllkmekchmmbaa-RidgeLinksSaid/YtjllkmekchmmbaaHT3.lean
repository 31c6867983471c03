/- Theory of ridge: crossings in order, and how one more is put among them. -/
import Derived.Test.YtjllkmekchmmbaaHA8
import Derived.Test.YtjllkmekchmmbaaHB6
set_option linter.unusedVariables false
set_option linter.unusedSimpArgs false
namespace Go.Proofs.Ytjllkmekchmmbaa
open Go Go.RowKit

/-- Two lists that are strictly in order and have the same members are one. -/
theorem pw_ext {α : Type} {R : α → α → Prop} (ha : ∀ x y, R x y → ¬ R y x) : ∀ {l m : List α}, l.Pairwise R → m.Pairwise R → (∀ x, x ∈ l ↔ x ∈ m) → l = m
  | [], [], _, _, _ => rfl
  | [], y :: s, _, _, h => absurd ((h y).2 (List.mem_cons_self ..)) (by simp)
  | x :: t, [], _, _, h => absurd ((h x).1 (List.mem_cons_self ..)) (by simp)
  | x :: t, y :: s, hl, hm, h => by
    rw [List.pairwise_cons] at hl hm
    have e : x = y := by
      rcases List.mem_cons.1 ((h x).1 (List.mem_cons_self ..)) with h1 | h1
      · exact h1
      · rcases List.mem_cons.1 ((h y).2 (List.mem_cons_self ..)) with h2 | h2
        · exact h2.symm
        · exact absurd (hm.1 _ h1) (ha _ _ (hl.1 _ h2))
    subst e
    rw [pw_ext ha hl.2 hm.2 fun z => ?_]
    constructor
    · intro hz
      rcases List.mem_cons.1 ((h z).1 (List.mem_cons_of_mem _ hz)) with h2 | h2
      · subst h2; exact absurd (hl.1 _ hz) (ha _ _ (hl.1 _ hz))
      · exact h2
    · intro hz
      rcases List.mem_cons.1 ((h z).2 (List.mem_cons_of_mem _ hz)) with h2 | h2
      · subst h2; exact absurd (hm.1 _ hz) (ha _ _ (hm.1 _ hz))
      · exact h2
/-- How far along a line a crossing is, as a whole number. -/
def keyC (dx dy : Nat) (x : Nat × Nat) : Nat := if x.1 = 0 then x.2 * max dy 1 else x.2 * max dx 1
def ltC (dx dy : Nat) (x y : Nat × Nat) : Prop := keyC dx dy x < keyC dx dy y ∨ (keyC dx dy x = keyC dx dy y ∧ x.1 < y.1)
theorem ltC_asymm (dx dy : Nat) (x y : Nat × Nat) (h : ltC dx dy x y) : ¬ ltC dx dy y x := by unfold ltC at *; omega
theorem ltC_trans {dx dy : Nat} {x y z : Nat × Nat} (h : ltC dx dy x y) (k : ltC dx dy y z) : ltC dx dy x z := by unfold ltC at *; omega
/-- It is a crossing of a line with so many steps. -/
def isC (dx dy : Nat) (x : Nat × Nat) : Prop := (x.1 = 0 ∧ 1 ≤ x.2 ∧ x.2 < dx) ∨ (x.1 = 1 ∧ 1 ≤ x.2 ∧ x.2 < dy)
theorem mul_lt {a b c : Nat} (h : a < b) (hc : 1 ≤ c) : a * c < b * c := Nat.mul_lt_mul_of_pos_right h hc
theorem crsM_sorted (dx dy : Nat) : ∀ (f p q : Nat), (dx - p) + (dy - q) ≤ f → CrOk dx dy p q → (crsM dx dy p q).Pairwise (ltC dx dy)
  | f, p, q, hf, h => by
    by_cases hc : p < dx ∨ q < dy
    · by_cases hl : q * dx < p * dy
      · obtain ⟨e, h2⟩ := crsM_one h hc hl
        have hq := h.one hc hl
        cases f with
        | zero => omega
        | succ f =>
          rw [e, List.pairwise_cons]
          refine ⟨fun x hx => ?_, crsM_sorted dx dy f p (q + 1) (by omega) h2⟩
          obtain ⟨i, k⟩ := x
          have hp := h.p1
          rcases (crsM_mem dx dy f p (q + 1) (by omega) h2 i k).1 hx with ⟨rfl, h3, h4⟩ | ⟨rfl, h3, h4⟩
          · left
            unfold keyC
            rw [if_neg (by simp), if_pos rfl, show max dx 1 = dx by omega, show max dy 1 = dy by omega]
            exact Nat.lt_of_lt_of_le hl (Nat.mul_le_mul_right dy h3)
          · left
            unfold keyC
            rw [if_neg (by simp), if_neg (by simp)]
            exact mul_lt h3 (by omega)
      · obtain ⟨e, h2⟩ := crsM_zero h hc hl
        have hp := h.zero hc hl
        cases f with
        | zero => omega
        | succ f =>
          rw [e, List.pairwise_cons]
          refine ⟨fun x hx => ?_, crsM_sorted dx dy f (p + 1) q (by omega) h2⟩
          obtain ⟨i, k⟩ := x
          have hq := h.q1
          rcases (crsM_mem dx dy f (p + 1) q (by omega) h2 i k).1 hx with ⟨rfl, h3, h4⟩ | ⟨rfl, h3, h4⟩
          · left
            unfold keyC
            rw [if_pos rfl, if_pos rfl]
            exact mul_lt h3 (by omega)
          · unfold ltC keyC
            rw [if_pos rfl, if_neg (by simp), show max dx 1 = dx by omega, show max dy 1 = dy by omega]
            have h5 : q * dx ≤ k * dx := Nat.mul_le_mul_right dx h3
            simp only
            omega
    · rw [crsM_end hc]; exact List.Pairwise.nil
theorem crsM_isC (dx dy : Nat) (x : Nat × Nat) : x ∈ crsM dx dy 1 1 ↔ isC dx dy x := by
  obtain ⟨i, k⟩ := x
  exact crsM_mem dx dy _ 1 1 (Nat.le_refl _) ⟨by omega, by omega, by omega, by omega⟩ i k
/-- A list in order whose members are all crossings is the list of crossings. -/
theorem crsM_unique {dx dy : Nat} {l : List (Nat × Nat)} (h : l.Pairwise (ltC dx dy)) (hm : ∀ x, x ∈ l ↔ isC dx dy x) : l = crsM dx dy 1 1 :=
  pw_ext (ltC_asymm dx dy) h (crsM_sorted dx dy _ 1 1 (Nat.le_refl _) ⟨by omega, by omega, by omega, by omega⟩) fun x => (hm x).trans (crsM_isC dx dy x).symm
/-- How many steps a line has along the axis of a crossing. -/
def nC (dx dy : Nat) (x : Nat × Nat) : Nat := if x.1 = 0 then dx else dy
theorem key_lt {dx dy : Nat} {x y : Nat × Nat} (hx : isC dx dy x) (hy : isC dx dy y) : x.2 * nC dx dy y < y.2 * nC dx dy x ↔ keyC dx dy x < keyC dx dy y := by
  unfold nC keyC
  rcases hx with ⟨h1, h2, h3⟩ | ⟨h1, h2, h3⟩ <;> rcases hy with ⟨k1, k2, k3⟩ | ⟨k1, k2, k3⟩ <;> rw [h1, k1] <;> simp only [if_pos, reduceIte, Nat.one_ne_zero]
  · rw [Nat.mul_lt_mul_right (by omega), Nat.mul_lt_mul_right (by omega)]
  · rw [show max dx 1 = dx by omega, show max dy 1 = dy by omega]
  · rw [show max dx 1 = dx by omega, show max dy 1 = dy by omega]
  · rw [Nat.mul_lt_mul_right (by omega), Nat.mul_lt_mul_right (by omega)]
/-- One more crossing among those that came before it. -/
theorem ins_sorted {dx dy : Nat} {l : List (Nat × Nat)} {x : Nat × Nat} {k : Nat} (h : l.Pairwise (ltC dx dy)) (hk : k ≤ l.length) (hx : isC dx dy x) (hl : ∀ y ∈ l, isC dx dy y ∧ (y.1 < x.1 ∨ y.1 = x.1 ∧ y.2 < x.2))
    (h1 : ∀ j (hj : j < l.length), k ≤ j → keyC dx dy x < keyC dx dy l[j]) (h2 : k = 0 ∨ ∃ hj : k - 1 < l.length, ¬ keyC dx dy x < keyC dx dy l[k - 1]) : (l.take k ++ x :: l.drop k).Pairwise (ltC dx dy) := by
  have hno : ∀ y ∈ l, ¬ keyC dx dy x < keyC dx dy y → ltC dx dy y x := by
    intro y hy hn
    obtain ⟨hc, h3⟩ := hl y hy
    unfold ltC
    rcases h3 with h3 | ⟨h3, h4⟩
    · omega
    · left
      have : keyC dx dy y < keyC dx dy x := by
        rw [← key_lt hc hx]
        unfold nC
        rw [h3]
        exact mul_lt h4 (by rcases hx with ⟨e, _, _⟩ | ⟨e, _, _⟩ <;> rw [e] <;> simp <;> omega)
      exact this
  rw [List.pairwise_append]
  have hdr : ∀ y ∈ l.drop k, ltC dx dy x y := by
    intro y hy
    obtain ⟨j, hj, rfl⟩ := List.mem_iff_getElem.1 hy
    rw [List.length_drop] at hj
    rw [List.getElem_drop]
    exact .inl (h1 _ (by omega) (by omega))
  refine ⟨h.sublist (List.take_sublist _ _), ?_, fun a ha b hb => ?_⟩
  · rw [List.pairwise_cons]
    exact ⟨hdr, h.sublist (List.drop_sublist _ _)⟩
  · have hax : ltC dx dy a x := by
      rcases h2 with rfl | ⟨hj, hn⟩
      · simp at ha
      · have hlast := hno _ (List.getElem_mem hj) hn
        obtain ⟨j, hj2, rfl⟩ := List.mem_iff_getElem.1 ha
        rw [List.length_take] at hj2
        rw [List.getElem_take]
        by_cases e : j = k - 1
        · subst e; exact hlast
        · exact ltC_trans (List.pairwise_iff_getElem.1 h j (k - 1) (by omega) hj (by omega)) hlast
    rcases List.mem_cons.1 hb with rfl | hb
    · exact hax
    · exact ltC_trans hax (hdr b hb)
/-- Fractions in lowest terms are compared as they were. -/
theorem low_less {k n l m : Int} (hn : 1 ≤ n) (hm : 1 ≤ m) : (lowP k n).1 * (lowP l m).2 < (lowP l m).1 * (lowP k n).2 ↔ k * m < l * n := by
  obtain ⟨k', hk⟩ : (Int.gcd k n : Int) ∣ k := Int.gcd_dvd_left ..
  obtain ⟨n', hn'⟩ : (Int.gcd k n : Int) ∣ n := Int.gcd_dvd_right ..
  obtain ⟨l', hl⟩ : (Int.gcd l m : Int) ∣ l := Int.gcd_dvd_left ..
  obtain ⟨m', hm'⟩ : (Int.gcd l m : Int) ∣ m := Int.gcd_dvd_right ..
  have g1 : 0 < (Int.gcd k n : Int) := by have := Int.gcd_pos_of_ne_zero_right k (by omega : n ≠ 0); omega
  have g2 : 0 < (Int.gcd l m : Int) := by have := Int.gcd_pos_of_ne_zero_right l (by omega : m ≠ 0); omega
  unfold lowP
  obtain ⟨g, hg⟩ : ∃ g, (Int.gcd k n : Int) = g := ⟨_, rfl⟩
  obtain ⟨d, hd⟩ : ∃ d, (Int.gcd l m : Int) = d := ⟨_, rfl⟩
  rw [hg] at hk hn' g1 ⊢
  rw [hd] at hl hm' g2 ⊢
  simp only
  have q1 : k / g = k' := by rw [hk]; exact Int.mul_ediv_cancel_left _ (by omega)
  have q2 : n / g = n' := by rw [hn']; exact Int.mul_ediv_cancel_left _ (by omega)
  have q3 : l / d = l' := by rw [hl]; exact Int.mul_ediv_cancel_left _ (by omega)
  have q4 : m / d = m' := by rw [hm']; exact Int.mul_ediv_cancel_left _ (by omega)
  rw [q1, q2, q3, q4, hk, hn', hl, hm']
  have e1 : g * k' * (d * m') = (g * d) * (k' * m') := by simp only [Int.mul_assoc, Int.mul_left_comm, Int.mul_comm]
  have e2 : d * l' * (g * n') = (g * d) * (l' * n') := by simp only [Int.mul_assoc, Int.mul_left_comm, Int.mul_comm]
  rw [e1, e2, Int.mul_lt_mul_left (Int.mul_pos g1 g2)]
end Go.Proofs.Ytjllkmekchmmbaa
