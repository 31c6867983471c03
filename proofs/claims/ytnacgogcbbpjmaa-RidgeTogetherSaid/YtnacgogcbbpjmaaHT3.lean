/- Theory of ridge: crossings in order, and how one more is put among them. -/
import Derived.Test.YtnacgogcbbpjmaaHA8
import Derived.Test.YtnacgogcbbpjmaaHB6
import Derived.Test.YtnacgogcbbpjmaaHE0
import Derived.Test.YtnacgogcbbpjmaaHB7
set_option linter.unusedVariables false
set_option linter.unusedSimpArgs false
namespace Go.Proofs.Ytnacgogcbbpjmaa
open Go Go.RowKit

/-- Two lists that are strictly in order and have the same members are one. -/
theorem pw_ext {α : Type} {R : α → α → Prop} (ha : ∀ x y, R x y → ¬ R y x) : ∀ {l m : List α}, l.Pairwise R → m.Pairwise R → (∀ x, x ∈ l ↔ x ∈ m) → l = m
  | [], [], _, _, _ => rfl
  | [], y :: s, _, _, h => absurd ((h y).2 (List.mem_cons_self ..)) (by simp)
  | x :: t, [], _, _, h => absurd ((h x).1 (List.mem_cons_self ..)) (by simp)
  | x :: t, y :: s, hl, hm, h => by
    rw [List.pairwise_cons] at hl hm
    have e : x = y := by
      rcases List.mem_cons.1 ((h x).1 (List.mem_cons_self ..)) with h1 | h1
      · exact h1
      · rcases List.mem_cons.1 ((h y).2 (List.mem_cons_self ..)) with h2 | h2
        · exact h2.symm
        · exact absurd (hm.1 _ h1) (ha _ _ (hl.1 _ h2))
    subst e
    rw [pw_ext ha hl.2 hm.2 fun z => ?_]
    constructor
    · intro hz
      rcases List.mem_cons.1 ((h z).1 (List.mem_cons_of_mem _ hz)) with h2 | h2
      · subst h2; exact absurd (hl.1 _ hz) (ha _ _ (hl.1 _ hz))
      · exact h2
    · intro hz
      rcases List.mem_cons.1 ((h z).2 (List.mem_cons_of_mem _ hz)) with h2 | h2
      · subst h2; exact absurd (hm.1 _ hz) (ha _ _ (hm.1 _ hz))
      · exact h2
/-- How far along a line a crossing is, as a whole number. -/
def keyC (dx dy : Nat) (x : Nat × Nat) : Nat := if x.1 = 0 then x.2 * max dy 1 else x.2 * max dx 1
def ltC (dx dy : Nat) (x y : Nat × Nat) : Prop := keyC dx dy x < keyC dx dy y ∨ (keyC dx dy x = keyC dx dy y ∧ x.1 < y.1)
theorem ltC_asymm (dx dy : Nat) (x y : Nat × Nat) (h : ltC dx dy x y) : ¬ ltC dx dy y x := by unfold ltC at *; omega
theorem ltC_trans {dx dy : Nat} {x y z : Nat × Nat} (h : ltC dx dy x y) (k : ltC dx dy y z) : ltC dx dy x z := by unfold ltC at *; omega
/-- It is a crossing of a line with so many steps. -/
def isC (dx dy : Nat) (x : Nat × Nat) : Prop := (x.1 = 0 ∧ 1 ≤ x.2 ∧ x.2 < dx) ∨ (x.1 = 1 ∧ 1 ≤ x.2 ∧ x.2 < dy)
theorem mul_lt {a b c : Nat} (h : a < b) (hc : 1 ≤ c) : a * c < b * c := Nat.mul_lt_mul_of_pos_right h hc
theorem crsM_sorted (dx dy : Nat) : ∀ (f p q : Nat), (dx - p) + (dy - q) ≤ f → CrOk dx dy p q → (crsM dx dy p q).Pairwise (ltC dx dy)
  | f, p, q, hf, h => by
    by_cases hc : p < dx ∨ q < dy
    · by_cases hl : q * dx < p * dy
      · obtain ⟨e, h2⟩ := crsM_one h hc hl
        have hq := h.one hc hl
        cases f with
        | zero => omega
        | succ f =>
          rw [e, List.pairwise_cons]
          refine ⟨fun x hx => ?_, crsM_sorted dx dy f p (q + 1) (by omega) h2⟩
          obtain ⟨i, k⟩ := x
          have hp := h.p1
          rcases (crsM_mem dx dy f p (q + 1) (by omega) h2 i k).1 hx with ⟨rfl, h3, h4⟩ | ⟨rfl, h3, h4⟩
          · left
            unfold keyC
            rw [if_neg (by simp), if_pos rfl, show max dx 1 = dx by omega, show max dy 1 = dy by omega]
            exact Nat.lt_of_lt_of_le hl (Nat.mul_le_mul_right dy h3)
          · left
            unfold keyC
            rw [if_neg (by simp), if_neg (by simp)]
            exact mul_lt h3 (by omega)
      · obtain ⟨e, h2⟩ := crsM_zero h hc hl
        have hp := h.zero hc hl
        cases f with
        | zero => omega
        | succ f =>
          rw [e, List.pairwise_cons]
          refine ⟨fun x hx => ?_, crsM_sorted dx dy f (p + 1) q (by omega) h2⟩
          obtain ⟨i, k⟩ := x
          have hq := h.q1
          rcases (crsM_mem dx dy f (p + 1) q (by omega) h2 i k).1 hx with ⟨rfl, h3, h4⟩ | ⟨rfl, h3, h4⟩
          · left
            unfold keyC
            rw [if_pos rfl, if_pos rfl]
            exact mul_lt h3 (by omega)
          · unfold ltC keyC
            rw [if_pos rfl, if_neg (by simp), show max dx 1 = dx by omega, show max dy 1 = dy by omega]
            have h5 : q * dx ≤ k * dx := Nat.mul_le_mul_right dx h3
            simp only
            omega
    · rw [crsM_end hc]; exact List.Pairwise.nil
theorem crsM_isC (dx dy : Nat) (x : Nat × Nat) : x ∈ crsM dx dy 1 1 ↔ isC dx dy x := by
  obtain ⟨i, k⟩ := x
  exact crsM_mem dx dy _ 1 1 (Nat.le_refl _) ⟨by omega, by omega, by omega, by omega⟩ i k
/-- A list in order whose members are all crossings is the list of crossings. -/
theorem crsM_unique {dx dy : Nat} {l : List (Nat × Nat)} (h : l.Pairwise (ltC dx dy)) (hm : ∀ x, x ∈ l ↔ isC dx dy x) : l = crsM dx dy 1 1 :=
  pw_ext (ltC_asymm dx dy) h (crsM_sorted dx dy _ 1 1 (Nat.le_refl _) ⟨by omega, by omega, by omega, by omega⟩) fun x => (hm x).trans (crsM_isC dx dy x).symm
/-- How many steps a line has along the axis of a crossing. -/
def nC (dx dy : Nat) (x : Nat × Nat) : Nat := if x.1 = 0 then dx else dy
theorem key_lt {dx dy : Nat} {x y : Nat × Nat} (hx : isC dx dy x) (hy : isC dx dy y) : x.2 * nC dx dy y < y.2 * nC dx dy x ↔ keyC dx dy x < keyC dx dy y := by
  unfold nC keyC
  rcases hx with ⟨h1, h2, h3⟩ | ⟨h1, h2, h3⟩ <;> rcases hy with ⟨k1, k2, k3⟩ | ⟨k1, k2, k3⟩ <;> rw [h1, k1] <;> simp only [if_pos, reduceIte, Nat.one_ne_zero]
  · rw [Nat.mul_lt_mul_right (by omega), Nat.mul_lt_mul_right (by omega)]
  · rw [show max dx 1 = dx by omega, show max dy 1 = dy by omega]
  · rw [show max dx 1 = dx by omega, show max dy 1 = dy by omega]
  · rw [Nat.mul_lt_mul_right (by omega), Nat.mul_lt_mul_right (by omega)]
/-- One more crossing among those that came before it. -/
theorem ins_sorted {dx dy : Nat} {l : List (Nat × Nat)} {x : Nat × Nat} {k : Nat} (h : l.Pairwise (ltC dx dy)) (hk : k ≤ l.length) (hx : isC dx dy x) (hl : ∀ y ∈ l, isC dx dy y ∧ (y.1 < x.1 ∨ y.1 = x.1 ∧ y.2 < x.2))
    (h1 : ∀ j (hj : j < l.length), k ≤ j → keyC dx dy x < keyC dx dy l[j]) (h2 : k = 0 ∨ ∃ hj : k - 1 < l.length, ¬ keyC dx dy x < keyC dx dy l[k - 1]) : (l.take k ++ x :: l.drop k).Pairwise (ltC dx dy) := by
  have hno : ∀ y ∈ l, ¬ keyC dx dy x < keyC dx dy y → ltC dx dy y x := by
    intro y hy hn
    obtain ⟨hc, h3⟩ := hl y hy
    unfold ltC
    rcases h3 with h3 | ⟨h3, h4⟩
    · omega
    · left
      have : keyC dx dy y < keyC dx dy x := by
        rw [← key_lt hc hx]
        unfold nC
        rw [h3]
        exact mul_lt h4 (by rcases hx with ⟨e, _, _⟩ | ⟨e, _, _⟩ <;> rw [e] <;> simp <;> omega)
      exact this
  rw [List.pairwise_append]
  have hdr : ∀ y ∈ l.drop k, ltC dx dy x y := by
    intro y hy
    obtain ⟨j, hj, rfl⟩ := List.mem_iff_getElem.1 hy
    rw [List.length_drop] at hj
    rw [List.getElem_drop]
    exact .inl (h1 _ (by omega) (by omega))
  refine ⟨h.sublist (List.take_sublist _ _), ?_, fun a ha b hb => ?_⟩
  · rw [List.pairwise_cons]
    exact ⟨hdr, h.sublist (List.drop_sublist _ _)⟩
  · have hax : ltC dx dy a x := by
      rcases h2 with rfl | ⟨hj, hn⟩
      · simp at ha
      · have hlast := hno _ (List.getElem_mem hj) hn
        obtain ⟨j, hj2, rfl⟩ := List.mem_iff_getElem.1 ha
        rw [List.length_take] at hj2
        rw [List.getElem_take]
        by_cases e : j = k - 1
        · subst e; exact hlast
        · exact ltC_trans (List.pairwise_iff_getElem.1 h j (k - 1) (by omega) hj (by omega)) hlast
    rcases List.mem_cons.1 hb with rfl | hb
    · exact hax
    · exact ltC_trans hax (hdr b hb)
/-- Fractions in lowest terms are compared as they were. -/
theorem low_less {k n l m : Int} (hn : 1 ≤ n) (hm : 1 ≤ m) : (lowP k n).1 * (lowP l m).2 < (lowP l m).1 * (lowP k n).2 ↔ k * m < l * n := by
  obtain ⟨k', hk⟩ : (Int.gcd k n : Int) ∣ k := Int.gcd_dvd_left ..
  obtain ⟨n', hn'⟩ : (Int.gcd k n : Int) ∣ n := Int.gcd_dvd_right ..
  obtain ⟨l', hl⟩ : (Int.gcd l m : Int) ∣ l := Int.gcd_dvd_left ..
  obtain ⟨m', hm'⟩ : (Int.gcd l m : Int) ∣ m := Int.gcd_dvd_right ..
  have g1 : 0 < (Int.gcd k n : Int) := by have := Int.gcd_pos_of_ne_zero_right k (by omega : n ≠ 0); omega
  have g2 : 0 < (Int.gcd l m : Int) := by have := Int.gcd_pos_of_ne_zero_right l (by omega : m ≠ 0); omega
  unfold lowP
  obtain ⟨g, hg⟩ : ∃ g, (Int.gcd k n : Int) = g := ⟨_, rfl⟩
  obtain ⟨d, hd⟩ : ∃ d, (Int.gcd l m : Int) = d := ⟨_, rfl⟩
  rw [hg] at hk hn' g1 ⊢
  rw [hd] at hl hm' g2 ⊢
  simp only
  have q1 : k / g = k' := by rw [hk]; exact Int.mul_ediv_cancel_left _ (by omega)
  have q2 : n / g = n' := by rw [hn']; exact Int.mul_ediv_cancel_left _ (by omega)
  have q3 : l / d = l' := by rw [hl]; exact Int.mul_ediv_cancel_left _ (by omega)
  have q4 : m / d = m' := by rw [hm']; exact Int.mul_ediv_cancel_left _ (by omega)
  rw [q1, q2, q3, q4, hk, hn', hl, hm']
  have e1 : g * k' * (d * m') = (g * d) * (k' * m') := by simp only [Int.mul_assoc, Int.mul_left_comm, Int.mul_comm]
  have e2 : d * l' * (g * n') = (g * d) * (l' * n') := by simp only [Int.mul_assoc, Int.mul_left_comm, Int.mul_comm]
  rw [e1, e2, Int.mul_lt_mul_left (Int.mul_pos g1 g2)]
end Go.Proofs.Ytnacgogcbbpjmaa

/-! Theory of ridge: the ground at a crossing, as the reference counts it. -/
set_option linter.unusedVariables false
set_option linter.unusedSimpArgs false
namespace Go.Proofs.Ytnacgogcbbpjmaa
open Go Go.RowKit

def pickL (i : Nat) (p : Pl) : Int := if i = 0 then p.1 else p.2
def pickC (i : Nat) (p : Pl) : Int := if i = 0 then p.2 else p.1
def lineP (i : Nat) (k : Int) (a b : Pl) : Int := if pickL i b - pickL i a < 0 then pickL i a - k else pickL i a + k
def wholeP (i : Nat) (k : Int) (a b : Pl) : Int := pickC i a * axN a b i + (pickC i b - pickC i a) * k
theorem at_line (f t k : Int) : atP (dist f t) k f t = dist f t * (if t - f < 0 then f - k else f + k) := by
  have e0 : k * f = f * k := Int.mul_comm ..
  have e1 : k * t = t * k := Int.mul_comm ..
  by_cases e : t - f < 0
  · rw [if_pos e, show dist f t = f - t by unfold dist; omega]
    unfold atP
    rw [Int.sub_mul (f - t) k f, Int.mul_sub (f - t) f k, Int.sub_mul f t k]
    omega
  · rw [if_neg e, show dist f t = t - f by unfold dist; omega]
    unfold atP
    rw [Int.sub_mul (t - f) k f, Int.mul_add (t - f) f k, Int.sub_mul t f k]
    omega
theorem at_whole (n k f t : Int) : atP n k f t = f * n + (t - f) * k := by
  unfold atP
  rw [Int.sub_mul, Int.sub_mul, Int.mul_comm n f, Int.mul_comm k f, Int.mul_comm k t]
  omega
theorem up_line {n l : Int} (hn : 1 ≤ n) : (n * l + n - 1) / n = l := by
  rw [show n * l + n - 1 = (n - 1) + n * l by omega, Int.add_mul_ediv_left _ _ (by omega), Int.ediv_eq_zero_of_lt (by omega) (by omega)]
  omega
theorem up_whole {n x : Int} (hn : 1 ≤ n) : (x + n - 1) / n = if 0 < x % n then x / n + 1 else x / n := by
  have h1 := Int.emod_nonneg x (show n ≠ 0 by omega)
  have h2 := Int.emod_lt_of_pos x (show 0 < n by omega)
  have h3 := Int.mul_ediv_add_emod x n
  have e : x + n - 1 = (x % n + n - 1) + n * (x / n) := by omega
  rw [e, Int.add_mul_ediv_left _ _ (by omega)]
  by_cases hr : 0 < x % n
  · rw [if_pos hr, show x % n + n - 1 = (x % n - 1) + n * 1 by omega, Int.add_mul_ediv_left _ _ (by omega), Int.ediv_eq_zero_of_lt (by omega) (by omega)]
    omega
  · rw [if_neg hr, Int.ediv_eq_zero_of_lt (by omega) (by omega)]
    omega
theorem rest_bd {n x m : Int} (hn : 1 ≤ n) (h0 : 0 ≤ x) (h1 : x ≤ n * (m - 1)) : 0 ≤ x / n ∧ x / n ≤ m - 1 ∧ (0 < x % n → x / n + 1 ≤ m - 1) := by
  have h3 := Int.mul_ediv_add_emod x n
  have h4 := Int.emod_nonneg x (show n ≠ 0 by omega)
  have h5 := Int.ediv_nonneg h0 (show 0 ≤ n by omega)
  have h6 : x / n ≤ m - 1 := by
    rcases Int.lt_or_le (m - 1) (x / n) with h | h
    · have := Int.mul_le_mul_of_nonneg_left (show m - 1 + 1 ≤ x / n from h) (show 0 ≤ n by omega)
      rw [Int.mul_add] at this; omega
    · exact h
  refine ⟨h5, h6, fun hr => ?_⟩
  rcases Int.lt_or_le (m - 1) (x / n + 1) with h | h
  · have e : x / n = m - 1 := by omega
    rw [e] at h3; omega
  · exact h
theorem place0 (l k : Int) : placeP ((0 : Nat) : Int) l k = (l, k) := rfl
theorem place1 (l k : Int) : placeP ((1 : Nat) : Int) l k = (k, l) := rfl
theorem pro_core {wd hg : Int} {g : List Int} {a b : Pl} (hm : vmB wd hg g = true) (ha : onB wd hg a = true) (hb : onB wd hg b = true) {i : Nat} {k : Int} (hi : i = 0 ∨ i = 1) (hk : 1 ≤ k ∧ k < axN a b i) :
    (0 ≤ wholeP i k a b ∧ wholeP i k a b ≤ 2400) ∧ (0 ≤ lineP i k a b ∧ lineP i k a b ≤ 48) ∧ (0 ≤ wholeP i k a b / axN a b i ∧ wholeP i k a b / axN a b i ≤ 48) ∧ onB wd hg (placeP i (lineP i k a b) (wholeP i k a b / axN a b i)) = true ∧ (0 < wholeP i k a b % axN a b i → onB wd hg (placeP i (lineP i k a b) (wholeP i k a b / axN a b i + 1)) = true) ∧
    grP g wd (axN a b i) k a b = if 0 < wholeP i k a b % axN a b i then hAt g wd (placeP i (lineP i k a b) (wholeP i k a b / axN a b i)) * (axN a b i - wholeP i k a b % axN a b i) + hAt g wd (placeP i (lineP i k a b) (wholeP i k a b / axN a b i + 1)) * (wholeP i k a b % axN a b i) else hAt g wd (placeP i (lineP i k a b) (wholeP i k a b / axN a b i)) * axN a b i := by
  obtain ⟨a1, a2, a3, a4⟩ := onB_ok ha
  obtain ⟨b1, b2, b3, b4⟩ := onB_ok hb
  obtain ⟨v1, v2, v3, v4, _, _⟩ := vmB_ok hm
  have d1 := dist_bd (a := a.1) (b := b.1) (by omega) (by omega)
  have d2 := dist_bd (a := a.2) (b := b.2) (by omega) (by omega)
  have hn : 1 ≤ axN a b i := by omega
  have key : ∀ (n l x : Int) (lo hi' : Pl), 1 ≤ n → lo = placeP i l (x / n) → hi' = placeP i l (if 0 < x % n then x / n + 1 else x / n) →
      (n - x % n) * hAt g wd lo + x % n * hAt g wd hi' = if 0 < x % n then hAt g wd (placeP i l (x / n)) * (n - x % n) + hAt g wd (placeP i l (x / n + 1)) * (x % n) else hAt g wd (placeP i l (x / n)) * n := by
    rintro n l x lo hi' h0 rfl rfl
    have h1 := Int.emod_nonneg x (show n ≠ 0 by omega)
    by_cases hr : 0 < x % n
    · rw [if_pos hr, if_pos hr, Int.mul_comm, Int.mul_comm (x % n)]
    · rw [if_neg hr, if_neg hr, show x % n = 0 by omega, Int.zero_mul, Int.sub_zero, Int.mul_comm]; omega
  have hz : ∀ n l : Int, 1 ≤ n → (n * l) % n = 0 := fun n l h => Int.mul_emod_right ..
  have hq : ∀ n l : Int, 1 ≤ n → (n * l) / n = l := fun n l h => Int.mul_ediv_cancel_left _ (by omega)
  rcases hi with rfl | rfl
  · have eL : atP (axN a b 0) k a.1 b.1 = axN a b 0 * lineP 0 k a b := at_line a.1 b.1 k
    have eW : atP (axN a b 0) k a.2 b.2 = wholeP 0 k a b := at_whole _ _ _ _
    have B1 := atP_bd (n := axN a b 0) (k := k) (f := a.2) (t := b.2) (m := hg) (by omega) (by omega) hn ⟨a3, a4⟩ ⟨b3, b4⟩
    rw [eW] at B1
    have hL : 0 ≤ lineP 0 k a b ∧ lineP 0 k a b < wd := by
      have e : axN a b 0 = dist a.1 b.1 := rfl
      rw [e] at hk
      unfold lineP pickL dist at *
      simp only [if_pos] at *
      split <;> omega
    obtain ⟨D1, D2, D3⟩ := rest_bd hn B1.1 B1.2
    have m1 : axN a b 0 * (hg - 1) ≤ 48 * 48 := Int.mul_le_mul (by unfold axN; rw [if_pos rfl]; omega) (by omega) (by omega) (by omega)
    refine ⟨by omega, by omega, by omega, onB_mk (by rw [place0]; simp only; omega), fun hr => onB_mk (by have := D3 hr; rw [place0]; simp only; omega), ?_⟩
    unfold grP beyP
    rw [eL, eW, hz _ _ hn, Int.zero_add]
    refine key _ _ _ _ _ hn ?_ ?_
    · unfold loP; rw [eL, eW, hq _ _ hn, place0]
    · unfold hiP; rw [eL, eW, up_line hn, up_whole hn, place0]
  · have eL : atP (axN a b 1) k a.2 b.2 = axN a b 1 * lineP 1 k a b := at_line a.2 b.2 k
    have eW : atP (axN a b 1) k a.1 b.1 = wholeP 1 k a b := at_whole _ _ _ _
    have B1 := atP_bd (n := axN a b 1) (k := k) (f := a.1) (t := b.1) (m := wd) (by omega) (by omega) hn ⟨a1, a2⟩ ⟨b1, b2⟩
    rw [eW] at B1
    have hL : 0 ≤ lineP 1 k a b ∧ lineP 1 k a b < hg := by
      have e : axN a b 1 = dist a.2 b.2 := rfl
      rw [e] at hk
      unfold lineP pickL dist at *
      simp only [Nat.one_ne_zero, if_neg, not_false_eq_true] at *
      split <;> omega
    obtain ⟨D1, D2, D3⟩ := rest_bd hn B1.1 B1.2
    have m1 : axN a b 1 * (wd - 1) ≤ 48 * 48 := Int.mul_le_mul (by unfold axN; rw [if_neg (by decide)]; omega) (by omega) (by omega) (by omega)
    refine ⟨by omega, by omega, by omega, onB_mk (by rw [place1]; simp only; omega), fun hr => onB_mk (by have := D3 hr; rw [place1]; simp only; omega), ?_⟩
    unfold grP beyP
    rw [eL, eW, hz _ _ hn, Int.add_zero]
    refine key _ _ _ _ _ hn ?_ ?_
    · unfold loP; rw [eL, eW, hq _ _ hn, place1]
    · unfold hiP; rw [eL, eW, up_line hn, up_whole hn, place1]
end Go.Proofs.Ytnacgogcbbpjmaa

/-! Theory of ridge: the list that the reference's line builds. -/
set_option linter.unusedVariables false
set_option linter.unusedSimpArgs false
namespace Go.Proofs.Ytnacgogcbbpjmaa
open Go Go.RowKit

/-- The crossings that were put in order, ahead of the crossing of an axis with a step. -/
structure StL (dx dy i s : Nat) (L : List (Nat × Nat)) : Prop where
  pw : L.Pairwise (ltC dx dy)
  mem : ∀ y, y ∈ L ↔ isC dx dy y ∧ (y.1 < i ∨ y.1 = i ∧ y.2 < s)
  len : L.length + 1 ≤ 48 * i + s
theorem StL.start (dx dy : Nat) : StL dx dy 0 1 [] := ⟨List.Pairwise.nil, fun y => by
  simp only [List.not_mem_nil, false_iff]
  rintro ⟨h1, h2⟩
  unfold isC at h1
  omega, by simp⟩
theorem StL.next {dx dy i : Nat} {L : List (Nat × Nat)} (h : StL dx dy i 49 L) (h1 : dx ≤ 48) (h2 : dy ≤ 48) : StL dx dy (i + 1) 1 L := ⟨h.pw, fun y => by
  rw [h.mem]
  unfold isC
  omega, by have := h.len; omega⟩
theorem StL.skip {dx dy i s : Nat} {L : List (Nat × Nat)} (h : StL dx dy i s L) (hn : ¬ isC dx dy (i, s)) : StL dx dy i (s + 1) L := ⟨h.pw, fun y => by
  rw [h.mem]
  constructor
  · rintro ⟨h1, h2⟩; exact ⟨h1, by omega⟩
  · rintro ⟨h1, h2⟩
    refine ⟨h1, ?_⟩
    by_cases e : y = (i, s)
    · subst e; exact absurd h1 hn
    · have : ¬ (y.1 = i ∧ y.2 = s) := fun ⟨e1, e2⟩ => e (Prod.ext e1 e2)
      omega, by have := h.len; omega⟩
theorem StL.put {dx dy i s k : Nat} {L : List (Nat × Nat)} (h : StL dx dy i s L) (hc : isC dx dy (i, s)) (hk : k ≤ L.length)
    (h1 : ∀ j (hj : j < L.length), k ≤ j → keyC dx dy (i, s) < keyC dx dy L[j]) (h2 : k = 0 ∨ ∃ hj : k - 1 < L.length, ¬ keyC dx dy (i, s) < keyC dx dy L[k - 1]) : StL dx dy i (s + 1) (L.take k ++ (i, s) :: L.drop k) := by
  refine ⟨ins_sorted h.pw hk hc (fun y hy => ?_) h1 h2, fun y => ?_, ?_⟩
  · have := (h.mem y).1 hy
    exact ⟨this.1, this.2⟩
  · have e : y ∈ L.take k ++ (i, s) :: L.drop k ↔ y = (i, s) ∨ y ∈ L := by
      rw [List.mem_append, List.mem_cons]
      conv => rhs; rw [← List.take_append_drop k L, List.mem_append]
      constructor
      · rintro (h | h | h) <;> simp [h]
      · rintro (h | h | h) <;> simp [h]
    rw [e, h.mem]
    constructor
    · rintro (rfl | ⟨h1, h2⟩)
      · exact ⟨hc, by simp⟩
      · exact ⟨h1, by omega⟩
    · rintro ⟨h1, h2⟩
      by_cases e : y = (i, s)
      · exact .inl e
      · have : ¬ (y.1 = i ∧ y.2 = s) := fun ⟨e1, e2⟩ => e (Prod.ext e1 e2)
        exact .inr ⟨h1, by omega⟩
  · have := h.len
    simp only [List.length_append, List.length_take, List.length_cons, List.length_drop]
    omega
theorem StL.done {dx dy : Nat} {L : List (Nat × Nat)} (h : StL dx dy 2 1 L) : L = crsM dx dy 1 1 := crsM_unique h.pw fun y => by
  rw [h.mem]
  unfold isC
  omega
/-- The list while its elements are shifted to make room at k. -/
def shL {α : Type} (L : List α) (x : α) (i : Nat) : List α := (L ++ [x]).take (i + 1) ++ L.drop i
theorem shL_len {α : Type} (L : List α) (x : α) {i : Nat} (hi : i ≤ L.length) : (shL L x i).length = L.length + 1 := by
  unfold shL; simp; omega
theorem shL_top {α : Type} (L : List α) (x : α) : shL L x L.length = L ++ [x] := by
  unfold shL
  rw [List.take_of_length_le (by simp), List.drop_length, List.append_nil]
theorem shL_get {α : Type} (L : List α) (x : α) {i : Nat} (hi : i < L.length) : (shL L x (i + 1))[i]? = L[i]? := by
  unfold shL
  rw [List.getElem?_append_left (by simp; omega), List.getElem?_take_of_lt (by omega), List.getElem?_append_left hi]
theorem shL_step {α : Type} (L : List α) (x : α) {i : Nat} (hi : i < L.length) : (shL L x (i + 1)).set (i + 1) L[i] = shL L x i := by
  apply List.ext_getElem?
  intro j
  rw [List.getElem?_set]
  have hl := shL_len L x (show i + 1 ≤ L.length from hi)
  by_cases e : i + 1 = j
  · subst e
    rw [if_pos rfl, if_pos (by omega)]
    unfold shL
    rw [List.getElem?_append_right (by simp; omega)]
    simp only [List.length_take, List.length_append, List.length_cons, List.length_nil]
    rw [show i + 1 - min (i + 1) (L.length + (0 + 1)) = 0 by omega, List.getElem?_drop]
    rw [Nat.add_zero, List.getElem?_eq_getElem hi]
  · rw [if_neg e]
    unfold shL
    by_cases h1 : j ≤ i
    · rw [List.getElem?_append_left (by simp; omega), List.getElem?_append_left (by simp; omega), List.getElem?_take_of_lt (by omega), List.getElem?_take_of_lt (by omega)]
    · rw [List.getElem?_append_right (by simp; omega), List.getElem?_append_right (by simp; omega)]
      simp only [List.length_take, List.length_append, List.length_cons, List.length_nil, List.getElem?_drop]
      congr 1
      omega
theorem shL_end {α : Type} (L : List α) (x : α) {k : Nat} (hk : k ≤ L.length) : (shL L x k).set k x = L.take k ++ x :: L.drop k := by
  apply List.ext_getElem?
  intro j
  rw [List.getElem?_set]
  have hl := shL_len L x hk
  by_cases e : k = j
  · subst e
    rw [if_pos rfl, if_pos (by omega), List.getElem?_append_right (by simp; omega)]
    simp only [List.length_take]
    rw [show k - min k L.length = 0 by omega]; rfl
  · rw [if_neg e]
    unfold shL
    by_cases h1 : j < k
    · rw [List.getElem?_append_left (by simp; omega), List.getElem?_append_left (by simp; omega), List.getElem?_take_of_lt (by omega), List.getElem?_take_of_lt (by omega), List.getElem?_append_left (by omega)]
    · rw [List.getElem?_append_right (by simp; omega), List.getElem?_append_right (by simp; omega)]
      simp only [List.length_take, List.length_append, List.length_cons, List.length_nil]
      rw [show j - min (k + 1) (L.length + (0 + 1)) = j - k - 1 by omega, show j - min k L.length = (j - k - 1) + 1 by omega, List.getElem?_cons_succ]
theorem pfs_at6 : ∀ (l : List Mt) (i j : Nat) (hi : i < l.length), j < 6 → (pfs l)[6 * i + j]? = some ((pfL (l[i])).getD j undef)
  | [], i, j, hi, _ => absurd hi (by simp)
  | x :: t, 0, j, _, hj => by
    rcases (by omega : j = 0 ∨ j = 1 ∨ j = 2 ∨ j = 3 ∨ j = 4 ∨ j = 5) with rfl | rfl | rfl | rfl | rfl | rfl <;> rfl
  | x :: t, i + 1, j, hi, hj => by
    have h := pfs_at6 t i j (by simpa using hi) hj
    rw [show 6 * (i + 1) + j = 6 * i + j + 6 by omega]
    exact h
theorem pf_form {w : World} {base : Nat} {v : Value} {l : List Mt} (h : w.ownsRow base 71 6 v l.length (pfs l)) : ∃ a cap, v = .slice a l.length cap ∧ ∀ i (hi : i < l.length), ∃ gb, a = some ⟨gb, 0, none⟩ ∧ gb < w.heap.size ∧ ∀ j, j < 6 → w.cell? ⟨gb, i * 6 + j, none⟩ = some ((pfL (l[i])).getD j undef) := by
  have h' := h
  rcases h.2 with ⟨h0, hn⟩ | ⟨gb, cap, cur, hv, hg, hb, _⟩
  · exact ⟨none, 0, by rw [hn]; exact h0, fun i hi => by omega⟩
  · subst hv
    refine ⟨_, cap, rfl, fun i hi => ⟨gb, rfl, (Array.getElem?_eq_some_iff.1 hb).1, fun j hj => ?_⟩⟩
    have e := pfs_at6 l i j hi hj
    have hlt : 6 * i + j < (pfs l).length := by
      rcases Nat.lt_or_ge (6 * i + j) (pfs l).length with k | k
      · exact k
      · rw [List.getElem?_eq_none k] at e; cases e
    have hl6 : (pfs l).length = l.length * 6 := h.1
    have := World.ownsRow.cellAt h' (6 * i + j) (by omega)
    rw [show i * 6 + j = 6 * i + j by omega, this, ← e, List.getElem?_eq_getElem hlt]
theorem pf_formL {w : World} {base : Nat} {v : Value} {L : List (Nat × Nat)} {f : Nat × Nat → Mt} (h : w.ownsRow base 71 6 v L.length (pfs (L.map f))) : ∃ a cap, v = .slice a L.length cap ∧ ∀ i (hi : i < L.length), ∃ gb, a = some ⟨gb, 0, none⟩ ∧ gb < w.heap.size ∧ ∀ j, j < 6 → w.cell? ⟨gb, i * 6 + j, none⟩ = some ((pfL (f (L[i]))).getD j undef) := by
  obtain ⟨a, cap, e, h2⟩ := pf_form (l := L.map f) (by rw [List.length_map]; exact h)
  rw [List.length_map] at e
  refine ⟨a, cap, e, fun i hi => ?_⟩
  obtain ⟨gb, e1, e2, e3⟩ := h2 i (by rw [List.length_map]; exact hi)
  refine ⟨gb, e1, e2, fun j hj => ?_⟩
  rw [e3 j hj, List.getElem_map]
theorem pf_cell {w : World} {base g n cap : Nat} {M : List Mt} (h : w.ownsRow base 71 6 (.slice (some ⟨g, 0, none⟩) n cap) n (pfs M)) {i : Nat} {y : Mt} (hy : M[i]? = some y) {j : Nat} (hj : j < 6) : w.cell? ⟨g, i * 6 + j, none⟩ = some ((pfL y).getD j undef) := by
  obtain ⟨hi, e⟩ := List.getElem?_eq_some_iff.1 hy
  have e2 := pfs_at6 M i j hi hj
  have hlt : 6 * i + j < (pfs M).length := by
    rcases Nat.lt_or_ge (6 * i + j) (pfs M).length with k | k
    · exact k
    · rw [List.getElem?_eq_none k] at e2; cases e2
  have hl6 : (pfs M).length = n * 6 := h.1
  rw [show i * 6 + j = 6 * i + j by omega, World.ownsRow.cellAt h (6 * i + j) (by omega), e2, e]
theorem loop_nums {K m l : Nat} (h1 : K < m) (h2 : m ≤ l) : ∃ p, m = p + 1 ∧ p < l ∧ K ≤ p ∧ p ≤ l ∧ ((K : Nat) : Int) < (m : Int) ∧ (m : Int) < (l : Int) + 1 ∧ m < l + 1 ∧ (m : Int) - 1 = (p : Int) := ⟨m - 1, by omega⟩
theorem meas_down (q : Nat) : (intOf (Value.int .i64 (q : Int))).toNat < (intOf (Value.int .i64 ((q + 1 : Nat) : Int))).toNat := by simp only [intOf]; omega
theorem ins_len {α : Type} (L : List α) (x : α) {k : Nat} (h : k ≤ L.length) : (L.take k ++ x :: L.drop k).length = L.length + 1 := by
  simp only [List.length_append, List.length_take, List.length_cons, List.length_drop]; omega
theorem pfs_set : ∀ (M : List Mt) (i : Nat) (y : Mt), i < M.length → ((((((pfs M).set (i * 6) (.int .i64 y.ax)).set (i * 6 + 1) (.int .i64 y.k)).set (i * 6 + 2) (.int .i64 (lowP y.k y.n).1)).set (i * 6 + 3) (.int .i64 (lowP y.k y.n).2)).set (i * 6 + 4) (.int .i64 (lowP y.g y.n).1)).set (i * 6 + 5) (.int .i64 (lowP y.g y.n).2) = pfs (M.set i y)
  | [], i, y, hi => absurd hi (by simp)
  | x :: t, 0, y, _ => rfl
  | x :: t, i + 1, y, hi => by
    have h := pfs_set t i y (by simpa using hi)
    rw [List.set_cons_succ]
    show _ = pfL x ++ pfs (t.set i y)
    rw [← h, show (i + 1) * 6 = i * 6 + 6 by omega]
    rfl
theorem pf_stored {W : World} {base g n cap : Nat} {M : List Mt} (h : W.ownsRow base 71 6 (.slice (some ⟨g, 0, none⟩) n cap) n (pfs M)) {i : Nat} (hi : i < M.length) (y : Mt) :
    ((((((W.setCell ⟨g, i * 6, none⟩ (.int .i64 y.ax)).setCell ⟨g, i * 6 + 1, none⟩ (.int .i64 y.k)).setCell ⟨g, i * 6 + 2, none⟩ (.int .i64 (lowP y.k y.n).1)).setCell ⟨g, i * 6 + 3, none⟩ (.int .i64 (lowP y.k y.n).2)).setCell ⟨g, i * 6 + 4, none⟩ (.int .i64 (lowP y.g y.n).1)).setCell ⟨g, i * 6 + 5, none⟩ (.int .i64 (lowP y.g y.n).2)).ownsRow base 71 6 (.slice (some ⟨g, 0, none⟩) n cap) n (pfs (M.set i y)) := by
  rw [← pfs_set M i y hi]
  exact ((((((h.stored _ _).1.stored _ _).1.stored _ _).1.stored _ _).1.stored _ _).1.stored _ _).1
end Go.Proofs.Ytnacgogcbbpjmaa
