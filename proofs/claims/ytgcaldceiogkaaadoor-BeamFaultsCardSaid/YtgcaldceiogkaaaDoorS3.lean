/- One fault in the signal of a word makes no other signal. Plain. -/
import Derived.Test.YtgcaldceiogkaaaDoorS1
namespace Go.Proofs.YtgcaldceiogkaaaDoor

/-! ### What a fault does to the pieces between pauses -/
theorem split_end : ∀ a : List UInt8, ∃ i l, splitB 47 a = i ++ [l] ∧ ∀ t h q, splitB 47 t = h :: q → splitB 47 (a ++ t) = i ++ (l ++ h) :: q
  | [] => ⟨[], [], rfl, fun t h q e => by simpa using e⟩
  | b :: a => by
    obtain ⟨i, l, e, f⟩ := split_end a
    by_cases hb : (b == 47) = true
    · refine ⟨[] :: i, l, by simp [splitB, hb, e], fun t h q k => ?_⟩
      have := f t h q k
      simp [splitB, hb, this]
    · have hb' : (b == 47) = false := by simpa using hb
      cases i with
      | nil =>
        refine ⟨[], b :: l, by simp [splitB, hb', e], fun t h q k => ?_⟩
        have := f t h q k
        simp [splitB, hb', this]
      | cons i0 i =>
        refine ⟨(b :: i0) :: i, l, by simp [splitB, hb', e], fun t h q k => ?_⟩
        have := f t h q k
        simp [splitB, hb', this]

/-- The ways in which pieces part. -/
inductive Parts1 (S R : List (List UInt8)) : Prop
  | same (h : S = R)
  | one (i : List (List UInt8)) (c d : List UInt8) (q : List (List UInt8)) (hS : S = i ++ c :: q) (hR : R = i ++ d :: q) (h : c ≠ d)
  | two (i : List (List UInt8)) (c c' d d' : List UInt8) (q : List (List UInt8)) (hS : S = i ++ c :: c' :: q) (hR : R = i ++ d :: d' :: q) (h : c ≠ d) (h' : c' ≠ d')
  | merge (i : List (List UInt8)) (c c' d : List UInt8) (q : List (List UInt8)) (hS : S = i ++ c :: c' :: q) (hR : R = i ++ d :: q)
  | more (i : List (List UInt8)) (c c' : List UInt8) (q : List (List UInt8)) (hS : S = i ++ c :: c' :: q) (hR : R = i ++ c :: [] :: c' :: q)

theorem split_cons (t : List UInt8) : ∃ h q, splitB 47 t = h :: q := List.exists_cons_of_ne_nil (splitB_ne 47 t)
theorem split_no {x : UInt8} (hx : (x == 47) = false) {t h : List UInt8} {q : List (List UInt8)} (e : splitB 47 t = h :: q) : splitB 47 (x :: t) = (x :: h) :: q := by simp [splitB, hx, e]
theorem split_yes {x : UInt8} (hx : (x == 47) = true) {t h : List UInt8} {q : List (List UInt8)} (e : splitB 47 t = h :: q) : splitB 47 (x :: t) = [] :: h :: q := by simp [splitB, hx, e]
theorem app_ne {l a b : List UInt8} (h : a.length ≠ b.length) : l ++ a ≠ l ++ b := fun e => h (by have := congrArg List.length e; simpa using this)

theorem lost_parts (a : List UInt8) (x : UInt8) (b : List UInt8) : Parts1 (splitB 47 (a ++ x :: b)) (splitB 47 (a ++ b)) := by
  obtain ⟨i, l, _, f⟩ := split_end a
  obtain ⟨h, q, e⟩ := split_cons b
  cases hx : (x == 47)
  · exact .one i _ _ q (f _ _ _ (split_no hx e)) (f _ _ _ e) (app_ne (by simp))
  · exact .merge i _ _ _ q (f _ _ _ (split_yes hx e)) (f _ _ _ e)
theorem doub_parts (a : List UInt8) (x : UInt8) (b : List UInt8) : Parts1 (splitB 47 (a ++ x :: b)) (splitB 47 (a ++ x :: x :: b)) := by
  obtain ⟨i, l, _, f⟩ := split_end a
  obtain ⟨h, q, e⟩ := split_cons b
  cases hx : (x == 47)
  · exact .one i _ _ q (f _ _ _ (split_no hx e)) (f _ _ _ (split_no hx (split_no hx e))) (app_ne (by simp))
  · exact .more i _ _ q (f _ _ _ (split_yes hx e)) (f _ _ _ (split_yes hx (split_yes hx e)))
theorem swap_parts (a : List UInt8) (x y : UInt8) (b : List UInt8) : Parts1 (splitB 47 (a ++ x :: y :: b)) (splitB 47 (a ++ y :: x :: b)) := by
  by_cases exy : x = y
  · subst exy; exact .same rfl
  obtain ⟨i, l, _, f⟩ := split_end a
  obtain ⟨h, q, e⟩ := split_cons b
  cases hx : (x == 47) <;> cases hy : (y == 47)
  · refine .one i _ _ q (f _ _ _ (split_no hx (split_no hy e))) (f _ _ _ (split_no hy (split_no hx e))) (fun k => exy ?_)
    have := List.append_cancel_left k
    simpa using (List.cons.inj this).1
  · exact .two i _ _ _ _ q (f _ _ _ (split_no hx (split_yes hy e))) (f _ _ _ (split_yes hy (split_no hx e))) (app_ne (by simp)) (by intro k; have := congrArg List.length k; simp at this)
  · exact .two i _ _ _ _ q (f _ _ _ (split_yes hx (split_no hy e))) (f _ _ _ (split_no hy (split_yes hx e))) (app_ne (by simp)) (by intro k; have := congrArg List.length k; simp at this)
  · exact absurd ((by simpa using hx : x = 47).trans (by simpa using hy : y = 47).symm) exy

/-! ### Sums -/
theorem sum_one {f g : Nat → Int} {j : Nat} : ∀ n : Nat, (∀ i, i < n → i ≠ j → f i = g i) → j < n → sumTo f n - sumTo g n = f j - g j
  | 0, _, h => absurd h (by omega)
  | n + 1, he, h => by
    simp only [sumTo]
    by_cases e : j = n
    · subst e
      rw [sumTo_congr j (fun i hi => he i (by omega) (by omega))]; omega
    · have := sum_one n (fun i hi hj => he i (by omega) hj) (by omega)
      have := he n (by omega) (fun k => e k.symm)
      omega
theorem sum_two {f g : Nat → Int} {j n : Nat} (he : ∀ i, i < n → i ≠ j → i ≠ j + 1 → f i = g i) (h : j + 1 < n) : sumTo f n - sumTo g n = (f j - g j) + (f (j + 1) - g (j + 1)) := by
  have h1 := sum_one (f := f) (g := fun i => if i = j then g j else f i) (j := j) n (fun i _ hj => by simp [hj]) (by omega)
  have h2 := sum_one (f := fun i => if i = j then g j else f i) (g := g) (j := j + 1) n (fun i hi hj => by
    by_cases e : i = j
    · subst e; simp
    · simp [e, he i hi e hj]) h
  simp only [if_true] at h1
  simp only [show ¬ (j + 1 = j) by omega, if_false] at h2
  omega
theorem sum_shift (f : Nat → Int) : ∀ n : Nat, sumTo f (n + 1) = f 0 + sumTo (fun i => f (i + 1)) n
  | 0 => by simp [sumTo]
  | n + 1 => by
    have := sum_shift f n
    rw [sumTo, this]; simp only [sumTo]; omega

/-! ### The text of a word, sign by sign -/
def sgn (v : Int) : UInt8 := signsL.getD (v % 29).toNat 0
theorem sgn_inj {v v' : Int} (h : sgn v = sgn v') : v % 29 = v' % 29 := by
  have : ∀ a b : Fin 29, signsL.getD a 0 = signsL.getD b 0 → (a : Nat) = b := by decide +kernel
  have h1 := Int.emod_nonneg v (show (29 : Int) ≠ 0 by decide)
  have h2 := Int.emod_lt_of_pos v (show (0 : Int) < 29 by decide)
  have h3 := Int.emod_nonneg v' (show (29 : Int) ≠ 0 by decide)
  have h4 := Int.emod_lt_of_pos v' (show (0 : Int) < 29 by decide)
  have := this ⟨(v % 29).toNat, by omega⟩ ⟨(v' % 29).toNat, by omega⟩ h
  simp at this
  omega
theorem text_0 (w : List UInt8) : (textL w).getD 0 0 = sgn w.length := rfl
theorem text_w (w : List UInt8) (i : Nat) (hi : i < w.length) : (textL w).getD (i + 1) 0 = w.getD i 0 := by
  unfold textL aheadL signL
  simp [List.getElem?_append, hi]
theorem text_p (w : List UInt8) : (textL w).getD (w.length + 1) 0 = sgn (plainK w w.length) := by
  unfold textL aheadL behindL signL sgn
  simp [List.getElem?_append]
theorem text_q (w : List UInt8) : (textL w).getD (w.length + 2) 0 = sgn (weighK w w.length) := by
  unfold textL aheadL behindL signL sgn
  simp [List.getElem?_append]

/-- The pieces of the signal of a word. -/
def pcs (w : List UInt8) : List (List UInt8) := (textL w).map cdOf ++ [[], []]
theorem split_signal (w : List UInt8) : splitB 47 (signalL w) = pcs w := by
  refine joinB_inj (split_free _) ?_ ((joinB_split _).trans ?_)
  · intro c hc
    rcases List.mem_append.1 hc with h | h
    · exact cds_free _ c h
    · simp at h; rw [h]; simp
  · unfold pcs; rw [joinB_app, signal_join]; simp [joinB]
theorem pcs_length (w : List UInt8) : (pcs w).length = w.length + 5 := by unfold pcs; simp [textL_length]
theorem pcs_at (w : List UInt8) (i : Nat) (hi : i < w.length + 3) : (pcs w).getD i [] = cdOf ((textL w).getD i 0) := by
  have hl := textL_length w
  unfold pcs
  rw [List.getD_eq_getElem?_getD, List.getElem?_append_left (by simp; omega), List.getElem?_map, List.getD_eq_getElem?_getD, List.getElem?_eq_getElem (by omega)]
  rfl
theorem pcs_end (w : List UInt8) (i : Nat) (hi : w.length + 3 ≤ i) : (pcs w).getD i [] = [] := by
  have hl := textL_length w
  unfold pcs
  rw [List.getD_eq_getElem?_getD, List.getElem?_append_right (by simp; omega)]
  match i - (List.map cdOf (textL w)).length with
  | 0 => rfl
  | 1 => rfl
  | n + 2 => rfl
theorem text_val {w : List UInt8} (hw : wordB w = true) (i : Nat) (hi : i < w.length + 3) : 0 ≤ valI ((textL w).getD i 0) := by
  have hl := textL_length w
  rw [List.getD_eq_getElem?_getD, List.getElem?_eq_getElem (by omega)]
  exact valI_text hw _ (List.getElem_mem _)
theorem pcs_ne {w : List UInt8} (hw : wordB w = true) (i : Nat) (hi : i < w.length + 3) : (pcs w).getD i [] ≠ [] := by
  rw [pcs_at w i hi]; exact code_ne _ (val_nat (text_val hw i hi))
theorem pcs_eq {w x : List UInt8} (hw : wordB w = true) (hx : wordB x = true) (i j : Nat) (hi : i < w.length + 3) (hj : j < x.length + 3) (h : (pcs w).getD i [] = (pcs x).getD j []) : (textL w).getD i 0 = (textL x).getD j 0 := by
  rw [pcs_at w i hi, pcs_at x j hj] at h
  exact cd_inj (text_val hw i hi) (text_val hx j hj) h
theorem mid_lt {α : Type} (i q : List α) (k : Nat) (z : α) (h : k < i.length) : (i ++ q).getD k z = i.getD k z := by
  rw [List.getD_eq_getElem?_getD, List.getElem?_append_left h, List.getD_eq_getElem?_getD]
theorem mid_ge {α : Type} (i q : List α) (k : Nat) (z : α) : (i ++ q).getD (i.length + k) z = q.getD k z := by
  rw [List.getD_eq_getElem?_getD, List.getElem?_append_right (by omega), List.getD_eq_getElem?_getD]; congr 2; omega
end Go.Proofs.YtgcaldceiogkaaaDoor
