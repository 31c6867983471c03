/- One fault in the signal of a word makes no other signal. Plain. -/
import Derived.Test.YtjbdmlpadoiicaaGreatDoorS1
import Derived.Test.YtjbdmlpadoiicaaGreatDoorC0
set_option linter.unusedVariables false
set_option linter.unusedSimpArgs false
namespace Go.Proofs.YtjbdmlpadoiicaaGreatDoor

/-! ### What a fault does to the pieces between pauses -/
theorem split_end : ∀ a : List UInt8, ∃ i l, splitB 47 a = i ++ [l] ∧ ∀ t h q, splitB 47 t = h :: q → splitB 47 (a ++ t) = i ++ (l ++ h) :: q
  | [] => ⟨[], [], rfl, fun t h q e => by simpa using e⟩
  | b :: a => by
    obtain ⟨i, l, e, f⟩ := split_end a
    by_cases hb : (b == 47) = true
    · refine ⟨[] :: i, l, by simp [splitB, hb, e], fun t h q k => ?_⟩
      have := f t h q k
      simp [splitB, hb, this]
    · have hb' : (b == 47) = false := by simpa using hb
      cases i with
      | nil =>
        refine ⟨[], b :: l, by simp [splitB, hb', e], fun t h q k => ?_⟩
        have := f t h q k
        simp [splitB, hb', this]
      | cons i0 i =>
        refine ⟨(b :: i0) :: i, l, by simp [splitB, hb', e], fun t h q k => ?_⟩
        have := f t h q k
        simp [splitB, hb', this]

/-- The ways in which pieces part. -/
inductive Parts1 (S R : List (List UInt8)) : Prop
  | same (h : S = R)
  | one (i : List (List UInt8)) (c d : List UInt8) (q : List (List UInt8)) (hS : S = i ++ c :: q) (hR : R = i ++ d :: q) (h : c ≠ d)
  | two (i : List (List UInt8)) (c c' d d' : List UInt8) (q : List (List UInt8)) (hS : S = i ++ c :: c' :: q) (hR : R = i ++ d :: d' :: q) (h : c ≠ d) (h' : c' ≠ d')
  | merge (i : List (List UInt8)) (c c' d : List UInt8) (q : List (List UInt8)) (hS : S = i ++ c :: c' :: q) (hR : R = i ++ d :: q)
  | more (i : List (List UInt8)) (c c' : List UInt8) (q : List (List UInt8)) (hS : S = i ++ c :: c' :: q) (hR : R = i ++ c :: [] :: c' :: q)

theorem split_cons (t : List UInt8) : ∃ h q, splitB 47 t = h :: q := List.exists_cons_of_ne_nil (splitB_ne 47 t)
theorem split_no {x : UInt8} (hx : (x == 47) = false) {t h : List UInt8} {q : List (List UInt8)} (e : splitB 47 t = h :: q) : splitB 47 (x :: t) = (x :: h) :: q := by simp [splitB, hx, e]
theorem split_yes {x : UInt8} (hx : (x == 47) = true) {t h : List UInt8} {q : List (List UInt8)} (e : splitB 47 t = h :: q) : splitB 47 (x :: t) = [] :: h :: q := by simp [splitB, hx, e]
theorem app_ne {l a b : List UInt8} (h : a.length ≠ b.length) : l ++ a ≠ l ++ b := fun e => h (by have := congrArg List.length e; simpa using this)

theorem lost_parts (a : List UInt8) (x : UInt8) (b : List UInt8) : Parts1 (splitB 47 (a ++ x :: b)) (splitB 47 (a ++ b)) := by
  obtain ⟨i, l, _, f⟩ := split_end a
  obtain ⟨h, q, e⟩ := split_cons b
  cases hx : (x == 47)
  · exact .one i _ _ q (f _ _ _ (split_no hx e)) (f _ _ _ e) (app_ne (by simp))
  · exact .merge i _ _ _ q (f _ _ _ (split_yes hx e)) (f _ _ _ e)
theorem doub_parts (a : List UInt8) (x : UInt8) (b : List UInt8) : Parts1 (splitB 47 (a ++ x :: b)) (splitB 47 (a ++ x :: x :: b)) := by
  obtain ⟨i, l, _, f⟩ := split_end a
  obtain ⟨h, q, e⟩ := split_cons b
  cases hx : (x == 47)
  · exact .one i _ _ q (f _ _ _ (split_no hx e)) (f _ _ _ (split_no hx (split_no hx e))) (app_ne (by simp))
  · exact .more i _ _ q (f _ _ _ (split_yes hx e)) (f _ _ _ (split_yes hx (split_yes hx e)))
theorem swap_parts (a : List UInt8) (x y : UInt8) (b : List UInt8) : Parts1 (splitB 47 (a ++ x :: y :: b)) (splitB 47 (a ++ y :: x :: b)) := by
  by_cases exy : x = y
  · subst exy; exact .same rfl
  obtain ⟨i, l, _, f⟩ := split_end a
  obtain ⟨h, q, e⟩ := split_cons b
  cases hx : (x == 47) <;> cases hy : (y == 47)
  · refine .one i _ _ q (f _ _ _ (split_no hx (split_no hy e))) (f _ _ _ (split_no hy (split_no hx e))) (fun k => exy ?_)
    have := List.append_cancel_left k
    simpa using (List.cons.inj this).1
  · exact .two i _ _ _ _ q (f _ _ _ (split_no hx (split_yes hy e))) (f _ _ _ (split_yes hy (split_no hx e))) (app_ne (by simp)) (by intro k; have := congrArg List.length k; simp at this)
  · exact .two i _ _ _ _ q (f _ _ _ (split_yes hx (split_no hy e))) (f _ _ _ (split_no hy (split_yes hx e))) (app_ne (by simp)) (by intro k; have := congrArg List.length k; simp at this)
  · exact absurd ((by simpa using hx : x = 47).trans (by simpa using hy : y = 47).symm) exy

/-! ### Sums -/
theorem sum_one {f g : Nat → Int} {j : Nat} : ∀ n : Nat, (∀ i, i < n → i ≠ j → f i = g i) → j < n → sumTo f n - sumTo g n = f j - g j
  | 0, _, h => absurd h (by omega)
  | n + 1, he, h => by
    simp only [sumTo]
    by_cases e : j = n
    · subst e
      rw [sumTo_congr j (fun i hi => he i (by omega) (by omega))]; omega
    · have := sum_one n (fun i hi hj => he i (by omega) hj) (by omega)
      have := he n (by omega) (fun k => e k.symm)
      omega
theorem sum_two {f g : Nat → Int} {j n : Nat} (he : ∀ i, i < n → i ≠ j → i ≠ j + 1 → f i = g i) (h : j + 1 < n) : sumTo f n - sumTo g n = (f j - g j) + (f (j + 1) - g (j + 1)) := by
  have h1 := sum_one (f := f) (g := fun i => if i = j then g j else f i) (j := j) n (fun i _ hj => by simp [hj]) (by omega)
  have h2 := sum_one (f := fun i => if i = j then g j else f i) (g := g) (j := j + 1) n (fun i hi hj => by
    by_cases e : i = j
    · subst e; simp
    · simp [e, he i hi e hj]) h
  simp only [if_true] at h1
  simp only [show ¬ (j + 1 = j) by omega, if_false] at h2
  omega
theorem sum_shift (f : Nat → Int) : ∀ n : Nat, sumTo f (n + 1) = f 0 + sumTo (fun i => f (i + 1)) n
  | 0 => by simp [sumTo]
  | n + 1 => by
    have := sum_shift f n
    rw [sumTo, this]; simp only [sumTo]; omega

/-! ### The text of a word, sign by sign -/
def sgn (v : Int) : UInt8 := signsL.getD (v % 29).toNat 0
theorem sgn_inj {v v' : Int} (h : sgn v = sgn v') : v % 29 = v' % 29 := by
  have : ∀ a b : Fin 29, signsL.getD a 0 = signsL.getD b 0 → (a : Nat) = b := by decide +kernel
  have h1 := Int.emod_nonneg v (show (29 : Int) ≠ 0 by decide)
  have h2 := Int.emod_lt_of_pos v (show (0 : Int) < 29 by decide)
  have h3 := Int.emod_nonneg v' (show (29 : Int) ≠ 0 by decide)
  have h4 := Int.emod_lt_of_pos v' (show (0 : Int) < 29 by decide)
  have := this ⟨(v % 29).toNat, by omega⟩ ⟨(v' % 29).toNat, by omega⟩ h
  simp at this
  omega
theorem text_0 (w : List UInt8) : (textL w).getD 0 0 = sgn w.length := rfl
theorem text_w (w : List UInt8) (i : Nat) (hi : i < w.length) : (textL w).getD (i + 1) 0 = w.getD i 0 := by
  unfold textL aheadL signL
  simp [List.getElem?_append, hi]
theorem text_p (w : List UInt8) : (textL w).getD (w.length + 1) 0 = sgn (plainK w w.length) := by
  unfold textL aheadL behindL signL sgn
  simp [List.getElem?_append]
theorem text_q (w : List UInt8) : (textL w).getD (w.length + 2) 0 = sgn (weighK w w.length) := by
  unfold textL aheadL behindL signL sgn
  simp [List.getElem?_append]

/-- The pieces of the signal of a word. -/
def pcs (w : List UInt8) : List (List UInt8) := (textL w).map cdOf ++ [[], []]
theorem split_signal (w : List UInt8) : splitB 47 (signalL w) = pcs w := by
  refine joinB_inj (split_free _) ?_ ((joinB_split _).trans ?_)
  · intro c hc
    rcases List.mem_append.1 hc with h | h
    · exact cds_free _ c h
    · simp at h; rw [h]; simp
  · unfold pcs; rw [joinB_app, signal_join]; simp [joinB]
theorem pcs_length (w : List UInt8) : (pcs w).length = w.length + 5 := by unfold pcs; simp [textL_length]
theorem pcs_at (w : List UInt8) (i : Nat) (hi : i < w.length + 3) : (pcs w).getD i [] = cdOf ((textL w).getD i 0) := by
  have hl := textL_length w
  unfold pcs
  rw [List.getD_eq_getElem?_getD, List.getElem?_append_left (by simp; omega), List.getElem?_map, List.getD_eq_getElem?_getD, List.getElem?_eq_getElem (by omega)]
  rfl
theorem pcs_end (w : List UInt8) (i : Nat) (hi : w.length + 3 ≤ i) : (pcs w).getD i [] = [] := by
  have hl := textL_length w
  unfold pcs
  rw [List.getD_eq_getElem?_getD, List.getElem?_append_right (by simp; omega)]
  match i - (List.map cdOf (textL w)).length with
  | 0 => rfl
  | 1 => rfl
  | n + 2 => rfl
theorem text_val {w : List UInt8} (hw : wordB w = true) (i : Nat) (hi : i < w.length + 3) : 0 ≤ valI ((textL w).getD i 0) := by
  have hl := textL_length w
  rw [List.getD_eq_getElem?_getD, List.getElem?_eq_getElem (by omega)]
  exact valI_text hw _ (List.getElem_mem _)
theorem pcs_ne {w : List UInt8} (hw : wordB w = true) (i : Nat) (hi : i < w.length + 3) : (pcs w).getD i [] ≠ [] := by
  rw [pcs_at w i hi]; exact code_ne _ (val_nat (text_val hw i hi))
theorem pcs_eq {w x : List UInt8} (hw : wordB w = true) (hx : wordB x = true) (i j : Nat) (hi : i < w.length + 3) (hj : j < x.length + 3) (h : (pcs w).getD i [] = (pcs x).getD j []) : (textL w).getD i 0 = (textL x).getD j 0 := by
  rw [pcs_at w i hi, pcs_at x j hj] at h
  exact cd_inj (text_val hw i hi) (text_val hx j hj) h
theorem mid_lt {α : Type} (i q : List α) (k : Nat) (z : α) (h : k < i.length) : (i ++ q).getD k z = i.getD k z := by
  rw [List.getD_eq_getElem?_getD, List.getElem?_append_left h, List.getD_eq_getElem?_getD]
theorem mid_ge {α : Type} (i q : List α) (k : Nat) (z : α) : (i ++ q).getD (i.length + k) z = q.getD k z := by
  rw [List.getD_eq_getElem?_getD, List.getElem?_append_right (by omega), List.getD_eq_getElem?_getD]; congr 2; omega
end Go.Proofs.YtjbdmlpadoiicaaGreatDoor

/-! One fault in the signal of a word makes no other signal: the words. Plain. -/
namespace Go.Proofs.YtjbdmlpadoiicaaGreatDoor

theorem val_inj {c d : UInt8} (hc : 0 ≤ valI c) (hd : 0 ≤ valI d) (h : valI c = valI d) : c = d := by rw [← sign_val hc, ← sign_val hd, h]
theorem let_at {w : List UInt8} (hw : wordB w = true) (i : Nat) (hi : i < w.length) : 1 ≤ valI (w.getD i 0) ∧ valI (w.getD i 0) ≤ 26 := valI_let_bd _ (getD_all (word_parts hw).2.2 hi)
theorem ext_getD {w x : List UInt8} (hl : w.length = x.length) (h : ∀ i, i < w.length → w.getD i 0 = x.getD i 0) : w = x := by
  apply List.ext_getElem hl
  intro i h1 h2
  have := h i h1
  rwa [List.getD_eq_getElem?_getD, List.getD_eq_getElem?_getD, List.getElem?_eq_getElem h1, List.getElem?_eq_getElem h2] at this
theorem mod_zero {a b : Int} (h : a % 29 = b % 29) : ∃ k, a - b = 29 * k := ⟨(a - b) / 29, by omega⟩
theorem nd_ne {n d k : Int} (h1 : 1 ≤ n) (h2 : n ≤ 10) (h3 : -25 ≤ d) (h4 : d ≤ 25) (h5 : d ≠ 0) : n * d ≠ 29 * k := by
  rcases (by omega : n = 1 ∨ n = 2 ∨ n = 3 ∨ n = 4 ∨ n = 5 ∨ n = 6 ∨ n = 7 ∨ n = 8 ∨ n = 9 ∨ n = 10) with rfl | rfl | rfl | rfl | rfl | rfl | rfl | rfl | rfl | rfl <;> omega

theorem diff_one {w x : List UInt8} (hw : wordB w = true) (hx : wordB x = true) (hl : x.length = w.length) (p : Nat) (hp : p < w.length + 3)
    (he : ∀ i, i < w.length + 3 → i ≠ p → (textL w).getD i 0 = (textL x).getD i 0) (hn : (textL w).getD p 0 ≠ (textL x).getD p 0) : False := by
  by_cases h0 : p = 0
  · subst h0; exact hn (by rw [text_0, text_0, hl])
  by_cases h1 : p ≤ w.length
  · obtain ⟨j, rfl⟩ : ∃ j, p = j + 1 := ⟨p - 1, by omega⟩
    have hj : j < w.length := by omega
    rw [text_w w j hj, text_w x j (by omega)] at hn
    have hP := he (w.length + 1) (by omega) (by omega)
    rw [text_p, ← hl, text_p] at hP
    obtain ⟨k, hk⟩ := mod_zero (sgn_inj hP)
    have hs := sum_one (f := fun i => valI (w.getD i 0)) (g := fun i => valI (x.getD i 0)) (j := j) x.length (fun i hi hij => by
      have := he (i + 1) (by omega) (by omega)
      rw [text_w w i (by omega), text_w x i hi] at this
      rw [this]) (by omega)
    unfold plainK at hk
    rw [hs] at hk
    have b1 := let_at hw j hj
    have b2 := let_at hx j (by omega)
    have hne : valI (w.getD j 0) ≠ valI (x.getD j 0) := fun e => hn (val_inj (by omega) (by omega) e)
    omega
  · have hwx : w = x := ext_getD hl.symm (fun i hi => by
      have := he (i + 1) (by omega) (by omega)
      rwa [text_w w i hi, text_w x i (by omega)] at this)
    exact hn (by rw [hwx])

theorem diff_two {w x : List UInt8} (hw : wordB w = true) (hx : wordB x = true) (hl : x.length = w.length) (p : Nat) (hp : p + 1 < w.length + 3)
    (he : ∀ i, i < w.length + 3 → i ≠ p → i ≠ p + 1 → (textL w).getD i 0 = (textL x).getD i 0) (hn : (textL w).getD p 0 ≠ (textL x).getD p 0) (hn' : (textL w).getD (p + 1) 0 ≠ (textL x).getD (p + 1) 0) : False := by
  have hlen := word_parts hw
  by_cases h0 : p = 0
  · subst h0; exact hn (by rw [text_0, text_0, hl])
  by_cases h1 : p + 1 ≤ w.length
  · obtain ⟨j, rfl⟩ : ∃ j, p = j + 1 := ⟨p - 1, by omega⟩
    have hj : j + 1 < w.length := by omega
    rw [text_w w j (by omega), text_w x j (by omega)] at hn
    rw [text_w w (j + 1) hj, text_w x (j + 1) (by omega)] at hn'
    have hP := he (w.length + 1) (by omega) (by omega) (by omega)
    rw [text_p, ← hl, text_p] at hP
    have hQ := he (w.length + 2) (by omega) (by omega) (by omega)
    rw [text_q, ← hl, text_q] at hQ
    obtain ⟨a, ha⟩ := mod_zero (sgn_inj hP)
    obtain ⟨b, hb⟩ := mod_zero (sgn_inj hQ)
    have eqi : ∀ i, i < x.length → i ≠ j → i ≠ j + 1 → w.getD i 0 = x.getD i 0 := fun i hi h2 h3 => by
      have := he (i + 1) (by omega) (by omega) (by omega)
      rwa [text_w w i (by omega), text_w x i hi] at this
    have s1 := sum_two (f := fun i => valI (w.getD i 0)) (g := fun i => valI (x.getD i 0)) (j := j) (n := x.length) (fun i hi h2 h3 => by rw [eqi i hi h2 h3]) (by omega)
    have s2 := sum_two (f := fun i => ((i : Int) + 1) * valI (w.getD i 0)) (g := fun i => ((i : Int) + 1) * valI (x.getD i 0)) (j := j) (n := x.length) (fun i hi h2 h3 => by rw [eqi i hi h2 h3]) (by omega)
    unfold plainK at ha
    unfold weighK at hb
    rw [s1] at ha
    rw [s2] at hb
    have b1 := let_at hw (j + 1) hj
    have b2 := let_at hx (j + 1) (by omega)
    have hne : valI (w.getD (j + 1) 0) ≠ valI (x.getD (j + 1) 0) := fun e => hn' (val_inj (by omega) (by omega) e)
    obtain ⟨d1, e1⟩ : ∃ d1, valI (w.getD j 0) - valI (x.getD j 0) = d1 := ⟨_, rfl⟩
    obtain ⟨d2, e2⟩ : ∃ d2, valI (w.getD (j + 1) 0) - valI (x.getD (j + 1) 0) = d2 := ⟨_, rfl⟩
    have f1 : ((j : Int) + 1) * valI (w.getD j 0) - ((j : Int) + 1) * valI (x.getD j 0) = ((j : Int) + 1) * d1 := by rw [← Int.mul_sub, e1]
    have f2 : (((j + 1 : Nat) : Int) + 1) * valI (w.getD (j + 1) 0) - (((j + 1 : Nat) : Int) + 1) * valI (x.getD (j + 1) 0) = ((j : Int) + 1) * d2 + d2 := by
      rw [← Int.mul_sub, e2, show (((j + 1 : Nat) : Int) + 1) = ((j : Int) + 1) + 1 by omega, Int.add_mul, Int.one_mul]
    rw [f1, f2] at hb
    rw [e1, e2] at ha
    have f3 : ((j : Int) + 1) * d1 = 29 * (((j : Int) + 1) * a) - ((j : Int) + 1) * d2 := by
      rw [show d1 = 29 * a - d2 by omega, Int.mul_sub, Int.mul_left_comm]
    obtain ⟨t, et⟩ : ∃ t, ((j : Int) + 1) * a = t := ⟨_, rfl⟩
    obtain ⟨u, eu⟩ : ∃ u, ((j : Int) + 1) * d2 = u := ⟨_, rfl⟩
    rw [et, eu] at f3
    rw [f3, eu] at hb
    omega
  · by_cases h2 : p = w.length
    · obtain ⟨j, hj⟩ : ∃ j, w.length = j + 1 := ⟨w.length - 1, by omega⟩
      have hjw : j < w.length := by omega
      rw [h2, hj, text_w w j hjw, text_w x j (by omega)] at hn
      have hQ := he (w.length + 2) (by omega) (by omega) (by omega)
      rw [text_q, ← hl, text_q] at hQ
      obtain ⟨b, hb⟩ := mod_zero (sgn_inj hQ)
      have s2 := sum_one (f := fun i => ((i : Int) + 1) * valI (w.getD i 0)) (g := fun i => ((i : Int) + 1) * valI (x.getD i 0)) (j := j) x.length (fun i hi hij => by
        have := he (i + 1) (by omega) (by omega) (by omega)
        rw [text_w w i (by omega), text_w x i hi] at this
        rw [this]) (by omega)
      unfold weighK at hb
      rw [s2, ← Int.mul_sub] at hb
      have b1 := let_at hw j hjw
      have b2 := let_at hx j (by omega)
      have hne : valI (w.getD j 0) ≠ valI (x.getD j 0) := fun e => hn (val_inj (by omega) (by omega) e)
      exact nd_ne (n := (j : Int) + 1) (by omega) (by omega) (by omega) (by omega) (by omega) hb
    · have hwx : w = x := ext_getD hl.symm (fun i hi => by
        have := he (i + 1) (by omega) (by omega) (by omega)
        rwa [text_w w i hi, text_w x i (by omega)] at this)
      exact hn (by rw [hwx])

theorem no_merge {w x : List UInt8} (hw : wordB w = true) (hx : wordB x = true) {i : List (List UInt8)} {c c' d : List UInt8} {q : List (List UInt8)} (hS : pcs w = i ++ c :: c' :: q) (hR : pcs x = i ++ d :: q) : False := by
  have hlw := word_parts hw
  have hlx := word_parts hx
  have hl : w.length = x.length + 1 := by
    have h1 := congrArg List.length hS
    have h2 := congrArg List.length hR
    rw [pcs_length] at h1 h2
    simp at h1 h2; omega
  by_cases hi : 0 < i.length
  · have h0 : (pcs w).getD 0 [] = (pcs x).getD 0 [] := by rw [hS, hR, mid_lt _ _ _ _ hi, mid_lt _ _ _ _ hi]
    have := pcs_eq hw hx 0 0 (by omega) (by omega) h0
    rw [text_0, text_0] at this
    have := sgn_inj this
    omega
  · have e0 : i = [] := List.length_eq_zero_iff.1 (by omega)
    subst e0
    have hsh : ∀ k, k + 1 < x.length + 3 → (textL w).getD (k + 2) 0 = (textL x).getD (k + 1) 0 := fun k hk => by
      refine pcs_eq hw hx (k + 2) (k + 1) (by omega) (by omega) ?_
      rw [hS, hR]; rfl
    have hP := hsh x.length (by omega)
    rw [show x.length + 2 = w.length + 1 by omega, text_p, text_p] at hP
    obtain ⟨k, hk⟩ := mod_zero (sgn_inj hP)
    have hs := sum_shift (fun i => valI (w.getD i 0)) x.length
    have hc : sumTo (fun i => valI (w.getD (i + 1) 0)) x.length = sumTo (fun i => valI (x.getD i 0)) x.length := sumTo_congr _ (fun i hi => by
      have := hsh i (by omega)
      rw [text_w w (i + 1) (by omega), text_w x i hi] at this
      rw [this])
    unfold plainK at hk
    rw [hl, hs, hc] at hk
    have b1 := let_at hw 0 (by omega)
    omega

theorem no_more {w x : List UInt8} (hx : wordB x = true) {i : List (List UInt8)} {c c' : List UInt8} {q : List (List UInt8)} (hS : pcs w = i ++ c :: c' :: q) (hR : pcs x = i ++ c :: [] :: c' :: q) : False := by
  have h1 := congrArg List.length hS
  have h2 := congrArg List.length hR
  rw [pcs_length] at h1 h2
  simp at h1 h2
  have h3 : (pcs x).getD (i.length + 1) [] = [] := by rw [hR, mid_ge]; rfl
  have h4 : x.length + 3 ≤ i.length + 1 := by
    apply Classical.byContradiction
    intro h
    exact pcs_ne hx _ (by omega) h3
  have h5 : (pcs x).getD i.length [] = c := by rw [hR, show i.length = i.length + 0 from rfl, mid_ge]; rfl
  have h6 : (pcs w).getD i.length [] = c := by rw [hS, show i.length = i.length + 0 from rfl, mid_ge]; rfl
  rw [pcs_end w _ (by omega)] at h6
  exact pcs_ne hx i.length (by omega) (h5.trans h6.symm)

/-- What parts so from the signal of a word, and is one, is this signal. -/
theorem noticed_parts {w x : List UInt8} (hw : wordB w = true) (hx : wordB x = true) (h : Parts1 (pcs w) (pcs x)) : signalL x = signalL w := by
  have len_of : ∀ {i : List (List UInt8)} {a b : List (List UInt8)}, pcs w = i ++ a → pcs x = i ++ b → a.length = b.length → x.length = w.length := fun h1 h2 h3 => by
    have e1 := congrArg List.length h1
    have e2 := congrArg List.length h2
    rw [pcs_length] at e1 e2
    simp at e1 e2; omega
  have small : ∀ {p : Nat}, x.length = w.length → (pcs w).getD p [] ≠ (pcs x).getD p [] → p < w.length + 3 := fun hl hne => by
    apply Classical.byContradiction
    intro hc
    exact hne (by rw [pcs_end w _ (by omega), pcs_end x _ (by omega)])
  have tx : ∀ {p : Nat}, x.length = w.length → p < w.length + 3 → (pcs w).getD p [] ≠ (pcs x).getD p [] → (textL w).getD p 0 ≠ (textL x).getD p 0 := fun hl hp hne e => by
    apply hne; rw [pcs_at w _ hp, pcs_at x _ (by omega), e]
  cases h with
  | same h =>
    rw [← split_signal, ← split_signal] at h
    have h1 := joinB_split (signalL w)
    have h2 := joinB_split (signalL x)
    rw [h, h2] at h1
    exact List.append_cancel_right h1
  | one i c d q hS hR h =>
    have hl := len_of hS hR (by simp)
    have hp : (pcs w).getD i.length [] ≠ (pcs x).getD i.length [] := by
      rw [hS, hR, show i.length = i.length + 0 from rfl, mid_ge, mid_ge]; exact h
    have hs := small hl hp
    exact (diff_one hw hx hl i.length hs (fun k hk hne => pcs_eq hw hx k k hk (by omega) (by
      rw [hS, hR]
      by_cases hki : k < i.length
      · rw [mid_lt _ _ _ _ hki, mid_lt _ _ _ _ hki]
      · obtain ⟨m, rfl⟩ : ∃ m, k = i.length + (m + 1) := ⟨k - i.length - 1, by omega⟩
        rw [mid_ge, mid_ge]; rfl)) (tx hl hs hp)).elim
  | two i c c' d d' q hS hR h h' =>
    have hl := len_of hS hR (by simp)
    have hp : (pcs w).getD i.length [] ≠ (pcs x).getD i.length [] := by
      rw [hS, hR, show i.length = i.length + 0 from rfl, mid_ge, mid_ge]; exact h
    have hp' : (pcs w).getD (i.length + 1) [] ≠ (pcs x).getD (i.length + 1) [] := by
      rw [hS, hR, mid_ge, mid_ge]; exact h'
    have hs := small hl hp'
    exact (diff_two hw hx hl i.length hs (fun k hk hne hne' => pcs_eq hw hx k k hk (by omega) (by
      rw [hS, hR]
      by_cases hki : k < i.length
      · rw [mid_lt _ _ _ _ hki, mid_lt _ _ _ _ hki]
      · obtain ⟨m, rfl⟩ : ∃ m, k = i.length + (m + 2) := ⟨k - i.length - 2, by omega⟩
        rw [mid_ge, mid_ge]; rfl)) (tx hl (by omega) hp) (tx hl hs hp')).elim
  | merge i c c' d q hS hR => exact (no_merge hw hx hS hR).elim
  | more i c c' q hS hR => exact (no_more hx hS hR).elim
end Go.Proofs.YtjbdmlpadoiicaaGreatDoor

/-! What one fault makes of flashes. Plain. -/
namespace Go.Proofs.YtjbdmlpadoiicaaGreatDoor

theorem flat_take (s : List UInt8) : ∀ k : Nat, k ≤ s.length → (List.range k).flatMap (fun i => [s.getD i 0]) = s.take k
  | 0, _ => rfl
  | k + 1, h => by
    rw [List.range_succ, List.flatMap_append, flat_take s k (by omega), List.take_succ_eq_append_getElem (by omega)]
    simp [List.getElem?_eq_getElem (show k < s.length by omega)]
theorem flat_congr {g h : Nat → List UInt8} : ∀ k : Nat, (∀ i, i < k → g i = h i) → (List.range k).flatMap g = (List.range k).flatMap h
  | 0, _ => rfl
  | k + 1, e => by
    rw [List.range_succ, List.flatMap_append, List.flatMap_append, flat_congr k (fun i hi => e i (by omega))]
    simp [e k (by omega)]
theorem flat_mid (g : Nat → List UInt8) (s : List UInt8) (a m : Nat) (h : a + m ≤ s.length) (h1 : ∀ i, i < a → g i = [s.getD i 0]) (h2 : ∀ i, a + m ≤ i → i < s.length → g i = [s.getD i 0]) :
    (List.range s.length).flatMap g = s.take a ++ ((List.range m).flatMap fun d => g (a + d)) ++ s.drop (a + m) := by
  obtain ⟨r, hr⟩ : ∃ r, s.length = a + m + r := ⟨s.length - (a + m), by omega⟩
  rw [hr, List.range_add, List.range_add, List.flatMap_append, List.flatMap_append, List.flatMap_map, List.flatMap_map]
  rw [flat_congr a (h := fun i => [s.getD i 0]) h1, flat_take s a (by omega)]
  congr 1
  have e := flat_take (s.drop (a + m)) r (by simp; omega)
  rw [List.take_of_length_le (by simp; omega)] at e
  rw [← e]
  refine flat_congr r (fun i hi => ?_)
  rw [h2 (a + m + i) (by omega) (by omega)]
  simp [List.getElem?_drop]

theorem can_one {n : Int} {f : Flt} (h : canE n [f] = 0) : 0 ≤ f.2 ∧ f.2 ≤ n - widthZ f.1 ∧ ((f.1 = 1 ∧ widthZ f.1 = 1) ∨ (f.1 = 2 ∧ widthZ f.1 = 1) ∨ (f.1 = 3 ∧ widthZ f.1 = 2)) := by
  have h1 : errF n [] f = 0 := by
    apply Classical.byContradiction
    intro hc
    unfold canE canFrom at h
    rw [if_neg hc] at h
    exact hc h
  unfold errF at h1
  split at h1
  · cases h1
  · rename_i hc
    refine ⟨by omega, by omega, ?_⟩
    have hw : widthZ f.1 ≠ 0 := by omega
    unfold widthZ at hw ⊢
    split at hw
    · rename_i e; rw [if_pos e]; omega
    · rename_i e; rw [if_neg e]
      split at hw
      · rename_i e3; rw [if_pos e3]; exact .inr (.inr ⟨e3, rfl⟩)
      · exact absurd rfl hw
theorem at_one (f : Flt) (p : Int) : at? [f] p = if covers p f then f else (0, 0) := by
  unfold at?
  cases h : covers p f <;> simp [h]
theorem piece_no {s : List UInt8} {f : Flt} {i : Nat} (h : covers i f = false) : pieceL s [f] i = [s.getD i 0] := by
  unfold pieceL; rw [at_one, h]; rfl
theorem covers_no {f : Flt} {p : Int} (h1 : f.2 ≠ p) (h2 : f.1 = 3 → f.2 + 1 ≠ p) : covers p f = false := by
  unfold covers
  rw [decide_eq_false h1]
  by_cases h : f.1 = 3
  · rw [decide_eq_false (h2 h)]; simp
  · rw [decide_eq_false h]; simp
theorem covers_at {f : Flt} {p : Int} (h : f.2 = p) : covers p f = true := by unfold covers; rw [decide_eq_true h]; rfl
theorem covers_at' {f : Flt} {p : Int} (h : f.1 = 3) (h' : f.2 + 1 = p) : covers p f = true := by unfold covers; rw [decide_eq_true h, decide_eq_true h']; simp

theorem fault_parts {s : List UInt8} {f : Flt} (h : canE s.length [f] = 0) : Parts1 (splitB 47 s) (splitB 47 (faultedL s [f])) := by
  obtain ⟨h0, h1, hk⟩ := can_one h
  obtain ⟨a, ha⟩ : ∃ a : Nat, f.2 = a := ⟨f.2.toNat, by omega⟩
  unfold faultedL faultedK
  rcases hk with ⟨k, hw⟩ | ⟨k, hw⟩ | ⟨k, hw⟩
  · rw [hw] at h1
    have hal : a < s.length := by omega
    rw [flat_mid (pieceL s [f]) s a 1 (by omega) (fun i hi => piece_no (covers_no (by omega) (by omega))) (fun i hi hl => piece_no (covers_no (by omega) (by omega)))]
    have e : pieceL s [f] a = [] := by unfold pieceL; rw [at_one, covers_at ha]; simp [k]
    have hs : s = s.take a ++ s[a] :: s.drop (a + 1) := by rw [← List.drop_eq_getElem_cons hal, List.take_append_drop]
    have := lost_parts (s.take a) s[a] (s.drop (a + 1))
    rw [← hs] at this
    simpa [e] using this
  · rw [hw] at h1
    have hal : a < s.length := by omega
    rw [flat_mid (pieceL s [f]) s a 1 (by omega) (fun i hi => piece_no (covers_no (by omega) (by omega))) (fun i hi hl => piece_no (covers_no (by omega) (by omega)))]
    have e : pieceL s [f] a = [s[a], s[a]] := by unfold pieceL; rw [at_one, covers_at ha]; simp [k, List.getElem?_eq_getElem hal]
    have hs : s = s.take a ++ s[a] :: s.drop (a + 1) := by rw [← List.drop_eq_getElem_cons hal, List.take_append_drop]
    have := doub_parts (s.take a) s[a] (s.drop (a + 1))
    rw [← hs] at this
    simpa [e] using this
  · rw [hw] at h1
    have hal : a < s.length := by omega
    have hal' : a + 1 < s.length := by omega
    rw [flat_mid (pieceL s [f]) s a 2 (by omega) (fun i hi => piece_no (covers_no (by omega) (by omega))) (fun i hi hl => piece_no (covers_no (by omega) (by omega)))]
    have e0 : pieceL s [f] a = [s[a + 1]] := by
      unfold pieceL; rw [at_one, covers_at ha]
      simp only [if_true, k]
      rw [show (2 * f.2 + 1 - (a : Int)).toNat = a + 1 by omega]
      simp [List.getElem?_eq_getElem hal']
    have e1 : pieceL s [f] (a + 1) = [s[a]] := by
      unfold pieceL; rw [at_one, covers_at' k (by omega)]
      simp only [if_true, k]
      rw [show (2 * f.2 + 1 - ((a + 1 : Nat) : Int)).toNat = a by omega]
      simp [List.getElem?_eq_getElem hal]
    have hs : s = s.take a ++ s[a] :: s[a + 1] :: s.drop (a + 2) := by rw [← List.drop_eq_getElem_cons hal', ← List.drop_eq_getElem_cons hal, List.take_append_drop]
    have := swap_parts (s.take a) s[a] s[a + 1] (s.drop (a + 2))
    rw [← hs] at this
    have er : (List.range 2).flatMap (fun d => pieceL s [f] (a + d)) = [s[a + 1], s[a]] := by
      rw [show List.range 2 = [0, 1] from rfl]; simp [e0, e1]
    rw [er]
    simpa using this
/-- P1.10: one fault is noticed. -/
theorem noticed_plain {w x : List UInt8} {f : Flt} (hw : wordB w = true) (hx : wordB x = true) (hc : canE (signalL w).length [f] = 0) (he : signalL x = faultedL (signalL w) [f]) : signalL x = signalL w := by
  refine noticed_parts hw hx ?_
  rw [← split_signal, ← split_signal, he]
  exact fault_parts hc
end Go.Proofs.YtjbdmlpadoiicaaGreatDoor
