/- What spread keeps true, in plain words: ways of a word, and numbers that are reached and closed. -/
import Derived.Test.YtiboolbndfhomaaNA6
set_option linter.unusedVariables false
set_option linter.unusedSimpArgs false
namespace Go.Proofs.Ytiboolbndfhomaa

def lkA (ls : List Lk) (i : Nat) : Lk := ls.getD i .nil
def frN (ls : List Lk) (i : Nat) : Nat := (lkA ls i).fr.toNat
def toN (ls : List Lk) (i : Nat) : Nat := (lkA ls i).to.toNat
def at0 (l : List Int) (s : Nat) : Int := l.getD s 0
/-- A word can be at s at m that starts at a at t. -/
inductive Walk (ls : List Lk) (a : Nat) (t : Int) : Nat → Int → Prop
  | start : Walk ls a t a t
  | step {m d : Int} (i : Nat) : i < ls.length → Walk ls a t (frN ls i) m → leaveO (lkA ls i) m = some d → Walk ls a t (toN ls i) (d + (lkA ls i).dl)
theorem Walk.late {ls : List Lk} {a : Nat} {t : Int} {s : Nat} {m : Int} (h : Walk ls a t s m) : t ≤ m := by
  induction h with
  | start => exact Int.le_refl _
  | step i hi _ hl ih => have := leaveO_bd hl; omega
theorem at0_set (l : List Int) (i s : Nat) (v : Int) (hi : i < l.length) : at0 (l.set i v) s = if s = i then v else at0 l s := by
  unfold at0
  rw [List.getD_eq_getElem?_getD, List.getD_eq_getElem?_getD, List.getElem?_set]
  by_cases e : i = s
  · subst e; simp [hi]
  · rw [if_neg e, if_neg (fun h => e h.symm)]
theorem by_set (l : List Sp) (i s : Nat) (v : Sp) (hi : i < l.length) : (l.set i v).getD s (0, 0) = if s = i then v else l.getD s (0, 0) := by
  rw [List.getD_eq_getElem?_getD, List.getD_eq_getElem?_getD, List.getElem?_set]
  by_cases e : i = s
  · subst e; simp [hi]
  · rw [if_neg e, if_neg (fun h => e h.symm)]
/-- The stations of the links are stations. -/
def EndsOk (st : Nat) (ls : List Lk) : Prop := ∀ i, i < ls.length → frN ls i < st ∧ toN ls i < st ∧ frN ls i ≠ toN ls i
structure Inv (st : Nat) (ls : List Lk) (a : Nat) (t : Int) (at' : List Int) (by' : List Sp) : Prop where
  la : at'.length = st
  lb : by'.length = st
  al : a < st
  bd : ∀ s, s < st → -1 ≤ at0 at' s ∧ at0 at' s ≤ 1048576
  fr : 0 ≤ at0 at' a ∧ at0 at' a ≤ t
  wk : ∀ s, s < st → 0 ≤ at0 at' s → Walk ls a t s (at0 at' s)
  hop : ∀ s, s < st → s ≠ a → 0 ≤ at0 at' s → ∃ (i : Nat) (x : Int), i < ls.length ∧ (by'.getD s (0, 0)).1 = (i : Int) ∧ toN ls i = s ∧ 0 ≤ at0 at' (frN ls i) ∧ at0 at' (frN ls i) ≤ x ∧ leaveO (lkA ls i) x = some (by'.getD s (0, 0)).2 ∧ at0 at' s = (by'.getD s (0, 0)).2 + (lkA ls i).dl
theorem Inv.start {st : Nat} {ls : List Lk} {a : Nat} {t : Int} (ha : a < st) (ht : 0 ≤ t) (ht2 : t ≤ 1048576) : Inv st ls a t ((List.replicate st (-1)).set a t) (List.replicate st (0, 0)) := by
  have e : ∀ s, s < st → at0 ((List.replicate st (-1)).set a t) s = if s = a then t else -1 := fun s hs => by
    rw [at0_set _ _ _ _ (by simpa using ha)]
    by_cases h : s = a
    · rw [if_pos h, if_pos h]
    · rw [if_neg h, if_neg h]; unfold at0; rw [List.getD_eq_getElem?_getD]; simp [hs]
  refine ⟨by simp, by simp, ha, fun s hs => ?_, ?_, fun s hs h => ?_, fun s hs h1 h2 => ?_⟩
  · rw [e s hs]; split <;> omega
  · rw [e a ha, if_pos rfl]; omega
  · rw [e s hs] at h ⊢
    by_cases c : s = a
    · rw [if_pos c]; subst c; exact .start
    · rw [if_neg c] at h; omega
  · rw [e s hs, if_neg h1] at h2; omega
theorem Inv.relax {st : Nat} {ls : List Lk} {a : Nat} {t : Int} {at' : List Int} {by' : List Sp} (h : Inv st ls a t at' by') (he : EndsOk st ls) {i : Nat} (hi : i < ls.length) {d : Int} (h0 : 0 ≤ at0 at' (frN ls i)) (hd : leaveO (lkA ls i) (at0 at' (frN ls i)) = some d)
    (hl : at0 at' (toN ls i) < 0 ∨ d + (lkA ls i).dl < at0 at' (toN ls i)) : Inv st ls a t (at'.set (toN ls i) (d + (lkA ls i).dl)) (by'.set (toN ls i) ((i : Int), d)) := by
  obtain ⟨e1, e2, e3⟩ := he i hi
  obtain ⟨b1, b2, b3, b4⟩ := leaveO_bd hd
  have hw := h.wk _ e1 h0
  have hlate := hw.late
  have hga : toN ls i ≠ a := fun c => by
    have := h.fr
    rw [c] at hl
    omega
  have eA : ∀ s, at0 (at'.set (toN ls i) (d + (lkA ls i).dl)) s = if s = toN ls i then d + (lkA ls i).dl else at0 at' s := fun s => at0_set _ _ _ _ (by rw [h.la]; exact e2)
  have eB : ∀ s, (by'.set (toN ls i) ((i : Int), d)).getD s (0, 0) = if s = toN ls i then ((i : Int), d) else by'.getD s (0, 0) := fun s => by_set _ _ _ _ (by rw [h.lb]; exact e2)
  refine ⟨by rw [List.length_set]; exact h.la, by rw [List.length_set]; exact h.lb, h.al, fun s hs => ?_, ?_, fun s hs hp => ?_, fun s hs hsa hp => ?_⟩
  · rw [eA]; split
    · omega
    · exact h.bd s hs
  · rw [eA, if_neg (fun c => hga c.symm)]; exact h.fr
  · rw [eA] at hp ⊢
    by_cases c : s = toN ls i
    · rw [if_pos c]; subst c; exact .step i hi hw hd
    · rw [if_neg c] at hp ⊢; exact h.wk s hs hp
  · by_cases c : s = toN ls i
    · subst c
      refine ⟨i, at0 at' (frN ls i), hi, ?_, rfl, ?_, ?_, ?_, ?_⟩
      · rw [eB, if_pos rfl]
      · rw [eA, if_neg e3]; exact h0
      · rw [eA, if_neg e3]; exact Int.le_refl _
      · rw [eB, if_pos rfl]; exact hd
      · rw [eA, if_pos rfl, eB, if_pos rfl]
    · rw [eA, if_neg c] at hp
      obtain ⟨k, x, k1, k2, k3, k4, k5, k6, k7⟩ := h.hop s hs hsa hp
      refine ⟨k, x, k1, ?_, k3, ?_, ?_, ?_, ?_⟩
      · rw [eB, if_neg c]; exact k2
      · rw [eA]; split
        · omega
        · exact k4
      · rw [eA]; split
        · rename_i q
          rw [q] at k4 k5
          omega
        · exact k5
      · rw [eB, if_neg c]; exact k6
      · rw [eA, if_neg c, eB, if_neg c]; exact k7
/-- No link leads earlier to its end. -/
def ShutAt (ls : List Lk) (at' : List Int) (i : Nat) : Prop := 0 ≤ at0 at' (frN ls i) → ∀ d, leaveO (lkA ls i) (at0 at' (frN ls i)) = some d → 0 ≤ at0 at' (toN ls i) ∧ at0 at' (toN ls i) ≤ d + (lkA ls i).dl
def Shut (ls : List Lk) (at' : List Int) : Prop := ∀ i, i < ls.length → ShutAt ls at' i
theorem leaveL_mono : ∀ (l : List Sp) (e d x y v : Int), okS e l = true → 0 ≤ d → x ≤ y → leaveL l d y = some v → ∃ u, leaveL l d x = some u ∧ u ≤ v
  | [], _, _, _, _, _, _, _, _, h => by cases h
  | s :: l, e, d, x, y, v, ho, hd, hxy, h => by
    simp only [okS, Bool.and_eq_true, decide_eq_true_eq] at ho
    obtain ⟨⟨⟨h1, h2⟩, h3⟩, h4⟩ := ho
    unfold leaveL at h ⊢
    by_cases c : max s.1 x ≤ s.2 - d
    · rw [if_pos c]
      refine ⟨_, rfl, ?_⟩
      split at h
      · cases h; omega
      · have := (leaveL_bd l s.2 d y v h4 h).2.1; omega
    · rw [if_neg c]
      rw [if_neg (by omega)] at h
      exact leaveL_mono l s.2 d x y v h4 hd hxy h
theorem leaveO_mono {k : Lk} {x y v : Int} (hxy : x ≤ y) (h : leaveO k y = some v) : ∃ u, leaveO k x = some u ∧ u ≤ v := by
  unfold leaveO at h ⊢
  by_cases c : linkE k = 0
  · rw [if_pos c] at h ⊢
    obtain ⟨d1, d2, d3, d4⟩ := linkE_ok c
    exact leaveL_mono _ _ _ _ _ _ d4 (by omega) hxy h
  · rw [if_neg c] at h; cases h
/-- Where no link leads earlier to its end, no word is anywhere earlier. -/
theorem Shut.le {ls : List Lk} {at' : List Int} {a : Nat} {t : Int} (h : Shut ls at') (ha : 0 ≤ at0 at' a ∧ at0 at' a ≤ t) {s : Nat} {m : Int} (hw : Walk ls a t s m) : 0 ≤ at0 at' s ∧ at0 at' s ≤ m := by
  induction hw with
  | start => exact ha
  | step i hi _ hl ih =>
    obtain ⟨u, h1, h2⟩ := leaveO_mono ih.2 hl
    have := h i hi ih.1 u h1
    omega
/-- Numbers that are reached and closed are these. -/
theorem Inv.unique {st : Nat} {ls : List Lk} {a : Nat} {t : Int} {x y : List Int} {u v : List Sp} (h : Inv st ls a t x u) (k : Inv st ls a t y v) (hs : Shut ls x) (ks : Shut ls y) : x = y := by
  apply List.ext_getElem (by rw [h.la, k.la])
  intro i h1 h2
  have hi : i < st := by rw [← h.la]; exact h1
  have e1 : at0 x i = x[i] := by unfold at0; rw [List.getD_eq_getElem?_getD, List.getElem?_eq_getElem h1]; rfl
  have e2 : at0 y i = y[i] := by unfold at0; rw [List.getD_eq_getElem?_getD, List.getElem?_eq_getElem h2]; rfl
  rw [← e1, ← e2]
  have b1 := h.bd i hi
  have b2 := k.bd i hi
  by_cases c1 : 0 ≤ at0 x i
  · have q1 := ks.le k.fr (h.wk i hi c1)
    have q2 := hs.le h.fr (k.wk i hi q1.1)
    omega
  · by_cases c2 : 0 ≤ at0 y i
    · have q2 := hs.le h.fr (k.wk i hi c2)
      omega
    · omega

def intM (x : Int) : Nat := if x < 0 then 2000000 else x.toNat
def sumM (l : List Int) : Nat := (l.map intM).sum
theorem sumM_set : ∀ (l : List Int) (i : Nat) (v : Int), i < l.length → intM v < intM (at0 l i) → sumM (l.set i v) < sumM l
  | [], i, v, h, _ => by simp at h
  | x :: l, 0, v, _, h => by
    unfold sumM at0 at *
    simp only [List.set_cons_zero, List.map_cons, List.sum_cons, List.getD_cons_zero] at h ⊢
    omega
  | x :: l, i + 1, v, hi, h => by
    have := sumM_set l i v (by simpa using hi) (by unfold at0 at *; simpa using h)
    unfold sumM at *
    simp only [List.set_cons_succ, List.map_cons, List.sum_cons]
    omega
end Go.Proofs.Ytiboolbndfhomaa
