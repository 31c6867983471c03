/- The way that the hops of spread make, in plain words. -/
import Derived.Test.YtiboolbndfhomaaNA7
import Derived.Test.YtiboolbndfhomaaNB1
set_option linter.unusedVariables false
set_option linter.unusedSimpArgs false
namespace Go.Proofs.Ytiboolbndfhomaa

inductive Trail (ls : List Lk) (by' : List Sp) (a : Nat) : Nat → List Sp → Prop
  | nil : Trail ls by' a a []
  | snoc {l : List Sp} (i : Nat) : i < ls.length → (by'.getD (toN ls i) (0, 0)).1 = (i : Int) → toN ls i ≠ a → Trail ls by' a (frN ls i) l → Trail ls by' a (toN ls i) (l ++ [by'.getD (toN ls i) (0, 0)])
theorem goL_snoc (ls : List Lk) (h : Sp) : ∀ (l : List Sp) (a n : Int), goL ls (l ++ [h]) a n = match goL ls l a n with
    | some (y, m) => if hopB ls h y m = true then some ((ls.getD h.1.toNat .nil).to, h.2 + (ls.getD h.1.toNat .nil).dl) else none
    | none => none
  | [], a, n => by simp [goL]
  | x :: l, a, n => by
    simp only [List.cons_append, goL]
    split
    · exact goL_snoc ls h l _ _
    · rfl
theorem leaveL_idem : ∀ (l : List Sp) (d t x : Int), leaveL l d t = some x → leaveL l d x = some x
  | [], _, _, _, h => by cases h
  | s :: l, d, t, x, h => by
    unfold leaveL at h ⊢
    by_cases c : max s.1 t ≤ s.2 - d
    · rw [if_pos c] at h
      cases h
      rw [if_pos (by omega)]
      congr 1; omega
    · rw [if_neg c] at h
      by_cases c2 : max s.1 x ≤ s.2 - d
      · exfalso
        have hx : t ≤ x := by
          clear c c2
          induction l generalizing s with
          | nil => cases h
          | cons y l ih =>
            unfold leaveL at h
            split at h
            · cases h; omega
            · exact ih y h
        omega
      · rw [if_neg c2]; exact leaveL_idem l d t x h
theorem leaveO_idem {k : Lk} {t x : Int} (h : leaveO k t = some x) : leaveO k x = some x := by
  unfold leaveO at h ⊢
  split at h
  · rename_i c; rw [if_pos c]; exact leaveL_idem _ _ _ _ h
  · cases h
theorem Trail.go {st : Nat} {ls : List Lk} {a : Nat} {t : Int} {at' : List Int} {by' : List Sp} (hI : Inv st ls a t at' by') (hs : Shut ls at') (he : EndsOk st ls) (hf : ∀ i, i < ls.length → (lkA ls i).fr = (frN ls i : Int) ∧ (lkA ls i).to = (toN ls i : Int)) {s : Nat} {l : List Sp} (h : Trail ls by' a s l) :
    0 ≤ at0 at' s → goL ls l a t = some ((s : Int), at0 at' s) := by
  induction h with
  | nil =>
    intro h0
    have h1 := (hI.wk a hI.al h0).late
    have h2 := hI.fr
    show some ((a : Int), t) = _
    rw [show at0 at' a = t by omega]
  | @snoc l i hi hb hne hT ih =>
    intro h0
    obtain ⟨e1, e2, e3⟩ := he i hi
    obtain ⟨k, x, k1, k2, k3, k4, k5, k6, k7⟩ := hI.hop _ e2 hne h0
    obtain rfl : k = i := by rw [hb] at k2; omega
    obtain ⟨u, u1, u2⟩ := leaveO_mono k5 k6
    have u3 := hs k hi k4 u u1
    obtain rfl : u = (by'.getD (toN ls k) (0, 0)).2 := by omega
    obtain ⟨f1, f2⟩ := hf k hi
    have hb4 := leaveO_bd u1
    rw [goL_snoc, ih k4]
    have hj : (by'.getD (toN ls k) (0, 0)).1.toNat = k := by rw [hb]; omega
    have hop : hopB ls (by'.getD (toN ls k) (0, 0)) (frN ls k : Int) (at0 at' (frN ls k)) = true := by
      unfold hopB canB
      rw [hj, hb]
      have q1 : (ls.getD k .nil).fr = (frN ls k : Int) := f1
      have q2 : leaveO (ls.getD k .nil) (by'.getD (toN ls k) (0, 0)).2 = some (by'.getD (toN ls k) (0, 0)).2 := leaveO_idem u1
      have q5 := hb4.1
      rw [q1, q2, decide_eq_true (p := (0 : Int) ≤ (k : Int)) (by omega), decide_eq_true (p := (k : Int) < ls.length) (by omega), decide_eq_true (p := (frN ls k : Int) = frN ls k) rfl, decide_eq_true (p := at0 at' (frN ls k) ≤ (by'.getD (toN ls k) (0, 0)).2) q5, decide_eq_true rfl]
      rfl
    show (if hopB ls _ _ _ = true then _ else none) = _
    rw [if_pos hop, hj]
    have q3 : (ls.getD k .nil).to = (toN ls k : Int) := f2
    have q4 : (by'.getD (toN ls k) (0, 0)).2 + (ls.getD k .nil).dl = at0 at' (toN ls k) := k7.symm
    rw [q3, q4]
theorem Trail.step {st : Nat} {ls : List Lk} {a : Nat} {t : Int} {at' : List Int} {by' : List Sp} (hI : Inv st ls a t at' by') {s : Nat} (hs : s < st) (hsa : s ≠ a) (h0 : 0 ≤ at0 at' s) : ∃ i, i < ls.length ∧ (by'.getD s (0, 0)).1 = (i : Int) ∧ toN ls i = s ∧ 0 ≤ at0 at' (frN ls i) ∧ at0 at' (frN ls i) < at0 at' s ∧
    ∀ l, Trail ls by' a (frN ls i) l → Trail ls by' a s (l ++ [by'.getD s (0, 0)]) := by
  obtain ⟨i, x, k1, k2, k3, k4, k5, k6, k7⟩ := hI.hop s hs hsa h0
  have hb := leaveO_bd k6
  refine ⟨i, k1, k2, k3, k4, by omega, fun l hl => ?_⟩
  subst k3
  exact .snoc i k1 k2 hsa hl
end Go.Proofs.Ytiboolbndfhomaa
