/- For RelayProves, in plain words: bounds that are accepted are bounds; ways that are accepted are walks; Earliest's numbers are accepted. -/
import Derived.Test.YtiboolbndfhomaaNB6
set_option linter.unusedVariables false
set_option linter.unusedSimpArgs false
namespace Go.Proofs.Ytiboolbndfhomaa

/-- The ends of all links as numbers of stations. -/
def EndsNat (ls : List Lk) : Prop := ∀ i, i < ls.length → (lkA ls i).fr = (frN ls i : Int) ∧ (lkA ls i).to = (toN ls i : Int)
theorem atI_nat (l : List Int) (s : Nat) : atI l (s : Int) = at0 l s := by unfold atI at0; simp
theorem bnd_shut {ls : List Lk} (hn : EndsNat ls) {l : List Int} (h : ls.all (bndK l) = true) : Shut ls l := by
  intro i hi h0 d hd
  have hm : lkA ls i ∈ ls := lk_mem hi
  have hb := List.all_eq_true.1 h _ hm
  obtain ⟨e1, e2⟩ := hn i hi
  unfold bndK at hb
  rw [e1, e2, atI_nat, atI_nat] at hb
  rw [hd] at hb
  simp only [Bool.or_eq_true, Bool.and_eq_true, decide_eq_true_eq] at hb
  omega
theorem shut_bnd {ls : List Lk} (hn : EndsNat ls) {l : List Int} (h : Shut ls l) : ls.all (bndK l) = true := by
  rw [List.all_eq_true]
  intro k hk
  obtain ⟨i, hi, rfl⟩ := List.getElem_of_mem hk
  have e : lkA ls i = ls[i] := by unfold lkA; rw [List.getD_eq_getElem?_getD, List.getElem?_eq_getElem hi]; rfl
  obtain ⟨e1, e2⟩ := hn i hi
  rw [← e]
  unfold bndK
  rw [e1, e2, atI_nat, atI_nat]
  by_cases h0 : at0 l (frN ls i) < 0
  · rw [decide_eq_true h0]; rfl
  · rw [decide_eq_false h0]
    cases hd : leaveO (lkA ls i) (at0 l (frN ls i)) with
    | none => rfl
    | some d =>
      have := h i hi (by omega) d hd
      simp only [Bool.false_or, Bool.and_eq_true, decide_eq_true_eq]
      exact this
/-- Bounds that are accepted are at most the minutes of all walks. -/
theorem bounds_le {st : Int} {ls : List Lk} (hn : EndsNat ls) {a : Nat} {t : Int} {l : List Int} (hs : startE st ls a t = 0) (h : boundsE st ls a t l = 0) {s : Nat} {m : Int} (hw : Walk ls a t s m) : 0 ≤ at0 l s ∧ at0 l s ≤ m := by
  unfold boundsE at h
  rw [if_pos hs] at h
  split at h
  · rename_i c
    simp only [Bool.and_eq_true, decide_eq_true_eq] at c
    obtain ⟨⟨⟨⟨c1, c2⟩, c3⟩, c4⟩, c5⟩ := c
    rw [atI_nat] at c2 c3
    exact (bnd_shut hn c5).le ⟨c2, c3⟩ hw
  · cases h
/-- A way that is accepted is a walk that is there no later. -/
theorem goL_walk {ls : List Lk} (hn : EndsNat ls) {a : Nat} {t : Int} : ∀ (l : List Sp) (s : Nat) (n : Int) (x : Int) (m : Int), (∃ n', n' ≤ n ∧ Walk ls a t s n') → goL ls l (s : Int) n = some (x, m) → ∃ b : Nat, x = b ∧ ∃ m', m' ≤ m ∧ Walk ls a t b m'
  | [], s, n, x, m, hw, h => by
    simp only [goL, Option.some.injEq, Prod.mk.injEq] at h
    obtain ⟨rfl, rfl⟩ := h
    exact ⟨s, rfl, hw⟩
  | p :: l, s, n, x, m, ⟨n', hn', hw⟩, h => by
    unfold goL at h
    split at h
    · rename_i c
      unfold hopB at c
      simp only [Bool.and_eq_true, decide_eq_true_eq] at c
      obtain ⟨⟨⟨⟨c1, c2⟩, c3⟩, c4⟩, c5⟩ := c
      obtain ⟨i, hi⟩ : ∃ i : Nat, p.1 = i := ⟨p.1.toNat, by omega⟩
      have hil : i < ls.length := by omega
      rw [hi] at c3 c5 h
      simp only [Int.toNat_natCast] at c3 c5 h
      obtain ⟨e1, e2⟩ := hn i hil
      unfold lkA at e1 e2
      have hs : frN ls i = s := by omega
      unfold canB at c5
      simp only [decide_eq_true_eq] at c5
      obtain ⟨u, u1, u2⟩ := leaveO_mono (x := n') (y := p.2) (by omega) c5
      have hw2 : Walk ls a t (toN ls i) (u + (lkA ls i).dl) := .step i hil (by rw [hs]; exact hw) u1
      rw [e2] at h
      exact goL_walk hn l (toN ls i) _ x m ⟨_, by unfold lkA; omega, hw2⟩ h
    · cases h
/-- Earliest's numbers are accepted as bounds. -/
theorem inv_bounds {st : Nat} {ls : List Lk} (hn : EndsNat ls) {a : Nat} {t : Int} {at' : List Int} {by' : List Sp} (hs : startE st ls a t = 0) (hI : Inv st ls a t at' by') (hS : Shut ls at') : boundsE st ls a t at' = 0 := by
  unfold boundsE
  rw [if_pos hs, if_pos]
  simp only [Bool.and_eq_true, decide_eq_true_eq]
  refine ⟨⟨⟨⟨by rw [hI.la], ?_⟩, ?_⟩, ?_⟩, shut_bnd hn hS⟩
  · rw [atI_nat]; exact hI.fr.1
  · rw [atI_nat]; exact hI.fr.2
  · rw [List.all_eq_true]
    intro x hx
    obtain ⟨i, hi, rfl⟩ := List.getElem_of_mem hx
    have := hI.bd i (by rw [← hI.la]; exact hi)
    unfold at0 at this
    rw [List.getD_eq_getElem?_getD, List.getElem?_eq_getElem hi] at this
    unfold numB
    simp only [Bool.and_eq_true, decide_eq_true_eq]
    exact this
end Go.Proofs.Ytiboolbndfhomaa
