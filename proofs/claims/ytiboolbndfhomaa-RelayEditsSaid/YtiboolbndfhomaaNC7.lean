/- For RelayDual, in plain words: the earliest and the latest minutes say the same. -/
import Derived.Test.YtiboolbndfhomaaNB3
set_option linter.unusedVariables false
set_option linter.unusedSimpArgs false
namespace Go.Proofs.Ytiboolbndfhomaa

theorem lastL_ge : ∀ (l : List Sp) (e d y v : Int), okS e l = true → 0 ≤ d → v ≤ e → ∃ u, lastL l d y (some v) = some u ∧ v ≤ u
  | [], _, _, _, v, _, _, _ => ⟨v, rfl, Int.le_refl _⟩
  | s :: l, e, d, y, v, ho, hd, hv => by
    simp only [okS, Bool.and_eq_true, decide_eq_true_eq] at ho
    obtain ⟨⟨⟨h1, h2⟩, h3⟩, h4⟩ := ho
    unfold lastL
    by_cases c : s.1 + d ≤ min s.2 y
    · rw [if_pos c]
      obtain ⟨u, u1, u2⟩ := lastL_ge l s.2 d y (min s.2 y - d) h4 hd (by omega)
      exact ⟨u, u1, by omega⟩
    · rw [if_neg c]
      exact lastL_ge l s.2 d y v h4 hd (by omega)
theorem leave_last : ∀ (l : List Sp) (e d x y z : Int) (o : Option Int), okS e l = true → 0 ≤ d → leaveL l d x = some z → z + d ≤ y → ∃ u, lastL l d y o = some u ∧ x ≤ u
  | [], _, _, _, _, _, _, _, _, h, _ => by cases h
  | s :: l, e, d, x, y, z, o, ho, hd, h, hz => by
    simp only [okS, Bool.and_eq_true, decide_eq_true_eq] at ho
    obtain ⟨⟨⟨h1, h2⟩, h3⟩, h4⟩ := ho
    unfold leaveL at h
    unfold lastL
    by_cases c : max s.1 x ≤ s.2 - d
    · rw [if_pos c] at h
      cases h
      rw [if_pos (by omega)]
      obtain ⟨u, u1, u2⟩ := lastL_ge l s.2 d y (min s.2 y - d) h4 hd (by omega)
      exact ⟨u, u1, by omega⟩
    · rw [if_neg c] at h
      exact leave_last l s.2 d x y z _ h4 hd h hz
theorem last_leave : ∀ (l : List Sp) (e d x y z : Int) (o : Option Int), okS e l = true → 0 ≤ d → lastL l d y o = some z → x ≤ z → o = some z ∨ ∃ u, leaveL l d x = some u ∧ u + d ≤ y
  | [], _, _, _, _, _, _, _, _, h, _ => .inl h
  | s :: l, e, d, x, y, z, o, ho, hd, h, hz => by
    simp only [okS, Bool.and_eq_true, decide_eq_true_eq] at ho
    obtain ⟨⟨⟨h1, h2⟩, h3⟩, h4⟩ := ho
    unfold lastL at h
    rcases last_leave l s.2 d x y z _ h4 hd h hz with q | ⟨u, u1, u2⟩
    · by_cases c : s.1 + d ≤ min s.2 y
      · rw [if_pos c] at q
        cases q
        right
        unfold leaveL
        rw [if_pos (by omega)]
        exact ⟨_, rfl, by omega⟩
      · rw [if_neg c] at q
        exact .inl q
    · right
      unfold leaveL
      by_cases c : max s.1 x ≤ s.2 - d
      · rw [if_pos c]
        have := (leaveL_bd l s.2 d x u h4 u1).2.1
        exact ⟨_, rfl, by omega⟩
      · rw [if_neg c]
        exact ⟨u, u1, u2⟩
theorem leaveO_last {k : Lk} {x y z : Int} (h : leaveO k x = some z) (hz : z + k.dl ≤ y) : ∃ u, lastO k y = some u ∧ x ≤ u := by
  unfold leaveO at h
  split at h
  · rename_i c
    obtain ⟨d1, d2, d3, d4⟩ := linkE_ok c
    unfold lastO
    rw [if_pos c]
    exact leave_last _ _ _ _ _ _ _ d4 (by omega) h hz
  · cases h
theorem lastO_leave {k : Lk} {x y z : Int} (h : lastO k y = some z) (hz : x ≤ z) : ∃ u, leaveO k x = some u ∧ u + k.dl ≤ y := by
  unfold lastO at h
  split at h
  · rename_i c
    obtain ⟨d1, d2, d3, d4⟩ := linkE_ok c
    unfold leaveO
    rw [if_pos c]
    rcases last_leave _ _ _ x _ _ _ d4 (by omega) h hz with q | q
    · cases q
    · exact q
  · cases h
theorem ShutL.walk {ls : List Lk} {L : List Int} {a : Nat} {t : Int} (h : ShutL ls L) {s : Nat} {m : Int} (hw : Walk ls a t s m) : m ≤ at0 L s → t ≤ at0 L a := by
  induction hw with
  | start => exact id
  | step i hi _ hl ih =>
    intro hm
    obtain ⟨u, u1, u2⟩ := leaveO_last hl hm
    have := h i hi u u1
    exact ih (by omega)
theorem Shut.back {ls : List Lk} {E : List Int} {b : Nat} {u : Int} (h : Shut ls E) {s : Nat} {y : Int} (hw : Back ls b u s y) : 0 ≤ at0 E s → at0 E s ≤ y → 0 ≤ at0 E b ∧ at0 E b ≤ u := by
  induction hw with
  | start => exact fun h1 h2 => ⟨h1, h2⟩
  | step i hi _ hl ih =>
    intro h0 hy
    obtain ⟨z, z1, z2⟩ := lastO_leave hl hy
    have := h i hi h0 z z1
    exact ih this.1 (by omega)
/-- A word is at b up to u exactly if it is at a no later than the last minute from which it can be there. -/
theorem dual {st : Nat} {ls : List Lk} {a b : Nat} {t u : Int} {E : List Int} {by' : List Sp} {L : List Int} (hE : Inv st ls a t E by') (hS : Shut ls E) (hL : InvL st ls b u L) (kS : ShutL ls L) (ht : 0 ≤ t) :
    (0 ≤ at0 E b ∧ at0 E b ≤ u) ↔ t ≤ at0 L a := by
  constructor
  · rintro ⟨h1, h2⟩
    have hw := hE.wk b hL.bl h1
    have := hL.fr
    exact kS.walk hw (by omega)
  · intro h
    have hw := hL.wk a hE.al (by omega)
    have := hE.fr
    exact hS.back hw this.1 (by omega)
/-- From a later minute no word is anywhere earlier. -/
theorem later {st : Nat} {ls : List Lk} {a : Nat} {t t' : Int} {E F : List Int} {u v : List Sp} (hE : Inv st ls a t E u) (hS : Shut ls E) (hF : Inv st ls a t' F v) (htt : t ≤ t') {s : Nat} (hs : s < st) (h : 0 ≤ at0 F s) : 0 ≤ at0 E s ∧ at0 E s ≤ at0 F s := by
  have hw := hF.wk s hs h
  have key : ∀ {s : Nat} {m : Int}, Walk ls a t' s m → 0 ≤ at0 E s ∧ at0 E s ≤ m := by
    intro s m hw
    induction hw with
    | start => have := hE.fr; exact ⟨this.1, by omega⟩
    | step i hi _ hl ih =>
      obtain ⟨z, h1, h2⟩ := leaveO_mono ih.2 hl
      have := hS i hi ih.1 z h1
      omega
  exact key hw
end Go.Proofs.Ytiboolbndfhomaa
