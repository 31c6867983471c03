/- Cutting a stream behind the ends of signals: the first two pauses in a row. Plain. -/
import Derived.Test.YtgcaldceiogkaaaDoorM0
import Derived.Lib.Index
namespace Go.Proofs.YtgcaldceiogkaaaDoor

/-- The number of flashes up to the end of the first two pauses in a row; 0 if there are none. -/
def endL : List UInt8 → Nat
  | [] => 0
  | b :: l => if b = 47 ∧ l.head? = some 47 then 2 else if endL l = 0 then 0 else endL l + 1
theorem endL_cons (b : UInt8) (l : List UInt8) : endL (b :: l) = if b = 47 ∧ l.head? = some 47 then 2 else if endL l = 0 then 0 else endL l + 1 := rfl
theorem end_index : ∀ R : List UInt8, Lib.index R [47, 47] = if endL R = 0 then -1 else (endL R : Int) - 2
  | [] => rfl
  | b :: l => by
    have ih := end_index l
    have hp : ([47, 47] : List UInt8).isPrefixOf (b :: l) = decide (b = 47 ∧ l.head? = some 47) := by
      rw [Bool.eq_iff_iff, decide_eq_true_eq]
      cases l with
      | nil => simp [List.isPrefixOf]
      | cons c l => simp [List.isPrefixOf]; constructor <;> (rintro ⟨h, k⟩; exact ⟨h.symm, k.symm⟩)
    rw [endL_cons]
    unfold Lib.index
    rw [hp]
    by_cases h : b = 47 ∧ l.head? = some 47
    · rw [if_pos h, decide_eq_true h]; rfl
    · rw [if_neg h, decide_eq_false h, ih]
      simp only [Bool.false_eq_true, if_false]
      by_cases h0 : endL l = 0
      · rw [if_pos h0, if_pos h0]; rfl
      · rw [if_neg h0, if_neg h0]
        have h2 : ∀ l : List UInt8, endL l ≠ 0 → 2 ≤ endL l := fun l => by
          induction l with
          | nil => intro h; exact absurd rfl h
          | cons c l ih => intro h; rw [endL_cons] at h ⊢; split <;> (try split) <;> simp_all <;> omega
        have := h2 l h0
        have e : (((endL l : Int) - 2) == -1) = false := by rw [beq_eq_false_iff_ne]; omega
        rw [e]
        simp
        omega
theorem end_spec : ∀ R : List UInt8, endL R ≠ 0 → 2 ≤ endL R ∧ endL R ≤ R.length ∧ R.getD (endL R - 2) 0 = 47 ∧ R.getD (endL R - 1) 0 = 47
  | [], h => absurd rfl h
  | b :: l, h => by
    have ih := end_spec l
    rw [endL_cons] at h ⊢
    by_cases hp : b = 47 ∧ l.head? = some 47
    · rw [if_pos hp]
      cases l with
      | nil => simp at hp
      | cons c l => simp at hp ⊢; exact hp
    · rw [if_neg hp] at h ⊢
      by_cases h0 : endL l = 0
      · rw [if_pos h0] at h; exact absurd rfl h
      · rw [if_neg h0]
        obtain ⟨h2, h3, h4, h5⟩ := ih h0
        refine ⟨by omega, by simp; omega, ?_, ?_⟩
        · rw [show endL l + 1 - 2 = (endL l - 2) + 1 by omega, List.getD_cons_succ]; exact h4
        · rw [show endL l + 1 - 1 = (endL l - 1) + 1 by omega, List.getD_cons_succ]; exact h5
theorem end_le : ∀ (R : List UInt8) (j : Nat), R.getD j 0 = 47 → R.getD (j + 1) 0 = 47 → endL R ≠ 0 ∧ endL R ≤ j + 2
  | [], j, h, _ => by simp at h
  | b :: l, 0, h, k => by
    have : b = 47 ∧ l.head? = some 47 := by
      refine ⟨by simpa using h, ?_⟩
      cases l with
      | nil => simp at k
      | cons c l => simpa using k
    rw [endL_cons, if_pos this]; omega
  | b :: l, j + 1, h, k => by
    rw [List.getD_cons_succ] at h k
    obtain ⟨h1, h2⟩ := end_le l j h k
    rw [endL_cons]
    split
    · omega
    · omega
/-- At the byte j, with no end before it. -/
theorem end_at {R : List UInt8} {j : Nat} (h0 : 0 < j) (hn : endL R = 0 ∨ j < endL R) : (R.getD (j - 1) 0 = 47 ∧ R.getD j 0 = 47) ↔ endL R = j + 1 := by
  constructor
  · rintro ⟨h, k⟩
    obtain ⟨h1, h2⟩ := end_le R (j - 1) h (by rw [show j - 1 + 1 = j by omega]; exact k)
    omega
  · intro h
    obtain ⟨_, _, h2, h3⟩ := end_spec R (by omega)
    rw [h] at h2 h3
    rw [show j + 1 - 2 = j - 1 by omega] at h2
    exact ⟨h2, h3⟩

/-- The pieces, and what is left. -/
def splitN : Nat → List UInt8 → List (List UInt8) × List UInt8
  | 0, s => ([], s)
  | n + 1, s => if endL s = 0 then ([], s) else (s.take (endL s) :: (splitN n (s.drop (endL s))).1, (splitN n (s.drop (endL s))).2)
def splitP (s : List UInt8) : List (List UInt8) × List UInt8 := splitN s.length s
theorem splitN_none (n : Nat) (s : List UInt8) (h : endL s = 0) : splitN n s = ([], s) := by
  cases n with
  | zero => rfl
  | succ n => unfold splitN; rw [if_pos h]
theorem splitN_some (n : Nat) (s : List UInt8) (h : endL s ≠ 0) (hn : s.length ≤ n) : ∃ m, n = m + 1 ∧ (s.drop (endL s)).length ≤ m ∧ splitN n s = (s.take (endL s) :: (splitN m (s.drop (endL s))).1, (splitN m (s.drop (endL s))).2) := by
  obtain ⟨h2, h3, _, _⟩ := end_spec s h
  obtain ⟨m, rfl⟩ : ∃ m, n = m + 1 := ⟨n - 1, by omega⟩
  refine ⟨m, rfl, by rw [List.length_drop]; omega, ?_⟩
  rw [splitN, if_neg h]
/-- What has been cut so far: the pieces P, and the rest R of the stream s. -/
def cutSo (s : List UInt8) (P : List (List UInt8)) (R : List UInt8) : Prop := ∃ n, R.length ≤ n ∧ splitP s = (P ++ (splitN n R).1, (splitN n R).2)
theorem cutSo_start (s : List UInt8) : cutSo s [] s := ⟨s.length, Nat.le_refl _, rfl⟩
theorem cutSo_step {s : List UInt8} {P : List (List UInt8)} {R : List UInt8} (h : cutSo s P R) (he : endL R ≠ 0) : cutSo s (P ++ [R.take (endL R)]) (R.drop (endL R)) := by
  obtain ⟨n, hn, h⟩ := h
  obtain ⟨m, rfl, hm, e⟩ := splitN_some n R he hn
  refine ⟨m, hm, ?_⟩
  rw [h, e]
  simp
theorem cutSo_end {s : List UInt8} {P : List (List UInt8)} {R : List UInt8} (h : cutSo s P R) (he : endL R = 0) : splitP s = (P, R) := by
  obtain ⟨n, hn, h⟩ := h
  rw [h, splitN_none n R he]
  simp

/-- The pieces and what is left are the stream. -/
theorem splitN_flat : ∀ (n : Nat) (s : List UInt8), (splitN n s).1.flatten ++ (splitN n s).2 = s
  | 0, s => rfl
  | n + 1, s => by
    unfold splitN
    split
    · rfl
    · have := splitN_flat n (s.drop (endL s))
      simp only [List.flatten_cons, List.append_assoc, this, List.take_append_drop]
theorem splitN_ends : ∀ (n : Nat) (s : List UInt8), ∀ p ∈ (splitN n s).1, 2 ≤ p.length ∧ p.drop (p.length - 2) = [47, 47]
  | 0, s, p, hp => by simp [splitN] at hp
  | n + 1, s, p, hp => by
    unfold splitN at hp
    split at hp
    · simp at hp
    · rename_i h
      rcases List.mem_cons.1 hp with rfl | hp
      · obtain ⟨h2, h3, h4, h5⟩ := end_spec s h
        have hl : (s.take (endL s)).length = endL s := by rw [List.length_take]; omega
        rw [hl]
        refine ⟨h2, ?_⟩
        rw [List.drop_take, show endL s - (endL s - 2) = 2 by omega]
        have g0 : (s.drop (endL s - 2)).length ≥ 2 := by rw [List.length_drop]; omega
        rw [List.getD_eq_getElem?_getD, List.getElem?_eq_getElem (by omega)] at h4 h5
        rw [List.drop_eq_getElem_cons (by omega), List.drop_eq_getElem_cons (by omega)]
        simp only [Option.getD_some] at h4 h5
        have e : endL s - 2 + 1 = endL s - 1 := by omega
        simp only [e, List.take_succ_cons, List.take_zero, h4, h5]
      · exact splitN_ends n _ p hp
/-- How many flashes there are in all pieces. -/
theorem splitN_count : ∀ (n : Nat) (s : List UInt8), 2 * (splitN n s).1.length + (splitN n s).2.length ≤ s.length
  | 0, s => by simp [splitN]
  | n + 1, s => by
    unfold splitN
    split
    · simp
    · rename_i h
      have := splitN_count n (s.drop (endL s))
      obtain ⟨h2, h3, _, _⟩ := end_spec s h
      rw [List.length_drop] at this
      simp only [List.length_cons]
      omega
end Go.Proofs.YtgcaldceiogkaaaDoor
