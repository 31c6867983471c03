/- What Unpack makes of Pack, and Pack of Unpack; what Read has taken. Plain. -/
import Derived.Test.YtglhlfabfcneeaaDoorS1
import Derived.Test.YtglhlfabfcneeaaDoorP2
namespace Go.Proofs.YtglhlfabfcneeaaDoor

theorem signL_let (v : Int) (h1 : 1 ≤ v) (h2 : v ≤ 26) : letB (signsL.getD (v % 29).toNat 0) = true ∧ valI (signsL.getD (v % 29).toNat 0) = v := by
  have : ∀ k : Fin 27, 1 ≤ (k : Nat) → letB (signsL.getD k 0) = true ∧ valI (signsL.getD k 0) = (k : Nat) := by decide +kernel
  have hk : (v % 29).toNat = v.toNat := by rw [Int.emod_eq_of_lt (by omega) (by omega)]
  have := this ⟨v.toNat, by omega⟩ (by simp; omega)
  rw [hk]
  refine ⟨this.1, this.2.trans ?_⟩
  show ((v.toNat : Nat) : Int) = v
  omega
theorem unpack_pack {k n : Int} {t : List UInt8} (hv : validB k n t = true) : unpackV (pkL k n t) = .tuple #[.agg #[.int .i64 k, .int .i64 n, .string (B t)], .int .i64 0] := by
  obtain ⟨h0, h1, hk, ht⟩ := validB_n hv
  have a1 := signL_let (n / 26 + 1) (by omega) (by omega)
  have a2 := signL_let (n % 26 + 1) (by omega) (by omega)
  obtain ⟨c1, e1⟩ : ∃ c1, signsL.getD ((n / 26 + 1) % 29).toNat 0 = c1 := ⟨_, rfl⟩
  obtain ⟨c2, e2⟩ : ∃ c2, signsL.getD ((n % 26 + 1) % 29).toNat 0 = c2 := ⟨_, rfl⟩
  rw [e1] at a1
  rw [e2] at a2
  have hp : pkL k n t = (if k = 2 then 114 else 109) :: c1 :: c2 :: t := by unfold pkL signL; rw [e1, e2]; rfl
  have hall : allB t = true := by
    rw [valid_alt] at hv
    simp only [Bool.and_eq_true, Bool.or_eq_true, decide_eq_true_eq, List.isEmpty_iff] at hv
    rcases hv.2 with h | h
    · exact h.2
    · rw [h.2]; rfl
  have hw : wordB (pkL k n t) = true := by
    rw [hp]
    unfold wordB
    simp only [List.length_cons, List.all_cons, a1.1, a2.1, Bool.true_and]
    rw [decide_eq_true (show 1 ≤ t.length + 1 + 1 + 1 by omega), decide_eq_true (show t.length + 1 + 1 + 1 ≤ 10 by omega), show t.all letB = true from hall]
    rcases hk with rfl | rfl <;> decide
  have hn : unN (pkL k n t) = n := by
    rw [hp]
    show (valI c1 - 1) * 26 + valI c2 - 1 = n
    rw [a1.2, a2.2]; omega
  have hkk : unK ((pkL k n t).getD 0 0) = k := by
    rw [hp]
    rcases hk with rfl | rfl <;> rfl
  have hu : unB (pkL k n t) = true := by
    unfold unB
    rw [hw, hn, hkk, show (pkL k n t).drop 3 = t by rw [hp]; rfl, hv, decide_eq_true (show 3 ≤ (pkL k n t).length by rw [hp]; simp)]; rfl
  unfold unpackV
  rw [if_pos hu, hkk, hn, show (pkL k n t).drop 3 = t by rw [hp]; rfl]
theorem unB_parts {s : List UInt8} (h : unB s = true) : wordB s = true ∧ 3 ≤ s.length ∧ validB (unK (s.getD 0 0)) (unN s) (s.drop 3) = true := by
  unfold unB at h
  simp only [Bool.and_eq_true, decide_eq_true_eq] at h
  exact ⟨h.1.1, h.1.2, h.2⟩
theorem pack_unpack {s : List UInt8} (h : unB s = true) : packV (unK (s.getD 0 0)) (unN s) (s.drop 3) = .tuple #[.string (B s), .int .i64 0] := by
  obtain ⟨hw, h3, hv⟩ := unB_parts h
  rw [packV_ok hv, un_pk hw h3]
  have hk := (validB_n hv).2.2.1
  obtain ⟨c0, c1, c2, d, rfl, _, _⟩ := un_cut (word_parts hw).2.2 h3
  have : (if unK ((c0 :: c1 :: c2 :: d).getD 0 0) = 2 then (114 : UInt8) else 109) = c0 := by
    simp only [List.getD_cons_zero] at hk ⊢
    unfold unK at hk ⊢
    by_cases e : (c0.toNat : Int) = 109
    · rw [if_pos e]; exact UInt8.toNat_inj.1 (by have h9 : (109 : UInt8).toNat = 109 := rfl; simp; omega)
    · rw [if_neg e] at hk ⊢
      by_cases e2 : (c0.toNat : Int) = 114
      · rw [if_pos e2]; exact UInt8.toNat_inj.1 (by have h9 : (114 : UInt8).toNat = 114 := rfl; simp; omega)
      · rw [if_neg e2] at hk; omega
  rw [this]; rfl

/-- What Read answers: a word whose signal this is, or an error. -/
theorem read_cases (s : List UInt8) : (∃ x, wordB x = true ∧ signalL x = s ∧ readV s = .tuple #[.string (B x), .int .i64 0]) ∨ (∃ (p : ByteArray) (e : Int), e ≠ 0 ∧ readV s = .tuple #[.string p, .int .i64 e]) := by
  unfold readV
  by_cases hf : flashE s 100 = 0
  · rw [if_pos hf]
    cases h : formO s with
    | none => exact .inr ⟨_, 7, by decide, rfl⟩
    | some x =>
      simp only
      by_cases hs : signalL x = s
      · rw [if_pos hs]
        refine .inl ⟨x, ?_, hs, rfl⟩
        unfold formO at h
        cases h2 : lettersO s with
        | none => rw [h2] at h; simp at h
        | some y =>
          rw [h2] at h
          simp only [Option.filter] at h
          split at h
          · rename_i hy; cases h; exact hy
          · cases h
      · rw [if_neg hs]; exact .inr ⟨_, 10, by decide, rfl⟩
  · rw [if_neg hf]; exact .inr ⟨_, _, hf, rfl⟩
end Go.Proofs.YtglhlfabfcneeaaDoor
