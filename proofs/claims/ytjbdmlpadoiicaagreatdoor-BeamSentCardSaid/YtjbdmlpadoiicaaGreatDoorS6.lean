/- The reference's way to read codes is the same as splitting at pauses. Plain. -/
import Derived.Test.YtjbdmlpadoiicaaGreatDoorS1
set_option linter.unusedVariables false
set_option linter.unusedSimpArgs false
namespace Go.Proofs.YtjbdmlpadoiicaaGreatDoor

/-- Letters and signs of codes, as far as an empty code. -/
def sentF : List UInt8 → List UInt8 → List UInt8 → List UInt8 × Bool
  | [], _, _ => ([], false)
  | b :: l, out, code => if b = 47 then (if code = [] then (out, l.isEmpty) else if letN code < 29 then sentF l (out ++ [letterB code]) [] else ([], false)) else sentF l out (code ++ [b])
def sentP (s : List UInt8) : List UInt8 × Bool := sentF s [] []
theorem sentF_pause (l out code : List UInt8) : sentF (47 :: l) out code = if code = [] then (out, l.isEmpty) else if letN code < 29 then sentF l (out ++ [letterB code]) [] else ([], false) := by simp [sentF]
theorem sentF_flash {b : UInt8} (h : b ≠ 47) (l out code : List UInt8) : sentF (b :: l) out code = sentF l out (code ++ [b]) := by simp [sentF, h]

theorem sentF_code : ∀ (c t out code : List UInt8), (47 : UInt8) ∉ c → sentF (c ++ t) out code = sentF t out (code ++ c)
  | [], t, out, code, _ => by simp
  | b :: c, t, out, code, h => by
    have hb : b ≠ 47 := fun e => h (by rw [e]; simp)
    rw [List.cons_append, sentF_flash hb, sentF_code c t out (code ++ [b]) (fun k => h (List.mem_cons_of_mem _ k))]
    simp
theorem good_ne {c : List UInt8} (h : goodB c = true) : c ≠ [] ∧ (47 : UInt8) ∉ c := by
  unfold goodB at h
  have hlt : letN c < 29 := of_decide_eq_true h
  have e : codeL (letN c) = c := by
    have hl : codesL.length = 29 := rfl
    have := List.findIdx_getElem (xs := codesL) (p := (· == c)) (w := by rw [hl]; exact hlt)
    unfold letN at hlt ⊢
    simpa [codeL, List.getElem?_eq_getElem (show List.findIdx (· == c) codesL < codesL.length by omega)] using this
  rw [← e]
  exact ⟨code_ne _ hlt, code_free _⟩
theorem sentF_join : ∀ (cs : List (List UInt8)) (out : List UInt8), cs.all goodB = true → sentF (joinB cs ++ [47]) out [] = (out ++ cs.map letterB, true)
  | [], out, _ => by rw [joinB_nil, List.nil_append, sentF_pause]; simp
  | c :: cs, out, h => by
    simp only [List.all_cons, Bool.and_eq_true] at h
    obtain ⟨h1, h2⟩ := good_ne h.1
    rw [joinB_cons, List.append_assoc, sentF_code c _ out [] h2, List.nil_append, List.cons_append, sentF_pause, if_neg h1, if_pos (of_decide_eq_true h.1), sentF_join cs _ h.2]
    simp
theorem sentF_inv : ∀ (s out code l : List UInt8), (47 : UInt8) ∉ code → sentF s out code = (l, true) → ∃ cs : List (List UInt8), cs.all goodB = true ∧ code ++ s = joinB cs ++ [47] ∧ l = out ++ cs.map letterB
  | [], out, code, l, _, h => by simp [sentF] at h
  | b :: s, out, code, l, hc, h => by
    by_cases hb : b = 47
    · subst hb
      rw [sentF_pause] at h
      by_cases hc0 : code = []
      · rw [if_pos hc0] at h
        simp only [Prod.mk.injEq, List.isEmpty_iff] at h
        exact ⟨[], rfl, by rw [hc0, h.2]; rfl, by rw [h.1]; simp⟩
      · rw [if_neg hc0] at h
        by_cases hg : letN code < 29
        · rw [if_pos hg] at h
          obtain ⟨cs, h1, h2, h3⟩ := sentF_inv s _ [] l (by simp) h
          refine ⟨code :: cs, by simp [h1, goodB, hg], ?_, by rw [h3]; simp⟩
          rw [joinB_cons, List.append_assoc, List.cons_append, ← h2]; simp
        · rw [if_neg hg] at h; simp at h
    · rw [sentF_flash hb] at h
      obtain ⟨cs, h1, h2, h3⟩ := sentF_inv s out (code ++ [b]) l (by
        intro k; rcases List.mem_append.1 k with k | k
        · exact hc k
        · exact hb (List.mem_singleton.1 k).symm) h
      exact ⟨cs, h1, by rw [← h2]; simp, h3⟩

theorem free_of_good {cs : List (List UInt8)} (h : cs.all goodB = true) : Free cs := fun c hc => (good_ne (List.all_eq_true.1 h c hc)).2
def midL (l : List UInt8) : List UInt8 := (l.drop 1).take (l.length - 3)
theorem letters_join {cs : List (List UInt8)} (h : cs.all goodB = true) (h4 : 4 ≤ cs.length) : lettersO (joinB cs ++ [47]) = some (midL (cs.map letterB)) := by
  have hne : cs ≠ [] := by intro e; rw [e] at h4; simp at h4
  obtain ⟨X, hX⟩ := joinB_end hne
  have hs : joinB cs ++ [47] = X ++ [47] ++ [47] := by rw [hX]
  have hc : codesOf (joinB cs ++ [47]) = cs := by
    unfold codesOf
    rw [hs, (suffix_two X).2]
    exact split_joined (free_of_good h) hX
  unfold lettersO midL
  rw [hc, h, hs, (suffix_two X).1]
  simp [h4]
theorem letters_inv {s x : List UInt8} (h : lettersO s = some x) : ∃ cs : List (List UInt8), cs.all goodB = true ∧ 4 ≤ cs.length ∧ s = joinB cs ++ [47] ∧ x = midL (cs.map letterB) := by
  unfold lettersO at h
  split at h
  · rename_i hc
    simp only [Bool.and_eq_true, decide_eq_true_eq] at hc
    obtain ⟨⟨hs, hg⟩, h4⟩ := hc
    refine ⟨codesOf s, hg, h4, ?_, ?_⟩
    · have h1 : s = Lib.trimSuffix s [47, 47] ++ [47, 47] := by
        unfold Lib.hasSuffix at hs
        rw [List.isSuffixOf_iff_suffix] at hs
        obtain ⟨t, ht⟩ := hs
        have := (suffix_two t).2
        rw [show t ++ [47] ++ [47] = s by rw [← ht]; simp] at this
        rw [this, ht]
      unfold codesOf
      rw [joinB_split]
      conv => lhs; rw [h1]
      simp
    · cases h; unfold midL; simp
  · cases h
/-- Whether the reference takes flashes as a word's. -/
theorem sent_form (s : List UInt8) : (∃ x, formO s = some x ∧ (sentP s).2 = true ∧ 4 ≤ (sentP s).1.length ∧ wordB (midL (sentP s).1) = true ∧ midL (sentP s).1 = x) ∨
    (formO s = none ∧ ((sentP s).2 = false ∨ (sentP s).1.length < 4 ∨ wordB (midL (sentP s).1) = false)) := by
  cases hl : lettersO s with
  | some x =>
    obtain ⟨cs, h1, h2, h3, h4⟩ := letters_inv hl
    have e : sentP s = (cs.map letterB, true) := by unfold sentP; rw [h3, sentF_join cs [] h1]; simp
    cases hw : wordB x
    · refine .inr ⟨by unfold formO; rw [hl]; simp [Option.filter, hw], .inr (.inr ?_)⟩
      rw [e, ← h4]; exact hw
    · refine .inl ⟨x, by unfold formO; rw [hl]; simp [Option.filter, hw], ?_⟩
      rw [e]
      exact ⟨rfl, by simpa using h2, by rw [← h4]; exact hw, h4.symm⟩
  | none =>
    refine .inr ⟨by unfold formO; rw [hl]; rfl, ?_⟩
    cases hb : (sentP s).2
    · exact .inl rfl
    · refine .inr (.inl ?_)
      apply Classical.byContradiction
      intro hc
      obtain ⟨cs, h1, h2, h3⟩ := sentF_inv s [] [] (sentP s).1 (by simp) (by rw [← hb]; rfl)
      rw [List.nil_append] at h2 h3
      rw [h3] at hc
      rw [h2, letters_join h1 (by simp at hc; omega)] at hl
      cases hl
end Go.Proofs.YtjbdmlpadoiicaaGreatDoor
