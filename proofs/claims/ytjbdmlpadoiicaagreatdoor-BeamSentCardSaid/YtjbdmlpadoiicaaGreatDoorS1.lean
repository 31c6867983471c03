/- Signals as lists of codes, each followed by a pause: what Read takes of Signal. Plain. -/
import Derived.Test.YtjbdmlpadoiicaaGreatDoorB5
set_option linter.unusedVariables false
set_option linter.unusedSimpArgs false
namespace Go.Proofs.YtjbdmlpadoiicaaGreatDoor

def joinB (cs : List (List UInt8)) : List UInt8 := cs.flatMap fun c => c ++ [47]
theorem joinB_cons (c : List UInt8) (cs : List (List UInt8)) : joinB (c :: cs) = c ++ 47 :: joinB cs := by simp [joinB]
theorem joinB_nil : joinB [] = [] := rfl
theorem joinB_app (a b : List (List UInt8)) : joinB (a ++ b) = joinB a ++ joinB b := by simp [joinB]

theorem split_uni : ∀ {c d r q : List UInt8}, 47 ∉ c → 47 ∉ d → c ++ 47 :: r = d ++ 47 :: q → c = d ∧ r = q
  | [], [], _, _, _, _, h => ⟨rfl, by simpa using h⟩
  | [], y :: d, _, _, _, hd, h => by
    simp only [List.nil_append, List.cons_append, List.cons.injEq] at h
    exact absurd (by rw [← h.1]; simp) hd
  | x :: c, [], _, _, hc, _, h => by
    simp only [List.nil_append, List.cons_append, List.cons.injEq] at h
    exact absurd (by rw [h.1]; simp) hc
  | x :: c, y :: d, _, _, hc, hd, h => by
    simp only [List.cons_append, List.cons.injEq] at h
    obtain ⟨h1, h2⟩ := split_uni (fun k => hc (List.mem_cons_of_mem _ k)) (fun k => hd (List.mem_cons_of_mem _ k)) h.2
    exact ⟨by rw [h.1, h1], h2⟩
def Free (cs : List (List UInt8)) : Prop := ∀ c ∈ cs, (47 : UInt8) ∉ c
theorem Free.tl {c : List UInt8} {cs : List (List UInt8)} (h : Free (c :: cs)) : Free cs := fun d hd => h d (List.mem_cons_of_mem _ hd)
theorem Free.hd {c : List UInt8} {cs : List (List UInt8)} (h : Free (c :: cs)) : (47 : UInt8) ∉ c := h c (by simp)
theorem joinB_inj : ∀ {cs ds : List (List UInt8)}, Free cs → Free ds → joinB cs = joinB ds → cs = ds
  | [], [], _, _, _ => rfl
  | [], d :: ds, _, _, h => by rw [joinB_cons, joinB_nil] at h; simp at h
  | c :: cs, [], _, _, h => by rw [joinB_cons, joinB_nil] at h; simp at h
  | c :: cs, d :: ds, hc, hd, h => by
    rw [joinB_cons, joinB_cons] at h
    obtain ⟨e, h2⟩ := split_uni hc.hd hd.hd h
    rw [e, joinB_inj hc.tl hd.tl h2]
theorem joinB_split : ∀ X : List UInt8, joinB (splitB 47 X) = X ++ [47]
  | [] => rfl
  | b :: l => by
    have ih := joinB_split l
    simp only [splitB]
    split
    · rename_i h
      rw [joinB_cons, ih]; simp at h; rw [h]; rfl
    · obtain ⟨x, xs, e⟩ := List.exists_cons_of_ne_nil (splitB_ne 47 l)
      rw [e] at ih ⊢
      rw [joinB_cons] at ih ⊢
      simp only [List.headD_cons, List.tail_cons, List.cons_append]
      rw [ih]
theorem split_free : ∀ X : List UInt8, Free (splitB 47 X)
  | [] => fun c hc => by simp [splitB] at hc; rw [hc]; simp
  | b :: l => by
    have ih := split_free l
    simp only [splitB]
    split
    · intro c hc
      rcases List.mem_cons.1 hc with rfl | hc
      · simp
      · exact ih c hc
    · rename_i h
      obtain ⟨x, xs, e⟩ := List.exists_cons_of_ne_nil (splitB_ne 47 l)
      rw [e] at ih ⊢
      intro c hc
      simp only [List.headD_cons, List.tail_cons] at hc
      rcases List.mem_cons.1 hc with rfl | hc
      · intro k
        rcases List.mem_cons.1 k with k | k
        · simp [← k] at h
        · exact ih.hd k
      · exact ih.tl c hc
theorem split_joined {cs : List (List UInt8)} {X : List UInt8} (h : Free cs) (e : joinB cs = X ++ [47]) : splitB 47 X = cs :=
  joinB_inj (split_free X) h ((joinB_split X).trans e.symm)

/-! ### The codes of letters and signs -/
def cdOf (c : UInt8) : List UInt8 := codeL (valI c).toNat
theorem flashL_join (t : List UInt8) : flashL t = joinB (t.map cdOf) := by simp [flashL, joinB, cdOf, List.flatMap_map]
theorem code_good (k : Nat) (hk : k < 29) : letN (codeL k) = k := by
  have : ∀ k : Fin 29, letN (codeL k) = k := by decide +kernel
  exact this ⟨k, hk⟩
theorem code_free (k : Nat) : (47 : UInt8) ∉ codeL k := by
  by_cases hk : k < 29
  · have : ∀ k : Fin 29, (47 : UInt8) ∉ codeL k := by decide +kernel
    exact this ⟨k, hk⟩
  · unfold codeL; rw [List.getD_eq_getElem?_getD, List.getElem?_eq_none (by have : codesL.length = 29 := rfl; omega)]; simp
theorem code_ne (k : Nat) (hk : k < 29) : codeL k ≠ [] := by
  have : ∀ k : Fin 29, codeL k ≠ [] := by decide +kernel
  exact this ⟨k, hk⟩
theorem val_nat {c : UInt8} (h : 0 ≤ valI c) : (valI c).toNat < 29 := by have := valI_bd c; omega
theorem sign_val {c : UInt8} (h : 0 ≤ valI c) : signsL.getD (valI c).toNat 0 = c :=
  u8_all (p := fun c => 0 ≤ valI c → signsL.getD (valI c).toNat 0 = c) (by decide +kernel) c h
theorem letter_cd {c : UInt8} (h : 0 ≤ valI c) : letterB (cdOf c) = c := by
  unfold letterB cdOf; rw [code_good _ (val_nat h)]; exact sign_val h
theorem good_cd {c : UInt8} (h : 0 ≤ valI c) : goodB (cdOf c) = true := by
  unfold goodB cdOf; rw [code_good _ (val_nat h)]; exact decide_eq_true (val_nat h)
theorem cd_inj {c d : UInt8} (hc : 0 ≤ valI c) (hd : 0 ≤ valI d) (h : cdOf c = cdOf d) : c = d := by rw [← letter_cd hc, ← letter_cd hd, h]
theorem cds_free (t : List UInt8) : Free (t.map cdOf) := fun c hc => by
  obtain ⟨x, _, rfl⟩ := List.mem_map.1 hc; exact code_free _

theorem signal_join (w : List UInt8) : signalL w = joinB ((textL w).map cdOf) ++ [47] := by unfold signalL; rw [flashL_join]
theorem text_ne (w : List UInt8) : (textL w).map cdOf ≠ [] := by
  intro h
  have := congrArg List.length h
  simp [textL_length] at this
theorem joinB_end {cs : List (List UInt8)} (h : cs ≠ []) : ∃ X, joinB cs = X ++ [47] := by
  obtain ⟨d, c, rfl⟩ : ∃ d c, cs = d ++ [c] := ⟨_, _, (List.dropLast_concat_getLast h).symm⟩
  exact ⟨joinB d ++ c, by rw [joinB_app, joinB_cons, joinB_nil]; simp⟩
theorem suffix_two (X : List UInt8) : Lib.hasSuffix (X ++ [47] ++ [47]) [47, 47] = true ∧ Lib.trimSuffix (X ++ [47] ++ [47]) [47, 47] = X := by
  have h1 : Lib.hasSuffix (X ++ [47] ++ [47]) [47, 47] = true := by
    unfold Lib.hasSuffix
    rw [List.isSuffixOf_iff_suffix]
    exact ⟨X, by simp⟩
  refine ⟨h1, ?_⟩
  unfold Lib.trimSuffix
  rw [if_pos h1]
  simp

theorem letters_signal {w : List UInt8} (hw : wordB w = true) : lettersO (signalL w) = some w := by
  obtain ⟨X, hX⟩ := joinB_end (text_ne w)
  have hs : signalL w = X ++ [47] ++ [47] := by rw [signal_join, hX]
  have hc : codesOf (signalL w) = (textL w).map cdOf := by
    unfold codesOf
    rw [hs, (suffix_two X).2]
    exact split_joined (cds_free _) hX
  have hv := valI_text hw
  have hall : ((textL w).map cdOf).all goodB = true := by
    rw [List.all_eq_true]; intro c hc
    obtain ⟨x, hx, rfl⟩ := List.mem_map.1 hc
    exact good_cd (hv x hx)
  have hmap : ((textL w).map cdOf).map letterB = textL w := by
    rw [List.map_map]
    conv => rhs; rw [← List.map_id (textL w)]
    exact List.map_congr_left (fun x hx => letter_cd (hv x hx))
  have hl := textL_length w
  have h1 := (word_parts hw).1
  unfold lettersO
  rw [hc, hall, hmap, hs, (suffix_two X).1]
  simp only [Bool.and_self, Bool.true_and, List.length_map, hl]
  rw [if_pos (by simp; omega)]
  congr 1
  unfold textL aheadL behindL
  simp [signL]
theorem signal_flash {w : List UInt8} (hw : wordB w = true) : flashE (signalL w) 100 = 0 := by
  have hl : (signalL w).length ≤ 100 := by
    have := flashL_length (textL w); have := textL_length w; have := (word_parts hw).2.1
    unfold signalL; simp only [List.length_append, List.length_cons, List.length_nil]; omega
  have hc : ∀ k : Nat, ∀ c ∈ codeL k, flashB c = true := fun k => by
    by_cases hk : k < 29
    · have : ∀ k : Fin 29, ∀ c ∈ codeL k, flashB c = true := by decide +kernel
      exact this ⟨k, hk⟩
    · unfold codeL; rw [List.getD_eq_getElem?_getD, List.getElem?_eq_none (by have : codesL.length = 29 := rfl; omega)]; simp
  unfold flashE
  rw [if_neg (by omega), if_pos]
  rw [List.all_eq_true]
  intro c h
  unfold signalL at h
  rcases List.mem_append.1 h with h | h
  · unfold flashL at h
    obtain ⟨x, _, hx⟩ := List.mem_flatMap.1 h
    rcases List.mem_append.1 hx with h | h
    · exact hc _ c h
    · rw [List.mem_singleton.1 h]; rfl
  · rw [List.mem_singleton.1 h]; rfl
/-- Read of Signal is the word. -/
theorem read_signal {w : List UInt8} (hw : wordB w = true) : readV (signalL w) = .tuple #[.string (B w), .int .i64 0] :=
  readV_ok (signal_flash hw) (by unfold formO; rw [letters_signal hw]; simp [Option.filter, hw]) rfl
/-- What Read answers: a word whose signal this is, or an error. -/
theorem read_cases (s : List UInt8) : (∃ x, wordB x = true ∧ signalL x = s ∧ readV s = .tuple #[.string (B x), .int .i64 0]) ∨ (∃ (p : ByteArray) (e : Int), e ≠ 0 ∧ readV s = .tuple #[.string p, .int .i64 e]) := by
  unfold readV
  by_cases hf : flashE s 100 = 0
  · rw [if_pos hf]
    cases h : formO s with
    | none => exact .inr ⟨_, 7, by decide, rfl⟩
    | some x =>
      simp only
      by_cases hs : signalL x = s
      · rw [if_pos hs]
        refine .inl ⟨x, ?_, hs, rfl⟩
        unfold formO at h
        cases h2 : lettersO s with
        | none => rw [h2] at h; simp at h
        | some y =>
          rw [h2] at h
          simp only [Option.filter] at h
          split at h
          · rename_i hy; cases h; exact hy
          · cases h
      · rw [if_neg hs]; exact .inr ⟨_, 10, by decide, rfl⟩
  · rw [if_neg hf]; exact .inr ⟨_, _, hf, rfl⟩
end Go.Proofs.YtjbdmlpadoiicaaGreatDoor
