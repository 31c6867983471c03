/- Theory for CircleAttains: the bounds of the span, and what lies between them, are possible zeros. -/
import Derived.Test.YtebdboacmeafaaaCI8
import Derived.Test.YtebdboacmeafaaaCJ1
set_option linter.unusedVariables false
set_option linter.unusedSimpArgs false
namespace Go.Proofs.Ytebdboacmeafaaa
open Go Go.RowKit

theorem fr_symm (dr a b : Int) : frI dr a b = frI dr b a := by
  unfold frI; rw [show max (a - b) (b - a) = max (b - a) (a - b) by omega]
theorem fr_pos {dr a b : Int} (hd : 0 ≤ dr) : 0 ≤ frI dr a b := by
  unfold frI
  have : 0 ≤ dr * max (a - b) (b - a) := Int.mul_nonneg hd (by omega)
  exact Int.ediv_nonneg (by omega) (by decide)
theorem spLo_lip {dr : Int} (hd : 0 ≤ dr) (L : List Th) (s t : Int) : spLo dr L s ≤ spLo dr L t + frI dr s t := by
  have hp := fr_pos (a := s) (b := t) hd
  unfold spLo maxL
  refine fold_max_le ?_ fun y hy => ?_
  · have := (fold_max_ge (l := L.map fun h => lowI dr h t) (a := -300)).1
    omega
  · obtain ⟨h, hh, rfl⟩ := List.mem_map.1 hy
    have h1 := (fold_max_ge (l := L.map fun h => lowI dr h t) (a := -300)).2 (lowI dr h t) (List.mem_map.2 ⟨h, hh, rfl⟩)
    have h2 := fr_tri (dr := dr) (a := h.t) (b := t) (t := s) hd
    rw [fr_symm dr t s] at h2
    unfold lowI at h1 ⊢
    omega
theorem spHi_lip {dr : Int} (hd : 0 ≤ dr) (L : List Th) (s t : Int) : spHi dr L s ≤ spHi dr L t + frI dr s t := by
  have hp := fr_pos (a := s) (b := t) hd
  suffices h : spHi dr L s - frI dr s t ≤ spHi dr L t by omega
  show _ ≤ minL 300 _
  unfold minL
  refine fold_min_le ?_ fun y hy => ?_
  · have := (fold_min_ge (l := L.map fun h => highI dr h s) (a := 300)).1
    unfold spHi minL
    omega
  · obtain ⟨h, hh, rfl⟩ := List.mem_map.1 hy
    have h1 := (fold_min_ge (l := L.map fun h => highI dr h s) (a := 300)).2 (highI dr h s) (List.mem_map.2 ⟨h, hh, rfl⟩)
    have h2 := fr_tri (dr := dr) (a := h.t) (b := s) (t := t) hd
    rw [← show spHi dr L s = (L.map fun h => highI dr h s).foldl min 300 from rfl] at h1
    unfold highI at h1 ⊢
    omega
/-- Zeros that lie in the spans and differ by little enough are possible. -/
theorem ft_all {cs : List Ci} {ks : List Ck} {id lo hi : Int} (h : snE cs ks id lo hi = 0) {z : Ci} (hz : ciF cs id = some z) {zl : List Int} (hl : zl.length = (hi - lo + 1).toNat)
    (h1 : ∀ j, j < zl.length → spLo z.dr (dlL z ks) (lo + (j : Nat)) ≤ zl.getD j 0 ∧ zl.getD j 0 ≤ spHi z.dr (dlL z ks) (lo + (j : Nat)))
    (h2 : ∀ j k, j < zl.length → k < zl.length → max (zl.getD j 0 - zl.getD k 0) (zl.getD k 0 - zl.getD j 0) ≤ frI z.dr (lo + (k : Nat)) (lo + (j : Nat))) : (ftR cs ks id lo zl).2 = true := by
  unfold snE at h
  by_cases hc : ccE cs ks = 0
  · rw [if_pos hc] at h
    obtain ⟨b1, b2, b3, b4, ⟨b5, b6⟩, b7⟩ := di_bd (ccE_ok hc) hz h
    rw [ft_yes hc hz (by rw [Bool.and_eq_true, ci_iff, ci_iff]; omega) b7 fun j hj => ?_]
    refine fiB_yes (ci_iff.2 (h1 j hj)) fun k hk => ?_
    exact h2 j k hj (by omega)
  · rw [if_neg hc] at h; exact absurd h hc
theorem sn_ok {cs : List Ci} {ks : List Ck} {id lo hi : Int} (h : snE cs ks id lo hi = 0) : ∃ z, ciF cs id = some z ∧ ccE cs ks = 0 ∧ (0 ≤ lo ∧ lo ≤ hi ∧ hi ≤ 1048576 ∧ hi - lo < 400) ∧ (z.f ≤ lo ∧ hi ≤ z.t) ∧ ctB z.dr (dlL z ks) = false ∧ 0 ≤ z.dr := by
  unfold snE at h
  by_cases hc : ccE cs ks = 0
  · rw [if_pos hc] at h
    cases hf : ciF cs id with
    | none => rw [hf] at h; exact absurd (show (5 : Int) = 0 from h) (by decide)
    | some z =>
      obtain ⟨b1, b2, b3, b4, b5, b6⟩ := di_bd (ccE_ok hc) hf h
      have hzo := Ci.ok_iff.1 (ciF_ok (ccE_ok hc) hf)
      exact ⟨z, rfl, hc, ⟨b1, b2, b3, b4⟩, b5, b6, by omega⟩
  · rw [if_neg hc] at h; exact absurd h hc
section
variable {cs : List Ci} {ks : List Ck} {id lo hi : Int} {z : Ci}
theorem at_lo (j : Nat) {dr : Int} {L : List Th} {N : Nat} (hj : j < N) : ((spN dr L lo N).map fun p => p.1).getD j 0 = spLo dr L (lo + j) := by
  unfold spN; rw [List.getD_eq_getElem?_getD]; simp [hj]
theorem at_hi (j : Nat) {dr : Int} {L : List Th} {N : Nat} (hj : j < N) : ((spN dr L lo N).map fun p => p.2).getD j 0 = spHi dr L (lo + j) := by
  unfold spN; rw [List.getD_eq_getElem?_getD]; simp [hj]
theorem at_len {dr : Int} {L : List Th} {N : Nat} {G : Pi2 → Int} : ((spN dr L lo N).map G).length = N := by
  rw [List.length_map, spN_len]
/-- Zeros between the bounds. -/
def mdL (dr : Int) (L : List Th) (lo v : Int) (n : Nat) : List Int := (List.range n).map fun j => max (spLo dr L (lo + (j : Nat))) (min (spHi dr L (lo + (j : Nat))) v)
theorem md_len {dr : Int} {L : List Th} {v : Int} {n : Nat} : (mdL dr L lo v n).length = n := by unfold mdL; simp
theorem md_at {dr : Int} {L : List Th} {v : Int} {n j : Nat} (hj : j < n) : (mdL dr L lo v n).getD j 0 = max (spLo dr L (lo + j)) (min (spHi dr L (lo + j)) v) := by
  unfold mdL; rw [List.getD_eq_getElem?_getD]; simp [hj]
theorem md_succ {dr : Int} {L : List Th} {v : Int} {n : Nat} : mdL dr L lo v (n + 1) = mdL dr L lo v n ++ [max (spLo dr L (lo + n)) (min (spHi dr L (lo + n)) v)] := by
  unfold mdL; rw [List.range_succ, List.map_append]; rfl
theorem at_le (h : snE cs ks id lo hi = 0) (hz : ciF cs id = some z) {j : Nat} (hj : j < (hi - lo + 1).toNat) : spLo z.dr (dlL z ks) (lo + j) ≤ spHi z.dr (dlL z ks) (lo + j) := by
  obtain ⟨z', hz', hc, hb, _, hct, hd⟩ := sn_ok h
  rw [hz] at hz'; cases hz'
  exact sp_le (ccE_ok hc) hz ⟨by omega, by omega⟩ (by unfold ctB at hct; simpa using hct)
theorem at_bd (h : snE cs ks id lo hi = 0) (hz : ciF cs id = some z) {j : Nat} (hj : j < (hi - lo + 1).toNat) : -300 ≤ spLo z.dr (dlL z ks) (lo + j) ∧ spHi z.dr (dlL z ks) (lo + j) ≤ 300 := by
  obtain ⟨z', hz', hc, hb, _, hct, hd⟩ := sn_ok h
  rw [hz] at hz'; cases hz'
  have hzo := Ci.ok_iff.1 (ciF_ok (ccE_ok hc) hz)
  have := sp_bd (dr := z.dr) (l := dlL z ks) (t := lo + j) (by omega) ⟨by omega, by omega⟩ (dlL_ok (ccE_ok hc) hz)
  omega
theorem at_fits (h : snE cs ks id lo hi = 0) (hz : ciF cs id = some z) :
    (ftR cs ks id lo ((spN z.dr (dlL z ks) lo (hi - lo + 1).toNat).map fun p => p.1)).2 = true ∧ (ftR cs ks id lo ((spN z.dr (dlL z ks) lo (hi - lo + 1).toNat).map fun p => p.2)).2 = true ∧
      ∀ v, (ftR cs ks id lo (mdL z.dr (dlL z ks) lo v (hi - lo + 1).toNat)).2 = true := by
  obtain ⟨z', hz', hc, hb, _, hct, hd⟩ := sn_ok h
  rw [hz] at hz'; cases hz'
  refine ⟨ft_all h hz at_len (fun j hj => ?_) (fun j k hj hk => ?_), ft_all h hz at_len (fun j hj => ?_) (fun j k hj hk => ?_), fun v => ft_all h hz md_len (fun j hj => ?_) (fun j k hj hk => ?_)⟩
  · rw [at_len] at hj
    rw [at_lo j hj]
    exact ⟨Int.le_refl _, at_le h hz hj⟩
  · rw [at_len] at hj hk
    rw [at_lo j hj, at_lo k hk]
    have h1 := spLo_lip hd (dlL z ks) (lo + j) (lo + k)
    have h2 := spLo_lip hd (dlL z ks) (lo + k) (lo + j)
    rw [fr_symm z.dr (lo + j) (lo + k)] at h1
    omega
  · rw [at_len] at hj
    rw [at_hi j hj]
    exact ⟨at_le h hz hj, Int.le_refl _⟩
  · rw [at_len] at hj hk
    rw [at_hi j hj, at_hi k hk]
    have h1 := spHi_lip hd (dlL z ks) (lo + j) (lo + k)
    have h2 := spHi_lip hd (dlL z ks) (lo + k) (lo + j)
    rw [fr_symm z.dr (lo + j) (lo + k)] at h1
    omega
  · rw [md_len] at hj
    rw [md_at hj]
    have := at_le h hz hj
    omega
  · rw [md_len] at hj hk
    rw [md_at hj, md_at hk]
    have h1 := spHi_lip hd (dlL z ks) (lo + j) (lo + k)
    have h2 := spHi_lip hd (dlL z ks) (lo + k) (lo + j)
    have h3 := spLo_lip hd (dlL z ks) (lo + j) (lo + k)
    have h4 := spLo_lip hd (dlL z ks) (lo + k) (lo + j)
    rw [fr_symm z.dr (lo + j) (lo + k)] at h1 h3
    omega
theorem at_zero (h : snE cs ks id lo hi = 0) (hz : ciF cs id = some z) {j : Nat} (hj : j < (hi - lo + 1).toNat) : zrV cs ks id (lo + j) = .tuple #[.agg #[.int .i64 (spLo z.dr (dlL z ks) (lo + j)), .int .i64 (spHi z.dr (dlL z ks) (lo + j))], .int .i64 0] := by
  obtain ⟨z', hz', hc, hb, hu, hct, hd⟩ := sn_ok h
  rw [hz] at hz'; cases hz'
  have he : zrE cs ks id (lo + j) = 0 := by
    unfold zrE
    rw [if_pos hc, hz]
    show (if ciB (lo + j) z.f z.t = true then (if ctB z.dr (dlL z ks) = true then (9 : Int) else 0) else 1) = 0
    rw [if_pos (ci_iff.2 ⟨by omega, by omega⟩), hct]; rfl
  have hr := zr_of (ks := ks) (t := lo + j) hz
  unfold zrV
  rw [if_pos he, hr.1, hr.2]
/-- With one zero above its span they are not possible. -/
theorem at_no (h : snE cs ks id lo hi = 0) (hz : ciF cs id = some z) {k : Nat} {zl : List Int} (hk : k < zl.length) (hv : zl.getD k 0 = spHi z.dr (dlL z ks) (lo + k) + 1) : (ftR cs ks id lo zl).2 = false := by
  cases hf : (ftR cs ks id lo zl).2
  · rfl
  · obtain ⟨z', hz', _, _, _, _, h4⟩ := ft_ok hf
    rw [hz] at hz'; cases hz'
    have h5 := h4 k hk
    unfold fiB at h5
    rw [Bool.and_eq_true, ci_iff, hv] at h5
    omega
theorem ceK_vals (cs : List Ci) (k : Ck) : ceK cs k = 0 ∨ ceK cs k = 1 ∨ ceK cs k = 5 := by
  unfold ceK
  split
  · split
    · exact .inr (.inr rfl)
    · split
      · exact .inr (.inl rfl)
      · exact .inl rfl
  · exact .inr (.inl rfl)
theorem ciE_vals (l : List Ci) : ∀ n, ciE l n = 0 ∨ ciE l n = 1 ∨ ciE l n = 6
  | 0 => .inl rfl
  | n + 1 => by
    have h3 : ciE l (n + 1) = (if ciE l n = 0 then (if (l.getD n .nil).ok then (if (ciF (l.take n) (l.getD n .nil).id).isSome then 6 else 0) else 1) else ciE l n) := rfl
    rw [h3]
    split
    · split
      · split
        · exact .inr (.inr rfl)
        · exact .inl rfl
      · exact .inr (.inl rfl)
    · exact ciE_vals l n
theorem ckE_vals (cs : List Ci) (l : List Ck) : ∀ n, ckE cs l n = 0 ∨ ckE cs l n = 1 ∨ ckE cs l n = 5 ∨ ckE cs l n = 6
  | 0 => .inl rfl
  | n + 1 => by
    have h3 : ckE cs l (n + 1) = (if ckE cs l n = 0 then (if ceK cs (l.getD n .nil) = 0 then (if (ckF (l.take n) (l.getD n .nil).id).isSome then 6 else 0) else ceK cs (l.getD n .nil)) else ckE cs l n) := rfl
    rw [h3]
    split
    · split
      · split
        · exact .inr (.inr (.inr rfl))
        · exact .inl rfl
      · rcases ceK_vals cs (l.getD n .nil) with h | h | h <;> rw [h] <;> simp
    · exact ckE_vals cs l n
theorem ccE_ne9 (cs : List Ci) (ks : List Ck) : ccE cs ks ≠ 9 := by
  unfold ccE
  split
  · decide
  · split
    · rcases ckE_vals cs ks ks.length with h | h | h | h <;> rw [h] <;> decide
    · rcases ciE_vals cs cs.length with h | h | h <;> rw [h] <;> decide
/-- Where the code is that of a contradiction, there are pairs. -/
theorem at_clash (h : snE cs ks id lo hi = 9) : ccE cs ks = 0 ∧ 0 < (clK cs ks cs.length).length := by
  unfold snE at h
  by_cases hc : ccE cs ks = 0
  · refine ⟨hc, ?_⟩
    rw [if_pos hc] at h
    cases hf : ciF cs id with
    | none => rw [hf] at h; exact absurd (show (5 : Int) = 9 from h) (by decide)
    | some z =>
      rw [hf] at h
      have hct : ctB z.dr (dlL z ks) = true := by
        unfold diE at h
        simp only at h
        split at h
        · exact absurd h (by decide)
        · split at h
          · exact absurd h (by decide)
          · split at h
            · rename_i h1; exact h1
            · exact absurd h (by decide)
      obtain ⟨j, hj, hjz, _⟩ := ciF_mem hf
      have hne : clL z.dr (dlL z ks) ≠ [] := by
        unfold ctB at hct
        intro e
        rw [e] at hct; exact absurd hct (by decide)
      obtain ⟨p, hp⟩ := List.exists_mem_of_ne_nil _ hne
      have hm : p ∈ clK cs ks cs.length := by
        unfold clK
        refine List.mem_flatMap.2 ⟨z, ?_, ?_⟩
        · rw [List.take_length, ← hjz, List.getD_eq_getElem?_getD, List.getElem?_eq_getElem hj]; exact List.getElem_mem _
        · unfold clN
          have hid : ciF cs z.id = some z := by
            obtain ⟨_, _, _, hzi⟩ := ciF_mem hf
            rw [hzi]; exact hf
          rw [hid]
          exact hp
      exact List.length_pos_of_mem hm
  · rw [if_neg hc] at h; exact absurd h (ccE_ne9 cs ks)
end
end Go.Proofs.Ytebdboacmeafaaa
