/- Theory: with fewer checks no span is narrower, and the pairs are those of the checks that are left (for CircleMore and CirclePairs). -/
import Derived.Test.YtebdboacmeafaaaCH1
import Derived.Test.YtebdboacmeafaaaCG7
set_option linter.unusedVariables false
set_option linter.unusedSimpArgs false
namespace Go.Proofs.Ytebdboacmeafaaa
open Go Go.RowKit

theorem fold_max_ge : ∀ {l : List Int} {a : Int}, a ≤ l.foldl max a ∧ ∀ y ∈ l, y ≤ l.foldl max a
  | [], a => ⟨Int.le_refl _, by simp⟩
  | y :: l, a => by
    obtain ⟨h1, h2⟩ := fold_max_ge (l := l) (a := max a y)
    rw [List.foldl_cons]
    refine ⟨by omega, fun z hz => ?_⟩
    rcases List.mem_cons.1 hz with rfl | hz
    · omega
    · exact h2 z hz
theorem fold_min_ge : ∀ {l : List Int} {a : Int}, l.foldl min a ≤ a ∧ ∀ y ∈ l, l.foldl min a ≤ y
  | [], a => ⟨Int.le_refl _, by simp⟩
  | y :: l, a => by
    obtain ⟨h1, h2⟩ := fold_min_ge (l := l) (a := min a y)
    rw [List.foldl_cons]
    refine ⟨by omega, fun z hz => ?_⟩
    rcases List.mem_cons.1 hz with rfl | hz
    · omega
    · exact h2 z hz
/-- With fewer things no span is narrower. -/
theorem sp_mono (dr t : Int) {l m : List Th} (h : ∀ x ∈ l, x ∈ m) : spLo dr l t ≤ spLo dr m t ∧ spHi dr m t ≤ spHi dr l t := by
  unfold spLo spHi maxL minL
  constructor
  · refine fold_max_le fold_max_ge.1 fun y hy => ?_
    obtain ⟨x, hx, rfl⟩ := List.mem_map.1 hy
    exact fold_max_ge.2 _ (List.mem_map.2 ⟨x, h x hx, rfl⟩)
  · refine fold_min_le fold_min_ge.1 fun y hy => ?_
    obtain ⟨x, hx, rfl⟩ := List.mem_map.1 hy
    exact fold_min_ge.2 _ (List.mem_map.2 ⟨x, h x hx, rfl⟩)
/-- The pairs of the things that are left. -/
theorem clL_filter (dr : Int) (q : Int → Bool) : ∀ S : List Th, clL dr (S.filter fun a => q a.id) = (clL dr S).filter fun p => q p.1 && q p.2
  | [] => rfl
  | a :: l => by
    have ih := clL_filter dr q l
    have hmap : ((l.filter fun b => clB dr a b).map fun b => (a.id, b.id)).filter (fun p : Pi2 => q p.1 && q p.2) = if q a.id = true then (((l.filter fun b => q b.id).filter fun b => clB dr a b).map fun b => (a.id, b.id)) else [] := by
      rw [List.filter_map, List.filter_filter, List.filter_filter]
      cases h : q a.id
      · simp [Function.comp_def, h]
      · simp only [Function.comp_def, h, Bool.true_and, if_true]
        congr 1
        apply List.filter_congr
        intro x _
        rw [Bool.and_comm]
    have hself : (if a.no = true then [(a.id, a.id)] else []).filter (fun p : Pi2 => q p.1 && q p.2) = if q a.id = true then (if a.no = true then [(a.id, a.id)] else []) else [] := by
      cases h : q a.id <;> cases h2 : a.no <;> simp [h]
    rw [List.filter_cons]
    cases h : q a.id
    · rw [if_neg (by simp), ih]
      show _ = ((_ ++ _) ++ _ : List Pi2).filter _
      rw [List.filter_append, List.filter_append, hmap, hself, h]
      simp
    · rw [if_pos rfl]
      show ((_ ++ _) ++ _ : List Pi2) = ((_ ++ _) ++ _ : List Pi2).filter _
      rw [List.filter_append, List.filter_append, hmap, hself, h, ih]
      simp
theorem dl_ord {cs : List Ci} {ks : List Ck} (ho : CcOk cs ks) (z : Ci) : (dlL z ks).Pairwise fun s t => s.id < t.id := by
  have hids := thL_ids ho z
  have h1 := srtH_ord (thL z ks)
  have h2 : ((srtH (thL z ks)).map Th.id).Nodup := ((srtH_perm (thL z ks)).map Th.id).nodup_iff.2 hids
  rw [List.Nodup, List.pairwise_map] at h2
  exact (h1.and h2).imp (fun {a b} h => by have := h.1; have := h.2; omega)
/-- The things when checks are left out. -/
theorem thL_filter {cs : List Ci} {ks : List Ck} (ho : CcOk cs ks) (z : Ci) (p : Int → Bool) : thL z (ks.filter fun k => p k.id) = (thL z ks).filter fun h => h.id == 0 || p h.id := by
  unfold thL
  rw [List.filter_cons, if_pos (show ((Th.beg z).id == 0 || p (Th.beg z).id) = true by simp [Th.beg])]
  congr 1
  rw [List.filter_map, List.filter_filter, List.filter_filter]
  congr 1
  apply List.filter_congr
  intro k hk
  obtain ⟨j, hj, hjk⟩ := List.getElem_of_mem hk
  obtain ⟨⟨y, hy⟩, _⟩ := ho.ck j hj
  have e1 : ks.getD j .nil = k := by rw [List.getD_eq_getElem?_getD, List.getElem?_eq_getElem hj]; exact hjk
  rw [e1] at hy
  have hid := hy.id
  have e2 : (k.id == 0) = false := by simpa using (by omega : ¬ k.id = 0)
  show (k.c == z.id && p k.id) = ((k.id == 0 || p k.id) && (k.c == z.id))
  rw [e2, Bool.false_or, Bool.and_comm]
theorem dlL_filter {cs : List Ci} {ks : List Ck} (ho : CcOk cs ks) (z : Ci) (p : Int → Bool) : dlL z (ks.filter fun k => p k.id) = (dlL z ks).filter fun h => h.id == 0 || p h.id := by
  have h := OrdH.eq (L := (dlL z ks).filter fun h => h.id == 0 || p h.id) (l := thL z (ks.filter fun k => p k.id)) ⟨by rw [thL_filter ho]; exact (srtH_perm _).filter _, (dl_ord ho z).filter _⟩
  exact h.symm
/-- The pairs of a circle when checks are left out. -/
theorem cl_left {cs : List Ci} {ks : List Ck} (ho : CcOk cs ks) (z : Ci) (p : Int → Bool) : clL z.dr (dlL z (ks.filter fun k => p k.id)) = (clL z.dr (dlL z ks)).filter fun x => (x.1 == 0 || p x.1) && (x.2 == 0 || p x.2) := by
  rw [dlL_filter ho]
  exact clL_filter z.dr (fun i => i == 0 || p i) (dlL z ks)
theorem ckE_zero {cs : List Ci} {l : List Ck} : ∀ n, (∀ k, k < n → ceK cs (l.getD k .nil) = 0 ∧ ckF (l.take k) (l.getD k .nil).id = none) → ckE cs l n = 0
  | 0, _ => rfl
  | n + 1, h => by
    have h0 := ckE_zero n (fun k hk => h k (by omega))
    obtain ⟨h1, h2⟩ := h n (by omega)
    have h3 : ckE cs l (n + 1) = (if ckE cs l n = 0 then (if ceK cs (l.getD n .nil) = 0 then (if (ckF (l.take n) (l.getD n .nil).id).isSome then 6 else 0) else ceK cs (l.getD n .nil)) else ckE cs l n) := rfl
    rw [h3, if_pos h0, if_pos h1, h2]
    rfl
/-- Right circles stay right when checks are left out. -/
theorem ccE_filter {cs : List Ci} {ks : List Ck} (h : ccE cs ks = 0) (p : Ck → Bool) : ccE cs (ks.filter p) = 0 := by
  have ho := ccE_ok h
  have hids := (ck_ids ho).filter p
  have hlen := List.length_filter_le p ks
  have hm := ho.m
  have hn := ho.n
  unfold ccE at h
  split at h
  · cases h
  · split at h
    · rename_i h2
      unfold ccE
      rw [decide_eq_false (by omega : ¬ 12 < cs.length), decide_eq_false (by omega : ¬ 60 < (ks.filter p).length), if_neg (by simp), if_pos h2]
      refine ckE_zero _ fun k hk => ?_
      have hg : (ks.filter p).getD k .nil = (ks.filter p)[k] := by rw [List.getD_eq_getElem?_getD, List.getElem?_eq_getElem hk]; rfl
      have hmem : (ks.filter p)[k] ∈ ks := (List.mem_filter.1 (List.getElem_mem hk)).1
      obtain ⟨j, hj, hjk⟩ := List.getElem_of_mem hmem
      have e1 : ks.getD j .nil = (ks.filter p)[k] := by rw [List.getD_eq_getElem?_getD, List.getElem?_eq_getElem hj]; exact hjk
      have h5 := (ckE_ok h j hj).1
      rw [e1] at h5
      rw [hg]
      refine ⟨h5, ?_⟩
      unfold ckF
      rw [List.find?_eq_none]
      intro x hx
      obtain ⟨i, hi, hx⟩ := List.mem_take_iff_getElem.1 hx
      have h6 := (List.pairwise_iff_getElem.1 hids) i k (by omega) hk (by omega)
      rw [← hx]
      simpa using h6
    · rename_i h2; exact absurd h h2
/-- The pairs of all circles when checks are left out. -/
theorem clK_left {cs : List Ci} {ks : List Ck} (ho : CcOk cs ks) (p : Int → Bool) (n : Nat) : clK cs (ks.filter fun k => p k.id) n = (clK cs ks n).filter fun x => (x.1 == 0 || p x.1) && (x.2 == 0 || p x.2) := by
  unfold clK
  rw [List.filter_flatMap]
  congr 1
  funext z
  unfold clN
  exact cl_left ho _ p
/-- With fewer checks no span of Zero is narrower. -/
theorem zr_mono {cs : List Ci} {ks : List Ck} (ho : CcOk cs ks) (id t : Int) (p : Int → Bool) : zrL cs (ks.filter fun k => p k.id) id t ≤ zrL cs ks id t ∧ zrH cs ks id t ≤ zrH cs (ks.filter fun k => p k.id) id t := by
  unfold zrL zrH
  have h : ∀ x ∈ dlL ((ciF cs id).getD .nil) (ks.filter fun k => p k.id), x ∈ dlL ((ciF cs id).getD .nil) ks := fun x hx => by
    rw [dlL_filter ho] at hx
    exact (List.mem_filter.1 hx).1
  exact sp_mono _ t h
/-- Without one check there are no pairs exactly if it stands in all of them. -/
theorem pairs_one {cs : List Ci} {ks : List Ck} (ho : CcOk cs ks) {i : Int} (hi : i ≠ 0) (n : Nat) : (clK cs (ks.filter fun k => !(k.id == i)) n).isEmpty = susB (clK cs ks n) i := by
  have h := clK_left ho (fun j => !(j == i)) n
  rw [h]
  unfold susB
  generalize clK cs ks n = L
  induction L with
  | nil => rfl
  | cons a L ih =>
    rw [List.filter_cons, List.all_cons, ← ih]
    unfold hasI
    have e : ∀ x : Int, (x == 0 || !(x == i)) = !(x == i) := fun x => by
      cases h1 : (x == i)
      · simp
      · have : x = i := by simpa using h1
        subst this
        simpa using hi
    rw [e, e]
    cases h1 : (a.1 == i) <;> cases h2 : (a.2 == i) <;> simp
theorem pairs_none (cs : List Ci) (n : Nat) : clK cs [] n = [] := by
  unfold clK
  rw [List.flatMap_eq_nil_iff]
  intro z _
  unfold clN dlL thL
  simp [srtH, insH, clL, Th.beg]
end Go.Proofs.Ytebdboacmeafaaa
