/- Theory: a span rests on the things that Rests names: without the other checks it is the same (for CircleMore). -/
import Derived.Test.YtebdboacmeafaaaCH2
set_option linter.unusedVariables false
set_option linter.unusedSimpArgs false
namespace Go.Proofs.Ytebdboacmeafaaa
open Go Go.RowKit

theorem max_hit : ∀ {l : List Int} {a : Int}, l.foldl max a = a ∨ l.foldl max a ∈ l
  | [], a => .inl rfl
  | y :: l, a => by
    rw [List.foldl_cons]
    rcases max_hit (l := l) (a := max a y) with h | h
    · rw [h]
      rcases (by omega : max a y = a ∨ max a y = y) with h | h
      · exact .inl h
      · exact .inr (by rw [h]; exact List.mem_cons_self ..)
    · exact .inr (List.mem_cons_of_mem _ h)
theorem min_hit : ∀ {l : List Int} {a : Int}, l.foldl min a = a ∨ l.foldl min a ∈ l
  | [], a => .inl rfl
  | y :: l, a => by
    rw [List.foldl_cons]
    rcases min_hit (l := l) (a := min a y) with h | h
    · rw [h]
      rcases (by omega : min a y = a ∨ min a y = y) with h | h
      · exact .inl h
      · exact .inr (by rw [h]; exact List.mem_cons_self ..)
    · exact .inr (List.mem_cons_of_mem _ h)
theorem rest_lo {cs : List Ci} {ks : List Ck} (ho : CcOk cs ks) (z : Ci) (t : Int) {p : Int → Bool} (hp : p (rsI (fun h => lowI z.dr h t) (spLo z.dr (dlL z ks) t) (-300) (dlL z ks)) = true ∨ rsI (fun h => lowI z.dr h t) (spLo z.dr (dlL z ks) t) (-300) (dlL z ks) = 0) :
    spLo z.dr (dlL z (ks.filter fun k => p k.id)) t = spLo z.dr (dlL z ks) t := by
  have hsub : ∀ x ∈ dlL z (ks.filter fun k => p k.id), x ∈ dlL z ks := fun x hx => by
    rw [dlL_filter ho] at hx
    exact (List.mem_filter.1 hx).1
  have h1 := (sp_mono z.dr t hsub).1
  refine Int.le_antisymm h1 ?_
  by_cases hb : spLo z.dr (dlL z ks) t = -300
  · rw [hb]; exact fold_max_ge.1
  · rcases rsI_ok (A := fun h => lowI z.dr h t) hb (srtH_ord (thL z ks)) with ⟨q1, _⟩ | ⟨h, q1, q2, q3, _⟩
    · exfalso
      rcases max_hit (l := (dlL z ks).map fun h => lowI z.dr h t) (a := -300) with e | e
      · exact hb e
      · obtain ⟨x, hx, ex⟩ := List.mem_map.1 e
        exact q1 x hx ex
    · have hm : h ∈ dlL z (ks.filter fun k => p k.id) := by
        rw [dlL_filter ho]
        refine List.mem_filter.2 ⟨q1, ?_⟩
        have q3' : rsI (fun h => lowI z.dr h t) (spLo z.dr (dlL z ks) t) (-300) (dlL z ks) = h.id := q3
        rw [q3'] at hp
        rcases hp with e | e
        · rw [e]; simp
        · rw [e]; simp
      rw [← q2]
      exact fold_max_ge.2 _ (List.mem_map.2 ⟨h, hm, rfl⟩)
theorem rest_hi {cs : List Ci} {ks : List Ck} (ho : CcOk cs ks) (z : Ci) (t : Int) {p : Int → Bool} (hp : p (rsI (fun h => highI z.dr h t) (spHi z.dr (dlL z ks) t) 300 (dlL z ks)) = true ∨ rsI (fun h => highI z.dr h t) (spHi z.dr (dlL z ks) t) 300 (dlL z ks) = 0) :
    spHi z.dr (dlL z (ks.filter fun k => p k.id)) t = spHi z.dr (dlL z ks) t := by
  have hsub : ∀ x ∈ dlL z (ks.filter fun k => p k.id), x ∈ dlL z ks := fun x hx => by
    rw [dlL_filter ho] at hx
    exact (List.mem_filter.1 hx).1
  have h1 := (sp_mono z.dr t hsub).2
  refine Int.le_antisymm ?_ h1
  by_cases hb : spHi z.dr (dlL z ks) t = 300
  · rw [hb]; exact fold_min_ge.1
  · rcases rsI_ok (A := fun h => highI z.dr h t) hb (srtH_ord (thL z ks)) with ⟨q1, _⟩ | ⟨h, q1, q2, q3, _⟩
    · exfalso
      rcases min_hit (l := (dlL z ks).map fun h => highI z.dr h t) (a := 300) with e | e
      · exact hb e
      · obtain ⟨x, hx, ex⟩ := List.mem_map.1 e
        exact q1 x hx ex
    · have hm : h ∈ dlL z (ks.filter fun k => p k.id) := by
        rw [dlL_filter ho]
        refine List.mem_filter.2 ⟨q1, ?_⟩
        have q3' : rsI (fun h => highI z.dr h t) (spHi z.dr (dlL z ks) t) 300 (dlL z ks) = h.id := q3
        rw [q3'] at hp
        rcases hp with e | e
        · rw [e]; simp
        · rw [e]; simp
      rw [← q2]
      exact fold_min_ge.2 _ (List.mem_map.2 ⟨h, hm, rfl⟩)
end Go.Proofs.Ytebdboacmeafaaa
