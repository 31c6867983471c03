/- Package firetowerref05: limits, use, Zero. -/
import Derived.Test.YtebdboacmeafaaaCF4
import Derived.Test.YtebdboacmeafaaaCCB
set_option linter.unusedVariables false
set_option linter.unusedSimpArgs false
namespace Go.Proofs.Ytebdboacmeafaaa
open Go Go.RowKit

theorem sp_step {dr : Int} {l : List Th} {t : Int} {k : Nat} (hk : k < l.length) : spLo dr (l.take (k + 1)) t = max (spLo dr (l.take k) t) (lowI dr (l.getD k .nil) t) ∧ spHi dr (l.take (k + 1)) t = min (spHi dr (l.take k) t) (highI dr (l.getD k .nil) t) := by
  unfold spLo spHi maxL minL
  rw [List.take_succ_eq_append_getElem hk, List.map_append, List.map_append, List.foldl_append, List.foldl_append, List.getD_eq_getElem?_getD, List.getElem?_eq_getElem hk]
  exact ⟨rfl, rfl⟩
theorem sp_bds {dr t : Int} (hd : 0 ≤ dr ∧ dr ≤ 60) (ht : 0 ≤ t ∧ t ≤ 1048576) : ∀ (l : List Th), (∀ h ∈ l, h.ok) → (-300 ≤ spLo dr l t ∧ spLo dr l t ≤ 300) ∧ -300 ≤ spHi dr l t ∧ spHi dr l t ≤ 300 := by
  intro l
  unfold spLo spHi maxL minL
  have key : ∀ (l : List Th) (a b : Int), (-300 ≤ a ∧ a ≤ 300) → (-300 ≤ b ∧ b ≤ 300) → (∀ h ∈ l, h.ok) → (-300 ≤ (l.map fun h => lowI dr h t).foldl max a ∧ (l.map fun h => lowI dr h t).foldl max a ≤ 300) ∧ -300 ≤ (l.map fun h => highI dr h t).foldl min b ∧ (l.map fun h => highI dr h t).foldl min b ≤ 300 := by
    intro l
    induction l with
    | nil => intro a b ha hb _; exact ⟨ha, hb⟩
    | cons x l ih =>
      intro a b ha hb hl
      have hx := hl x (List.mem_cons_self ..)
      have hf := (fr_mul hd hx.1 ht).2
      simp only [List.map_cons, List.foldl_cons]
      refine ih _ _ ?_ ?_ (fun h hh => hl h (List.mem_cons_of_mem _ hh))
      · unfold lowI; have := hx.2.1; omega
      · unfold highI; have := hx.2.2; omega
  exact fun h => key l _ _ (by omega) (by omega) h
end Go.Proofs.Ytebdboacmeafaaa
