/- Slices of strings that read as lists. -/
import Derived.Test.YtjhkgfbkpgnodaaGreatDoorM0
namespace Go.Proofs.YtjhkgfbkpgnodaaGreatDoor
open Go.RowKit

/-- A slice of strings that reads as a list. -/
def SRow (w : World) (v : Value) (l : List (List UInt8)) : Prop :=
  (∃ a cap, v = .slice a 0 cap ∧ l = []) ∨
  ∃ b off cap, v = .slice (some ⟨b, off, none⟩) l.length cap ∧ b < w.heap.size ∧ ∀ i, i < l.length → w.cell? ⟨b, off + i, none⟩ = some (.string (B (l.getD i [])))
theorem SRow.form {w : World} {v : Value} {l : List (List UInt8)} (h : SRow w v l) : ∃ a cap, v = .slice a l.length cap ∧ ∀ k, k < l.length → ∃ b off, a = some ⟨b, off, none⟩ ∧ b < w.heap.size ∧ w.cell? ⟨b, off + k, none⟩ = some (.string (B (l.getD k []))) := by
  rcases h with ⟨a, cap, rfl, rfl⟩ | ⟨b, off, cap, rfl, hb, hc⟩
  · exact ⟨a, cap, rfl, fun k hk => by simp at hk⟩
  · exact ⟨_, cap, rfl, fun k hk => ⟨b, off, rfl, hb, hc k hk⟩⟩
theorem SRow.keep {w w' : World} {v : Value} {l : List (List UInt8)} (h : SRow w v l) (hb : Below w.heap.size w w') : SRow w' v l := by
  rcases h with h | ⟨b, off, cap, hv, hlt, hc⟩
  · exact .inl h
  · exact .inr ⟨b, off, cap, hv, Nat.lt_of_lt_of_le hlt hb.size, fun i hi => (hb.cell (p := ⟨b, _, none⟩) hlt).trans (hc i hi)⟩
theorem SRow.nil (w : World) : SRow w (.slice none 0 0) [] := .inl ⟨_, _, rfl, rfl⟩
/-- A row that the call owns reads as its list. -/
theorem SRow.of_owned {w : World} {base : Nat} {e : TypeId} {v : Value} {l : List (List UInt8)} (h : w.ownsRow base e 1 v l.length (l.map fun s => Value.string (B s))) : SRow w v l := by
  rcases h.2 with ⟨rfl, hn⟩ | ⟨g, cap, cur, rfl, hg, hb, _⟩
  · have : l = [] := by
      have := h.1
      cases l with
      | nil => rfl
      | cons a l => simp at hn
    subst this; exact .inl ⟨_, _, rfl, rfl⟩
  · refine .inr ⟨g, 0, cap, rfl, (Array.getElem?_eq_some_iff.1 hb).1, fun i hi => ?_⟩
    have := h.cellAt i (by simpa using hi)
    rw [List.getD_eq_getElem?_getD, List.getElem?_eq_getElem hi]
    simpa [List.getElem?_eq_getElem hi] using this
end Go.Proofs.YtjhkgfbkpgnodaaGreatDoor
