/- Merged: CE7, CE8. -/
import Derived.Test.YtebdboacmeafaaaCAA
import Derived.Test.YtebdboacmeafaaaCB1
import Derived.Test.YtebdboacmeafaaaCB2
/- Package firetowerref05: span, find, circled, checked. -/
set_option linter.unusedVariables false
set_option linter.unusedSimpArgs false
namespace Go.Proofs.Ytebdboacmeafaaa
open Go Go.RowKit

end Go.Proofs.Ytebdboacmeafaaa
/- Package firetowerref05: Check. -/
set_option linter.unusedVariables false
set_option linter.unusedSimpArgs false
namespace Go.Proofs.Ytebdboacmeafaaa
open Go Go.RowKit

theorem ciF_take_none {l : List Ci} {id : Int} {n : Nat} (hn : n ≤ l.length) (h : ∀ j, j < n → ((l.getD j .nil).id == id) = false) : ciF (l.take n) id = none := by
  refine ciF_miss fun j hj => ?_
  rw [List.length_take] at hj
  have := h j (by omega)
  rwa [List.getD_eq_getElem?_getD, List.getElem?_take_of_lt (by omega), ← List.getD_eq_getElem?_getD]
theorem ciF_take_some {l : List Ci} {id : Int} {n j : Nat} (hn : n ≤ l.length) (hj : j < n) (h : ((l.getD j .nil).id == id) = true) : (ciF (l.take n) id).isSome = true := by
  unfold ciF
  rw [List.find?_isSome]
  refine ⟨l.getD j .nil, ?_, h⟩
  rw [List.getD_eq_getElem?_getD, List.getElem?_eq_getElem (by omega)]
  exact List.mem_take_iff_getElem.2 ⟨j, by omega, rfl⟩
theorem ckF_take_none {l : List Ck} {id : Int} {n : Nat} (hn : n ≤ l.length) (h : ∀ j, j < n → ((l.getD j .nil).id == id) = false) : ckF (l.take n) id = none := by
  refine ckF_miss fun j hj => ?_
  rw [List.length_take] at hj
  have := h j (by omega)
  rwa [List.getD_eq_getElem?_getD, List.getElem?_take_of_lt (by omega), ← List.getD_eq_getElem?_getD]
theorem ckF_take_some {l : List Ck} {id : Int} {n j : Nat} (hn : n ≤ l.length) (hj : j < n) (h : ((l.getD j .nil).id == id) = true) : (ckF (l.take n) id).isSome = true := by
  unfold ckF
  rw [List.find?_isSome]
  refine ⟨l.getD j .nil, ?_, h⟩
  rw [List.getD_eq_getElem?_getD, List.getElem?_eq_getElem (by omega)]
  exact List.mem_take_iff_getElem.2 ⟨j, by omega, rfl⟩
theorem belowN {n : Nat} {w W : World} (h : Below n w W) (k : Nat) : Below n w (W.drewN k) := ⟨h.os, h.tape, h.output, h.size, h.block⟩
end Go.Proofs.Ytebdboacmeafaaa
