/- Package firetowerref05: Suspects. -/
import Derived.Test.YtebdboacmeafaaaCG4
import Derived.Test.YtebdboacmeafaaaCG5
set_option linter.unusedVariables false
set_option linter.unusedSimpArgs false
namespace Go.Proofs.Ytebdboacmeafaaa
open Go Go.RowKit

def hasI (i : Int) (p : Pi2) : Bool := p.1 == i || p.2 == i
/-- A check that all pairs hold. -/
def susB (L : List Pi2) (i : Int) : Bool := L.all (hasI i)
/-- The suspects of the first checks. -/
def suR (L : List Pi2) (ks : List Ck) : Nat → List Int
  | 0 => []
  | k + 1 => if susB L (ks.getD k .nil).id = true then addI (suR L ks k) (ks.getD k .nil).id else suR L ks k
theorem suR_len (L : List Pi2) (ks : List Ck) : ∀ k, (suR L ks k).length ≤ k
  | 0 => Nat.le_refl 0
  | k + 1 => by
    have h := suR_len L ks k
    show (if _ then _ else _ : List Int).length ≤ _
    split
    · rw [addI_len]; omega
    · omega
def suS (cs : List Ci) (ks : List Ck) : List Int := if ccE cs ks = 0 then (if (clK cs ks cs.length).length = 0 then [] else suR (clK cs ks cs.length) ks ks.length) else []
/-- What the reference's Suspects answers. -/
def RsuOut (L : List Int) (E : Int) (w : World) (e : Ending) (w' : World) : Prop := ∃ v, e = .returned (.agg #[v, .int .i64 E]) ∧ INRow w' v L ∧ Below w.heap.size w w'
theorem all_step {L : List Pi2} {f : Pi2 → Bool} {j : Nat} (hj : j < L.length) : (L.take (j + 1)).all f = ((L.take j).all f && f (L.getD j (0, 0))) := by
  rw [List.take_succ_eq_append_getElem hj, List.all_append, List.getD_eq_getElem?_getD, List.getElem?_eq_getElem hj]
  simp
end Go.Proofs.Ytebdboacmeafaaa
