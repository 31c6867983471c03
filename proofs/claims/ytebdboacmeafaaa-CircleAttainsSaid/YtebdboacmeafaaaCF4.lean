/- Package firetowerref05: clashing. -/
import Derived.Test.YtebdboacmeafaaaCF2
import Derived.Test.YtebdboacmeafaaaCF3
set_option linter.unusedVariables false
set_option linter.unusedSimpArgs false
namespace Go.Proofs.Ytebdboacmeafaaa
open Go Go.RowKit

/-- The things of numbers i and k make a pair. -/
def gC (dr : Int) (L : List Th) (i k : Nat) : Bool := (i == k && (L.getD i .nil).no) || (decide ((L.getD i .nil).id < (L.getD k .nil).id) && !(L.getD i .nil).no && !(L.getD k .nil).no && agB dr (L.getD i .nil) (L.getD k .nil))
def gRow (dr : Int) (L : List Th) (i : Nat) : Nat → List Pi2 → List Pi2
  | 0, o => o
  | k + 1, o => if gC dr L i k = true then putP (gRow dr L i k o) ((L.getD i .nil).id, (L.getD k .nil).id) else gRow dr L i k o
/-- The pairs of the first things, in order. -/
def gAll (dr : Int) (L : List Th) : Nat → List Pi2
  | 0 => []
  | i + 1 => gRow dr L i L.length (gAll dr L i)
theorem gRow_len (dr : Int) (L : List Th) (i : Nat) (o : List Pi2) : ∀ k, (gRow dr L i k o).length ≤ o.length + k
  | 0 => Nat.le_refl _
  | k + 1 => by
    have := gRow_len dr L i o k
    show (if _ then _ else _ : List Pi2).length ≤ _
    split
    · rw [putP_len]; omega
    · omega
theorem gAll_len (dr : Int) (L : List Th) : ∀ i, (gAll dr L i).length ≤ i * L.length
  | 0 => Nat.zero_le _
  | i + 1 => by
    have h1 := gAll_len dr L i
    have h2 := gRow_len dr L i (gAll dr L i) L.length
    show (gRow dr L i L.length (gAll dr L i)).length ≤ _
    rw [Nat.succ_mul]; omega
/-- What clashing returns. -/
def ClgOut (l : List Pi2) (w : World) (e : Ending) (w' : World) : Prop := ∃ v, e = .returned v ∧ P2Row w' v l ∧ Below w.heap.size w w'
end Go.Proofs.Ytebdboacmeafaaa
