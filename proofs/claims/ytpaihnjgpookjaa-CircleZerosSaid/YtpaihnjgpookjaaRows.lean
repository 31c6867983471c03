/-
  No cell of these rows narrows 'for every input' (looked for: loops, veiled, ifaces, maps, wideKeys, modest, calm, conditions, laid).
  DERIVED. THE GIVEN ROWS OF THIS SEAT. 5 by the template 'for every input the law returns true; each argument reads behind the call as it read before'; 0 by the template 'total and deterministic' (their statements: YtpaihnjgpookjaaTotals.lean).
  GIVEN WITH THE SEED: the statements are not yours to turn. If you find one false, say at which input.
  Laid BY PROGRAM, IN A SANDBOX (cutbox-rows.mjs): the forced cells as the released guide's own fill.sh prints them over the translation fdcf678d6f20e28d… (all of the seat's roots in one cut). By AI agents, Wed Nov 11 2026. No macro, syntax, notation, axiom, sorry.
-/
import Derived.Test.YtpaihnjgpookjaaChecked
import GoSem.Claim
import GoSem.ClaimJoined
import GoSem.ClaimMapViews
import Derived.JoinedTies
import Derived.KernelRfl
namespace Go.Proofs.Ytpaihnjgpookjaa
/- THE CELL 'sum', in the pinned program and in every row, IS THE sha256 OF THE DUMP (.gsa) THAT YtpaihnjgpookjaaProg.lean LOADS. Nothing in Lean hashes anything: it is a label: what it is worth is what the hold of that sum in a sandbox is worth. -/
noncomputable def Try.pinned : Pinned := { name := "ytpaihnjgpookjaa", sum := "fdcf678d6f20e28d54d83c608a8d77d34f955e1d55c38f7e35cef41213a307b9", checked := Try.checked }
namespace Rows
def none {H : Type} : Left H := { results := [], args := [] }

/-- 'firetowerlaw05.CircleWedges': WHATEVER THE INPUT: true; the input reads as it did. -/
def circleWedgesSpec : ChangeSpec := { name := "circleWedges", fn := fun _ => fun
  | [d1, d2, d3, d4, d5] => { results := [.lit (.bool true)], args := [d1, d2, d3, d4, d5] }
  | _ => none }
def circleWedgesRow : OpenClaim := { program := "ytpaihnjgpookjaa", sum := "fdcf678d6f20e28d54d83c608a8d77d34f955e1d55c38f7e35cef41213a307b9", func := "firetower/firetowerlaw05.CircleWedges", spec := "circleWedges", unfollowed := true, recurses := true, apart := false }
def CircleWedgesSaid : Prop := circleWedgesRow.holds Try.pinned (OpenSpec.ofChange circleWedgesSpec)

/-- ITS FALSE NEIGHBOUR: 'it returns false'. Refute it at one input. -/
def circleWedgesWrong : ChangeSpec := { name := "circleWedges", fn := fun _ => fun
  | [d1, d2, d3, d4, d5] => { results := [.lit (.bool false)], args := [d1, d2, d3, d4, d5] }
  | _ => none }
def CircleWedgesWrongFalsely : Prop := circleWedgesRow.holds Try.pinned (OpenSpec.ofChange circleWedgesWrong)

/-- 'firetowerlaw05.CircleHalves': WHATEVER THE INPUT: true; the input reads as it did. -/
def circleHalvesSpec : ChangeSpec := { name := "circleHalves", fn := fun _ => fun
  | [d1, d2, d3] => { results := [.lit (.bool true)], args := [d1, d2, d3] }
  | _ => none }
def circleHalvesRow : OpenClaim := { program := "ytpaihnjgpookjaa", sum := "fdcf678d6f20e28d54d83c608a8d77d34f955e1d55c38f7e35cef41213a307b9", func := "firetower/firetowerlaw05.CircleHalves", spec := "circleHalves", unfollowed := true, recurses := true, apart := false }
def CircleHalvesSaid : Prop := circleHalvesRow.holds Try.pinned (OpenSpec.ofChange circleHalvesSpec)

/-- ITS FALSE NEIGHBOUR: 'it returns false'. Refute it at one input. -/
def circleHalvesWrong : ChangeSpec := { name := "circleHalves", fn := fun _ => fun
  | [d1, d2, d3] => { results := [.lit (.bool false)], args := [d1, d2, d3] }
  | _ => none }
def CircleHalvesWrongFalsely : Prop := circleHalvesRow.holds Try.pinned (OpenSpec.ofChange circleHalvesWrong)

/-- 'firetowerlaw05.CircleChecks': WHATEVER THE INPUT: true; the input reads as it did. -/
def circleChecksSpec : ChangeSpec := { name := "circleChecks", fn := fun _ => fun
  | [d1, d2] => { results := [.lit (.bool true)], args := [d1, d2] }
  | _ => none }
def circleChecksRow : OpenClaim := { program := "ytpaihnjgpookjaa", sum := "fdcf678d6f20e28d54d83c608a8d77d34f955e1d55c38f7e35cef41213a307b9", func := "firetower/firetowerlaw05.CircleChecks", spec := "circleChecks", unfollowed := true, recurses := true, apart := false }
def CircleChecksSaid : Prop := circleChecksRow.holds Try.pinned (OpenSpec.ofChange circleChecksSpec)

/-- ITS FALSE NEIGHBOUR: 'it returns false'. Refute it at one input. -/
def circleChecksWrong : ChangeSpec := { name := "circleChecks", fn := fun _ => fun
  | [d1, d2] => { results := [.lit (.bool false)], args := [d1, d2] }
  | _ => none }
def CircleChecksWrongFalsely : Prop := circleChecksRow.holds Try.pinned (OpenSpec.ofChange circleChecksWrong)

/-- 'firetowerlaw05.CircleZeros': WHATEVER THE INPUT: true; the input reads as it did. -/
def circleZerosSpec : ChangeSpec := { name := "circleZeros", fn := fun _ => fun
  | [d1, d2, d3] => { results := [.lit (.bool true)], args := [d1, d2, d3] }
  | _ => none }
def circleZerosRow : OpenClaim := { program := "ytpaihnjgpookjaa", sum := "fdcf678d6f20e28d54d83c608a8d77d34f955e1d55c38f7e35cef41213a307b9", func := "firetower/firetowerlaw05.CircleZeros", spec := "circleZeros", unfollowed := true, recurses := true, apart := false }
def CircleZerosSaid : Prop := circleZerosRow.holds Try.pinned (OpenSpec.ofChange circleZerosSpec)

/-- ITS FALSE NEIGHBOUR: 'it returns false'. Refute it at one input. -/
def circleZerosWrong : ChangeSpec := { name := "circleZeros", fn := fun _ => fun
  | [d1, d2, d3] => { results := [.lit (.bool false)], args := [d1, d2, d3] }
  | _ => none }
def CircleZerosWrongFalsely : Prop := circleZerosRow.holds Try.pinned (OpenSpec.ofChange circleZerosWrong)

/-- 'firetowerlaw05.CircleTurns': WHATEVER THE INPUT: true; the input reads as it did. -/
def circleTurnsSpec : ChangeSpec := { name := "circleTurns", fn := fun _ => fun
  | [d1, d2, d3, d4, d5] => { results := [.lit (.bool true)], args := [d1, d2, d3, d4, d5] }
  | _ => none }
def circleTurnsRow : OpenClaim := { program := "ytpaihnjgpookjaa", sum := "fdcf678d6f20e28d54d83c608a8d77d34f955e1d55c38f7e35cef41213a307b9", func := "firetower/firetowerlaw05.CircleTurns", spec := "circleTurns", unfollowed := true, recurses := true, apart := false }
def CircleTurnsSaid : Prop := circleTurnsRow.holds Try.pinned (OpenSpec.ofChange circleTurnsSpec)

/-- ITS FALSE NEIGHBOUR: 'it returns false'. Refute it at one input. -/
def circleTurnsWrong : ChangeSpec := { name := "circleTurns", fn := fun _ => fun
  | [d1, d2, d3, d4, d5] => { results := [.lit (.bool false)], args := [d1, d2, d3, d4, d5] }
  | _ => none }
def CircleTurnsWrongFalsely : Prop := circleTurnsRow.holds Try.pinned (OpenSpec.ofChange circleTurnsWrong)

/- THE SECOND FORM. 'bulk': how many values and letters a reading holds, each counted each time it is reached (what is shared counts as often as it is met; a slice's spare places count too). A statement '..UptoSaid' is the law's where the arguments, and the package variables that the reading takes, are together of bulk at most 1048576: NARROWER than '..Said'. Prove '..Said' where nothing that the law and all that it calls make is longer than what came in: it says more and counts as full. Else prove '..UptoSaid'. A law counts once. -/
mutual
def uptoBulk {H : Type} : DataW H → Nat
  | .lit (.string bytes) => bytes.length + 1
  | .lit _ => 1
  | .nil => 1
  | .ptr d => uptoBulk d + 1
  | .slice elems spare => uptoBulkAll elems + uptoBulkAll spare + 1
  | .agg parts => uptoBulkAll parts + 1
  | .iface _ d => uptoBulk d + 1
  | .map entries => uptoBulkEntries entries + 1
  | .held _ => 1
def uptoBulkAll {H : Type} : List (DataW H) → Nat
  | [] => 0
  | d :: r => uptoBulk d + uptoBulkAll r
def uptoBulkEntries {H : Type} : List (Lit × DataW H) → Nat
  | [] => 0
  | x :: r => uptoBulkEntry x + uptoBulkEntries r
def uptoBulkEntry {H : Type} : Lit × DataW H → Nat
  | (.string bytes, d) => bytes.length + uptoBulk d + 1
  | (_, d) => uptoBulk d + 1
 end
def uptoSmall : (H : Type) → List (DataW H) → Bool := fun _ ds => decide (uptoBulkAll ds ≤ 1048576)
def OpenSpec.upto (s : _root_.Go.ChangeSpec) : _root_.Go.OpenSpec := { _root_.Go.OpenSpec.ofChange s with cond := some uptoSmall }

/-- 'firetowerlaw05.CircleWedges', WHERE WHAT IT READS IS OF BULK AT MOST 1048576: true; the input reads as it did. -/
def circleWedgesUptoRow : OpenClaim := { program := "ytpaihnjgpookjaa", sum := "fdcf678d6f20e28d54d83c608a8d77d34f955e1d55c38f7e35cef41213a307b9", func := "firetower/firetowerlaw05.CircleWedges", spec := "circleWedges", unfollowed := true, recurses := true, apart := false, narrowed := true }
def CircleWedgesUptoSaid : Prop := circleWedgesUptoRow.holds Try.pinned (OpenSpec.upto circleWedgesSpec)

/-- 'firetowerlaw05.CircleHalves', WHERE WHAT IT READS IS OF BULK AT MOST 1048576: true; the input reads as it did. -/
def circleHalvesUptoRow : OpenClaim := { program := "ytpaihnjgpookjaa", sum := "fdcf678d6f20e28d54d83c608a8d77d34f955e1d55c38f7e35cef41213a307b9", func := "firetower/firetowerlaw05.CircleHalves", spec := "circleHalves", unfollowed := true, recurses := true, apart := false, narrowed := true }
def CircleHalvesUptoSaid : Prop := circleHalvesUptoRow.holds Try.pinned (OpenSpec.upto circleHalvesSpec)

/-- 'firetowerlaw05.CircleChecks', WHERE WHAT IT READS IS OF BULK AT MOST 1048576: true; the input reads as it did. -/
def circleChecksUptoRow : OpenClaim := { program := "ytpaihnjgpookjaa", sum := "fdcf678d6f20e28d54d83c608a8d77d34f955e1d55c38f7e35cef41213a307b9", func := "firetower/firetowerlaw05.CircleChecks", spec := "circleChecks", unfollowed := true, recurses := true, apart := false, narrowed := true }
def CircleChecksUptoSaid : Prop := circleChecksUptoRow.holds Try.pinned (OpenSpec.upto circleChecksSpec)

/-- 'firetowerlaw05.CircleZeros', WHERE WHAT IT READS IS OF BULK AT MOST 1048576: true; the input reads as it did. -/
def circleZerosUptoRow : OpenClaim := { program := "ytpaihnjgpookjaa", sum := "fdcf678d6f20e28d54d83c608a8d77d34f955e1d55c38f7e35cef41213a307b9", func := "firetower/firetowerlaw05.CircleZeros", spec := "circleZeros", unfollowed := true, recurses := true, apart := false, narrowed := true }
def CircleZerosUptoSaid : Prop := circleZerosUptoRow.holds Try.pinned (OpenSpec.upto circleZerosSpec)

/-- 'firetowerlaw05.CircleTurns', WHERE WHAT IT READS IS OF BULK AT MOST 1048576: true; the input reads as it did. -/
def circleTurnsUptoRow : OpenClaim := { program := "ytpaihnjgpookjaa", sum := "fdcf678d6f20e28d54d83c608a8d77d34f955e1d55c38f7e35cef41213a307b9", func := "firetower/firetowerlaw05.CircleTurns", spec := "circleTurns", unfollowed := true, recurses := true, apart := false, narrowed := true }
def CircleTurnsUptoSaid : Prop := circleTurnsUptoRow.holds Try.pinned (OpenSpec.upto circleTurnsSpec)

end Rows
end Go.Proofs.Ytpaihnjgpookjaa
