/-
  No cell of these rows narrows 'for every input' (looked for: loops, veiled, ifaces, maps, wideKeys, modest, calm, conditions, laid).
  DERIVED. THE GIVEN ROWS OF THIS SEAT. 4 by the template 'for every input the law returns true; each argument reads behind the call as it read before'; 0 by the template 'total and deterministic' (their statements: YtebdboacmeafaaaTotals.lean).
  GIVEN WITH THE SEED: the statements are not yours to turn. If you find one false, say at which input.
  Laid BY PROGRAM, IN A SANDBOX (cutbox-rows.mjs): the forced cells as the released guide's own fill.sh prints them over the translation 55759a54b16544af… (all of the seat's roots in one cut). By AI agents, Wed Nov 11 2026. No macro, syntax, notation, axiom, sorry.
-/
import Derived.Test.YtebdboacmeafaaaChecked
import GoSem.Claim
import GoSem.ClaimJoined
import GoSem.ClaimMapViews
import Derived.JoinedTies
import Derived.KernelRfl
namespace Go.Proofs.Ytebdboacmeafaaa
/- THE CELL 'sum', in the pinned program and in every row, IS THE sha256 OF THE DUMP (.gsa) THAT YtebdboacmeafaaaProg.lean LOADS. Nothing in Lean hashes anything: it is a label: what it is worth is what the hold of that sum in a sandbox is worth. -/
noncomputable def Try.pinned : Pinned := { name := "ytebdboacmeafaaa", sum := "55759a54b16544afd3715c42b81cd38c883b8cc21acbf849ffb60dfe3b4af12b", checked := Try.checked }
namespace Rows
def none {H : Type} : Left H := { results := [], args := [] }

/-- 'firetowerlaw05.CircleAttains': WHATEVER THE INPUT: true; the input reads as it did. -/
def circleAttainsSpec : ChangeSpec := { name := "circleAttains", fn := fun _ => fun
  | [d1, d2, d3, d4, d5] => { results := [.lit (.bool true)], args := [d1, d2, d3, d4, d5] }
  | _ => none }
def circleAttainsRow : OpenClaim := { program := "ytebdboacmeafaaa", sum := "55759a54b16544afd3715c42b81cd38c883b8cc21acbf849ffb60dfe3b4af12b", func := "firetower/firetowerlaw05.CircleAttains", spec := "circleAttains", unfollowed := true, recurses := true, apart := false }
def CircleAttainsSaid : Prop := circleAttainsRow.holds Try.pinned (OpenSpec.ofChange circleAttainsSpec)

/-- ITS FALSE NEIGHBOUR: 'it returns false'. Refute it at one input. -/
def circleAttainsWrong : ChangeSpec := { name := "circleAttains", fn := fun _ => fun
  | [d1, d2, d3, d4, d5] => { results := [.lit (.bool false)], args := [d1, d2, d3, d4, d5] }
  | _ => none }
def CircleAttainsWrongFalsely : Prop := circleAttainsRow.holds Try.pinned (OpenSpec.ofChange circleAttainsWrong)

/-- 'firetowerlaw05.CircleTrue': WHATEVER THE INPUT: true; the input reads as it did. -/
def circleTrueSpec : ChangeSpec := { name := "circleTrue", fn := fun _ => fun
  | [d1, d2, d3, d4, d5, d6] => { results := [.lit (.bool true)], args := [d1, d2, d3, d4, d5, d6] }
  | _ => none }
def circleTrueRow : OpenClaim := { program := "ytebdboacmeafaaa", sum := "55759a54b16544afd3715c42b81cd38c883b8cc21acbf849ffb60dfe3b4af12b", func := "firetower/firetowerlaw05.CircleTrue", spec := "circleTrue", unfollowed := true, recurses := true, apart := false }
def CircleTrueSaid : Prop := circleTrueRow.holds Try.pinned (OpenSpec.ofChange circleTrueSpec)

/-- ITS FALSE NEIGHBOUR: 'it returns false'. Refute it at one input. -/
def circleTrueWrong : ChangeSpec := { name := "circleTrue", fn := fun _ => fun
  | [d1, d2, d3, d4, d5, d6] => { results := [.lit (.bool false)], args := [d1, d2, d3, d4, d5, d6] }
  | _ => none }
def CircleTrueWrongFalsely : Prop := circleTrueRow.holds Try.pinned (OpenSpec.ofChange circleTrueWrong)

/-- 'firetowerlaw05.CircleSharp': WHATEVER THE INPUT: true; the input reads as it did. -/
def circleSharpSpec : ChangeSpec := { name := "circleSharp", fn := fun _ => fun
  | [d1, d2, d3] => { results := [.lit (.bool true)], args := [d1, d2, d3] }
  | _ => none }
def circleSharpRow : OpenClaim := { program := "ytebdboacmeafaaa", sum := "55759a54b16544afd3715c42b81cd38c883b8cc21acbf849ffb60dfe3b4af12b", func := "firetower/firetowerlaw05.CircleSharp", spec := "circleSharp", unfollowed := true, recurses := true, apart := false }
def CircleSharpSaid : Prop := circleSharpRow.holds Try.pinned (OpenSpec.ofChange circleSharpSpec)

/-- ITS FALSE NEIGHBOUR: 'it returns false'. Refute it at one input. -/
def circleSharpWrong : ChangeSpec := { name := "circleSharp", fn := fun _ => fun
  | [d1, d2, d3] => { results := [.lit (.bool false)], args := [d1, d2, d3] }
  | _ => none }
def CircleSharpWrongFalsely : Prop := circleSharpRow.holds Try.pinned (OpenSpec.ofChange circleSharpWrong)

/-- 'firetowerlaw05.CircleMore': WHATEVER THE INPUT: true; the input reads as it did. -/
def circleMoreSpec : ChangeSpec := { name := "circleMore", fn := fun _ => fun
  | [d1, d2, d3] => { results := [.lit (.bool true)], args := [d1, d2, d3] }
  | _ => none }
def circleMoreRow : OpenClaim := { program := "ytebdboacmeafaaa", sum := "55759a54b16544afd3715c42b81cd38c883b8cc21acbf849ffb60dfe3b4af12b", func := "firetower/firetowerlaw05.CircleMore", spec := "circleMore", unfollowed := true, recurses := true, apart := false }
def CircleMoreSaid : Prop := circleMoreRow.holds Try.pinned (OpenSpec.ofChange circleMoreSpec)

/-- ITS FALSE NEIGHBOUR: 'it returns false'. Refute it at one input. -/
def circleMoreWrong : ChangeSpec := { name := "circleMore", fn := fun _ => fun
  | [d1, d2, d3] => { results := [.lit (.bool false)], args := [d1, d2, d3] }
  | _ => none }
def CircleMoreWrongFalsely : Prop := circleMoreRow.holds Try.pinned (OpenSpec.ofChange circleMoreWrong)

/- THE SECOND FORM. 'bulk': how many values and letters a reading holds, each counted each time it is reached (what is shared counts as often as it is met; a slice's spare places count too). A statement '..UptoSaid' is the law's where the arguments, and the package variables that the reading takes, are together of bulk at most 1048576: NARROWER than '..Said'. Prove '..Said' where nothing that the law and all that it calls make is longer than what came in: it says more and counts as full. Else prove '..UptoSaid'. A law counts once. -/
mutual
def uptoBulk {H : Type} : DataW H → Nat
  | .lit (.string bytes) => bytes.length + 1
  | .lit _ => 1
  | .nil => 1
  | .ptr d => uptoBulk d + 1
  | .slice elems spare => uptoBulkAll elems + uptoBulkAll spare + 1
  | .agg parts => uptoBulkAll parts + 1
  | .iface _ d => uptoBulk d + 1
  | .map entries => uptoBulkEntries entries + 1
  | .held _ => 1
def uptoBulkAll {H : Type} : List (DataW H) → Nat
  | [] => 0
  | d :: r => uptoBulk d + uptoBulkAll r
def uptoBulkEntries {H : Type} : List (Lit × DataW H) → Nat
  | [] => 0
  | x :: r => uptoBulkEntry x + uptoBulkEntries r
def uptoBulkEntry {H : Type} : Lit × DataW H → Nat
  | (.string bytes, d) => bytes.length + uptoBulk d + 1
  | (_, d) => uptoBulk d + 1
 end
def uptoSmall : (H : Type) → List (DataW H) → Bool := fun _ ds => decide (uptoBulkAll ds ≤ 1048576)
def OpenSpec.upto (s : _root_.Go.ChangeSpec) : _root_.Go.OpenSpec := { _root_.Go.OpenSpec.ofChange s with cond := some uptoSmall }

/-- 'firetowerlaw05.CircleAttains', WHERE WHAT IT READS IS OF BULK AT MOST 1048576: true; the input reads as it did. -/
def circleAttainsUptoRow : OpenClaim := { program := "ytebdboacmeafaaa", sum := "55759a54b16544afd3715c42b81cd38c883b8cc21acbf849ffb60dfe3b4af12b", func := "firetower/firetowerlaw05.CircleAttains", spec := "circleAttains", unfollowed := true, recurses := true, apart := false, narrowed := true }
def CircleAttainsUptoSaid : Prop := circleAttainsUptoRow.holds Try.pinned (OpenSpec.upto circleAttainsSpec)

/-- 'firetowerlaw05.CircleTrue', WHERE WHAT IT READS IS OF BULK AT MOST 1048576: true; the input reads as it did. -/
def circleTrueUptoRow : OpenClaim := { program := "ytebdboacmeafaaa", sum := "55759a54b16544afd3715c42b81cd38c883b8cc21acbf849ffb60dfe3b4af12b", func := "firetower/firetowerlaw05.CircleTrue", spec := "circleTrue", unfollowed := true, recurses := true, apart := false, narrowed := true }
def CircleTrueUptoSaid : Prop := circleTrueUptoRow.holds Try.pinned (OpenSpec.upto circleTrueSpec)

/-- 'firetowerlaw05.CircleSharp', WHERE WHAT IT READS IS OF BULK AT MOST 1048576: true; the input reads as it did. -/
def circleSharpUptoRow : OpenClaim := { program := "ytebdboacmeafaaa", sum := "55759a54b16544afd3715c42b81cd38c883b8cc21acbf849ffb60dfe3b4af12b", func := "firetower/firetowerlaw05.CircleSharp", spec := "circleSharp", unfollowed := true, recurses := true, apart := false, narrowed := true }
def CircleSharpUptoSaid : Prop := circleSharpUptoRow.holds Try.pinned (OpenSpec.upto circleSharpSpec)

/-- 'firetowerlaw05.CircleMore', WHERE WHAT IT READS IS OF BULK AT MOST 1048576: true; the input reads as it did. -/
def circleMoreUptoRow : OpenClaim := { program := "ytebdboacmeafaaa", sum := "55759a54b16544afd3715c42b81cd38c883b8cc21acbf849ffb60dfe3b4af12b", func := "firetower/firetowerlaw05.CircleMore", spec := "circleMore", unfollowed := true, recurses := true, apart := false, narrowed := true }
def CircleMoreUptoSaid : Prop := circleMoreUptoRow.holds Try.pinned (OpenSpec.upto circleMoreSpec)

end Rows
end Go.Proofs.Ytebdboacmeafaaa
