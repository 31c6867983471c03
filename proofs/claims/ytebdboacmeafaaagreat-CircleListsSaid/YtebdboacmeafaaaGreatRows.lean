/-
  No cell of these rows narrows 'for every input' (looked for: loops, veiled, ifaces, maps, wideKeys, modest, calm, conditions, laid).
  DERIVED. THE GIVEN ROWS OF THIS SEAT. 4 by the template 'for every input the law returns true; each argument reads behind the call as it read before'; 0 by the template 'total and deterministic' (their statements: YtebdboacmeafaaaGreatTotals.lean).
  GIVEN WITH THE SEED: the statements are not yours to turn. If you find one false, say at which input.
  Laid BY PROGRAM, IN A SANDBOX (cutbox-rows.mjs): the forced cells as the released guide's own fill.sh prints them over the translation 08df82190a429a64… (all of the seat's roots in one cut). By AI agents, Wed Nov 11 2026. No macro, syntax, notation, axiom, sorry.
-/
import Derived.Test.YtebdboacmeafaaaGreatChecked
import GoSem.Claim
import GoSem.ClaimJoined
import GoSem.ClaimMapViews
import Derived.JoinedTies
import Derived.KernelRfl
namespace Go.Proofs.YtebdboacmeafaaaGreat
/- THE CELL 'sum', in the pinned program and in every row, IS THE sha256 OF THE DUMP (.gsa) THAT YtebdboacmeafaaaGreatProg.lean LOADS. Nothing in Lean hashes anything: it is a label: what it is worth is what the hold of that sum in a sandbox is worth. -/
noncomputable def Tryz.pinned : Pinned := { name := "ytebdboacmeafaaagreat", sum := "08df82190a429a64cf296d53b06100c34afa96bfffb466f48253b9c2eb2847bf", checked := Tryz.checked }
namespace Rows
def none {H : Type} : Left H := { results := [], args := [] }

/-- 'firetowerlaw05.CircleEdits': WHATEVER THE INPUT: true; the input reads as it did. -/
def circleEditsSpec : ChangeSpec := { name := "circleEdits", fn := fun _ => fun
  | [d1, d2, d3] => { results := [.lit (.bool true)], args := [d1, d2, d3] }
  | _ => none }
def circleEditsRow : OpenClaim := { program := "ytebdboacmeafaaagreat", sum := "08df82190a429a64cf296d53b06100c34afa96bfffb466f48253b9c2eb2847bf", func := "firetower/firetowerlaw05.CircleEdits", spec := "circleEdits", unfollowed := true, recurses := true, apart := false }
def CircleEditsSaid : Prop := circleEditsRow.holds Tryz.pinned (OpenSpec.ofChange circleEditsSpec)

/-- ITS FALSE NEIGHBOUR: 'it returns false'. Refute it at one input. -/
def circleEditsWrong : ChangeSpec := { name := "circleEdits", fn := fun _ => fun
  | [d1, d2, d3] => { results := [.lit (.bool false)], args := [d1, d2, d3] }
  | _ => none }
def CircleEditsWrongFalsely : Prop := circleEditsRow.holds Tryz.pinned (OpenSpec.ofChange circleEditsWrong)

/-- 'firetowerlaw05.CircleLists': WHATEVER THE INPUT: true; the input reads as it did. -/
def circleListsSpec : ChangeSpec := { name := "circleLists", fn := fun _ => fun
  | [d1, d2, d3, d4] => { results := [.lit (.bool true)], args := [d1, d2, d3, d4] }
  | _ => none }
def circleListsRow : OpenClaim := { program := "ytebdboacmeafaaagreat", sum := "08df82190a429a64cf296d53b06100c34afa96bfffb466f48253b9c2eb2847bf", func := "firetower/firetowerlaw05.CircleLists", spec := "circleLists", unfollowed := true, recurses := true, apart := false }
def CircleListsSaid : Prop := circleListsRow.holds Tryz.pinned (OpenSpec.ofChange circleListsSpec)

/-- ITS FALSE NEIGHBOUR: 'it returns false'. Refute it at one input. -/
def circleListsWrong : ChangeSpec := { name := "circleLists", fn := fun _ => fun
  | [d1, d2, d3, d4] => { results := [.lit (.bool false)], args := [d1, d2, d3, d4] }
  | _ => none }
def CircleListsWrongFalsely : Prop := circleListsRow.holds Tryz.pinned (OpenSpec.ofChange circleListsWrong)

/-- 'firetowerlaw05.CircleHelps': WHATEVER THE INPUT: true; the input reads as it did. -/
def circleHelpsSpec : ChangeSpec := { name := "circleHelps", fn := fun _ => fun
  | [d1, d2, d3] => { results := [.lit (.bool true)], args := [d1, d2, d3] }
  | _ => none }
def circleHelpsRow : OpenClaim := { program := "ytebdboacmeafaaagreat", sum := "08df82190a429a64cf296d53b06100c34afa96bfffb466f48253b9c2eb2847bf", func := "firetower/firetowerlaw05.CircleHelps", spec := "circleHelps", unfollowed := true, recurses := true, apart := false }
def CircleHelpsSaid : Prop := circleHelpsRow.holds Tryz.pinned (OpenSpec.ofChange circleHelpsSpec)

/-- ITS FALSE NEIGHBOUR: 'it returns false'. Refute it at one input. -/
def circleHelpsWrong : ChangeSpec := { name := "circleHelps", fn := fun _ => fun
  | [d1, d2, d3] => { results := [.lit (.bool false)], args := [d1, d2, d3] }
  | _ => none }
def CircleHelpsWrongFalsely : Prop := circleHelpsRow.holds Tryz.pinned (OpenSpec.ofChange circleHelpsWrong)

/-- 'firetowerlaw05.CirclePairs': WHATEVER THE INPUT: true; the input reads as it did. -/
def circlePairsSpec : ChangeSpec := { name := "circlePairs", fn := fun _ => fun
  | [d] => { results := [.lit (.bool true)], args := [d] }
  | _ => none }
def circlePairsRow : OpenClaim := { program := "ytebdboacmeafaaagreat", sum := "08df82190a429a64cf296d53b06100c34afa96bfffb466f48253b9c2eb2847bf", func := "firetower/firetowerlaw05.CirclePairs", spec := "circlePairs", unfollowed := true, recurses := true, apart := false }
def CirclePairsSaid : Prop := circlePairsRow.holds Tryz.pinned (OpenSpec.ofChange circlePairsSpec)

/-- ITS FALSE NEIGHBOUR: 'it returns false'. Refute it at one input. -/
def circlePairsWrong : ChangeSpec := { name := "circlePairs", fn := fun _ => fun
  | [d] => { results := [.lit (.bool false)], args := [d] }
  | _ => none }
def CirclePairsWrongFalsely : Prop := circlePairsRow.holds Tryz.pinned (OpenSpec.ofChange circlePairsWrong)

/- THE SECOND FORM. 'bulk': how many values and letters a reading holds, each counted each time it is reached (what is shared counts as often as it is met; a slice's spare places count too). A statement '..UptoSaid' is the law's where the arguments, and the package variables that the reading takes, are together of bulk at most 1048576: NARROWER than '..Said'. Prove '..Said' where nothing that the law and all that it calls make is longer than what came in: it says more and counts as full. Else prove '..UptoSaid'. A law counts once. -/
mutual
def uptoBulk {H : Type} : DataW H → Nat
  | .lit (.string bytes) => bytes.length + 1
  | .lit _ => 1
  | .nil => 1
  | .ptr d => uptoBulk d + 1
  | .slice elems spare => uptoBulkAll elems + uptoBulkAll spare + 1
  | .agg parts => uptoBulkAll parts + 1
  | .iface _ d => uptoBulk d + 1
  | .map entries => uptoBulkEntries entries + 1
  | .held _ => 1
def uptoBulkAll {H : Type} : List (DataW H) → Nat
  | [] => 0
  | d :: r => uptoBulk d + uptoBulkAll r
def uptoBulkEntries {H : Type} : List (Lit × DataW H) → Nat
  | [] => 0
  | x :: r => uptoBulkEntry x + uptoBulkEntries r
def uptoBulkEntry {H : Type} : Lit × DataW H → Nat
  | (.string bytes, d) => bytes.length + uptoBulk d + 1
  | (_, d) => uptoBulk d + 1
 end
def uptoSmall : (H : Type) → List (DataW H) → Bool := fun _ ds => decide (uptoBulkAll ds ≤ 1048576)
def OpenSpec.upto (s : _root_.Go.ChangeSpec) : _root_.Go.OpenSpec := { _root_.Go.OpenSpec.ofChange s with cond := some uptoSmall }

/-- 'firetowerlaw05.CircleEdits', WHERE WHAT IT READS IS OF BULK AT MOST 1048576: true; the input reads as it did. -/
def circleEditsUptoRow : OpenClaim := { program := "ytebdboacmeafaaagreat", sum := "08df82190a429a64cf296d53b06100c34afa96bfffb466f48253b9c2eb2847bf", func := "firetower/firetowerlaw05.CircleEdits", spec := "circleEdits", unfollowed := true, recurses := true, apart := false, narrowed := true }
def CircleEditsUptoSaid : Prop := circleEditsUptoRow.holds Tryz.pinned (OpenSpec.upto circleEditsSpec)

/-- 'firetowerlaw05.CircleLists', WHERE WHAT IT READS IS OF BULK AT MOST 1048576: true; the input reads as it did. -/
def circleListsUptoRow : OpenClaim := { program := "ytebdboacmeafaaagreat", sum := "08df82190a429a64cf296d53b06100c34afa96bfffb466f48253b9c2eb2847bf", func := "firetower/firetowerlaw05.CircleLists", spec := "circleLists", unfollowed := true, recurses := true, apart := false, narrowed := true }
def CircleListsUptoSaid : Prop := circleListsUptoRow.holds Tryz.pinned (OpenSpec.upto circleListsSpec)

/-- 'firetowerlaw05.CircleHelps', WHERE WHAT IT READS IS OF BULK AT MOST 1048576: true; the input reads as it did. -/
def circleHelpsUptoRow : OpenClaim := { program := "ytebdboacmeafaaagreat", sum := "08df82190a429a64cf296d53b06100c34afa96bfffb466f48253b9c2eb2847bf", func := "firetower/firetowerlaw05.CircleHelps", spec := "circleHelps", unfollowed := true, recurses := true, apart := false, narrowed := true }
def CircleHelpsUptoSaid : Prop := circleHelpsUptoRow.holds Tryz.pinned (OpenSpec.upto circleHelpsSpec)

/-- 'firetowerlaw05.CirclePairs', WHERE WHAT IT READS IS OF BULK AT MOST 1048576: true; the input reads as it did. -/
def circlePairsUptoRow : OpenClaim := { program := "ytebdboacmeafaaagreat", sum := "08df82190a429a64cf296d53b06100c34afa96bfffb466f48253b9c2eb2847bf", func := "firetower/firetowerlaw05.CirclePairs", spec := "circlePairs", unfollowed := true, recurses := true, apart := false, narrowed := true }
def CirclePairsUptoSaid : Prop := circlePairsUptoRow.holds Tryz.pinned (OpenSpec.upto circlePairsSpec)

end Rows
end Go.Proofs.YtebdboacmeafaaaGreat
