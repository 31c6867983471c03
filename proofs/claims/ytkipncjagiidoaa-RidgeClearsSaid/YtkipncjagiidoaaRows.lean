/-
  No cell of these rows narrows 'for every input' (looked for: loops, veiled, ifaces, maps, wideKeys, modest, calm, conditions, laid).
  DERIVED. THE GIVEN ROWS OF THIS SEAT. 10 by the template 'for every input the law returns true; each argument reads behind the call as it read before'; 0 by the template 'total and deterministic' (their statements: YtkipncjagiidoaaTotals.lean).
  GIVEN WITH THE SEED: the statements are not yours to turn. If you find one false, say at which input.
  Laid BY PROGRAM, IN A SANDBOX (cutbox-rows.mjs): the forced cells as the released guide's own fill.sh prints them over the translation e7e14f934bdabfb4… (all of the seat's roots in one cut). By AI agents, Wed Nov 11 2026. No macro, syntax, notation, axiom, sorry.
-/
import Derived.Test.YtkipncjagiidoaaChecked
import GoSem.Claim
import GoSem.ClaimJoined
import GoSem.ClaimMapViews
import Derived.JoinedTies
import Derived.KernelRfl
namespace Go.Proofs.Ytkipncjagiidoaa
/- THE CELL 'sum', in the pinned program and in every row, IS THE sha256 OF THE DUMP (.gsa) THAT YtkipncjagiidoaaProg.lean LOADS. Nothing in Lean hashes anything: it is a label: what it is worth is what the hold of that sum in a sandbox is worth. -/
noncomputable def Try.pinned : Pinned := { name := "ytkipncjagiidoaa", sum := "e7e14f934bdabfb4aa53506e0be51f09e36c709713d66e0a46e93a80a6e938c8", checked := Try.checked }
namespace Rows
def none {H : Type} : Left H := { results := [], args := [] }

/-- 'firetowerlaw04.RidgeMaps': WHATEVER THE INPUT: true; the input reads as it did. -/
def ridgeMapsSpec : ChangeSpec := { name := "ridgeMaps", fn := fun _ => fun
  | [d1, d2, d3] => { results := [.lit (.bool true)], args := [d1, d2, d3] }
  | _ => none }
def ridgeMapsRow : OpenClaim := { program := "ytkipncjagiidoaa", sum := "e7e14f934bdabfb4aa53506e0be51f09e36c709713d66e0a46e93a80a6e938c8", func := "firetower/firetowerlaw04.RidgeMaps", spec := "ridgeMaps", unfollowed := true, recurses := true, apart := false }
def RidgeMapsSaid : Prop := ridgeMapsRow.holds Try.pinned (OpenSpec.ofChange ridgeMapsSpec)

/-- ITS FALSE NEIGHBOUR: 'it returns false'. Refute it at one input. -/
def ridgeMapsWrong : ChangeSpec := { name := "ridgeMaps", fn := fun _ => fun
  | [d1, d2, d3] => { results := [.lit (.bool false)], args := [d1, d2, d3] }
  | _ => none }
def RidgeMapsWrongFalsely : Prop := ridgeMapsRow.holds Try.pinned (OpenSpec.ofChange ridgeMapsWrong)

/-- 'firetowerlaw04.RidgeLines': WHATEVER THE INPUT: true; the input reads as it did. -/
def ridgeLinesSpec : ChangeSpec := { name := "ridgeLines", fn := fun _ => fun
  | [d1, d2, d3] => { results := [.lit (.bool true)], args := [d1, d2, d3] }
  | _ => none }
def ridgeLinesRow : OpenClaim := { program := "ytkipncjagiidoaa", sum := "e7e14f934bdabfb4aa53506e0be51f09e36c709713d66e0a46e93a80a6e938c8", func := "firetower/firetowerlaw04.RidgeLines", spec := "ridgeLines", unfollowed := true, recurses := true, apart := false }
def RidgeLinesSaid : Prop := ridgeLinesRow.holds Try.pinned (OpenSpec.ofChange ridgeLinesSpec)

/-- ITS FALSE NEIGHBOUR: 'it returns false'. Refute it at one input. -/
def ridgeLinesWrong : ChangeSpec := { name := "ridgeLines", fn := fun _ => fun
  | [d1, d2, d3] => { results := [.lit (.bool false)], args := [d1, d2, d3] }
  | _ => none }
def RidgeLinesWrongFalsely : Prop := ridgeLinesRow.holds Try.pinned (OpenSpec.ofChange ridgeLinesWrong)

/-- 'firetowerlaw04.RidgeClears': WHATEVER THE INPUT: true; the input reads as it did. -/
def ridgeClearsSpec : ChangeSpec := { name := "ridgeClears", fn := fun _ => fun
  | [d1, d2, d3, d4, d5, d6] => { results := [.lit (.bool true)], args := [d1, d2, d3, d4, d5, d6] }
  | _ => none }
def ridgeClearsRow : OpenClaim := { program := "ytkipncjagiidoaa", sum := "e7e14f934bdabfb4aa53506e0be51f09e36c709713d66e0a46e93a80a6e938c8", func := "firetower/firetowerlaw04.RidgeClears", spec := "ridgeClears", unfollowed := true, recurses := true, apart := false }
def RidgeClearsSaid : Prop := ridgeClearsRow.holds Try.pinned (OpenSpec.ofChange ridgeClearsSpec)

/-- ITS FALSE NEIGHBOUR: 'it returns false'. Refute it at one input. -/
def ridgeClearsWrong : ChangeSpec := { name := "ridgeClears", fn := fun _ => fun
  | [d1, d2, d3, d4, d5, d6] => { results := [.lit (.bool false)], args := [d1, d2, d3, d4, d5, d6] }
  | _ => none }
def RidgeClearsWrongFalsely : Prop := ridgeClearsRow.holds Try.pinned (OpenSpec.ofChange ridgeClearsWrong)

/-- 'firetowerlaw04.RidgeNeeds': WHATEVER THE INPUT: true; the input reads as it did. -/
def ridgeNeedsSpec : ChangeSpec := { name := "ridgeNeeds", fn := fun _ => fun
  | [d1, d2, d3, d4] => { results := [.lit (.bool true)], args := [d1, d2, d3, d4] }
  | _ => none }
def ridgeNeedsRow : OpenClaim := { program := "ytkipncjagiidoaa", sum := "e7e14f934bdabfb4aa53506e0be51f09e36c709713d66e0a46e93a80a6e938c8", func := "firetower/firetowerlaw04.RidgeNeeds", spec := "ridgeNeeds", unfollowed := true, recurses := true, apart := false }
def RidgeNeedsSaid : Prop := ridgeNeedsRow.holds Try.pinned (OpenSpec.ofChange ridgeNeedsSpec)

/-- ITS FALSE NEIGHBOUR: 'it returns false'. Refute it at one input. -/
def ridgeNeedsWrong : ChangeSpec := { name := "ridgeNeeds", fn := fun _ => fun
  | [d1, d2, d3, d4] => { results := [.lit (.bool false)], args := [d1, d2, d3, d4] }
  | _ => none }
def RidgeNeedsWrongFalsely : Prop := ridgeNeedsRow.holds Try.pinned (OpenSpec.ofChange ridgeNeedsWrong)

/-- 'firetowerlaw04.RidgeLinks': WHATEVER THE INPUT: true; the input reads as it did. -/
def ridgeLinksSpec : ChangeSpec := { name := "ridgeLinks", fn := fun _ => fun
  | [d] => { results := [.lit (.bool true)], args := [d] }
  | _ => none }
def ridgeLinksRow : OpenClaim := { program := "ytkipncjagiidoaa", sum := "e7e14f934bdabfb4aa53506e0be51f09e36c709713d66e0a46e93a80a6e938c8", func := "firetower/firetowerlaw04.RidgeLinks", spec := "ridgeLinks", unfollowed := true, recurses := true, apart := false }
def RidgeLinksSaid : Prop := ridgeLinksRow.holds Try.pinned (OpenSpec.ofChange ridgeLinksSpec)

/-- ITS FALSE NEIGHBOUR: 'it returns false'. Refute it at one input. -/
def ridgeLinksWrong : ChangeSpec := { name := "ridgeLinks", fn := fun _ => fun
  | [d] => { results := [.lit (.bool false)], args := [d] }
  | _ => none }
def RidgeLinksWrongFalsely : Prop := ridgeLinksRow.holds Try.pinned (OpenSpec.ofChange ridgeLinksWrong)

/-- 'firetowerlaw04.RidgeFractions': WHATEVER THE INPUT: true; the input reads as it did. -/
def ridgeFractionsSpec : ChangeSpec := { name := "ridgeFractions", fn := fun _ => fun
  | [d1, d2] => { results := [.lit (.bool true)], args := [d1, d2] }
  | _ => none }
def ridgeFractionsRow : OpenClaim := { program := "ytkipncjagiidoaa", sum := "e7e14f934bdabfb4aa53506e0be51f09e36c709713d66e0a46e93a80a6e938c8", func := "firetower/firetowerlaw04.RidgeFractions", spec := "ridgeFractions", unfollowed := true, recurses := true, apart := false }
def RidgeFractionsSaid : Prop := ridgeFractionsRow.holds Try.pinned (OpenSpec.ofChange ridgeFractionsSpec)

/-- ITS FALSE NEIGHBOUR: 'it returns false'. Refute it at one input. -/
def ridgeFractionsWrong : ChangeSpec := { name := "ridgeFractions", fn := fun _ => fun
  | [d1, d2] => { results := [.lit (.bool false)], args := [d1, d2] }
  | _ => none }
def RidgeFractionsWrongFalsely : Prop := ridgeFractionsRow.holds Try.pinned (OpenSpec.ofChange ridgeFractionsWrong)

/-- 'firetowerlaw04.RidgeBothWays': WHATEVER THE INPUT: true; the input reads as it did. -/
def ridgeBothWaysSpec : ChangeSpec := { name := "ridgeBothWays", fn := fun _ => fun
  | [d1, d2, d3, d4, d5, d6, d7, d8] => { results := [.lit (.bool true)], args := [d1, d2, d3, d4, d5, d6, d7, d8] }
  | _ => none }
def ridgeBothWaysRow : OpenClaim := { program := "ytkipncjagiidoaa", sum := "e7e14f934bdabfb4aa53506e0be51f09e36c709713d66e0a46e93a80a6e938c8", func := "firetower/firetowerlaw04.RidgeBothWays", spec := "ridgeBothWays", unfollowed := true, recurses := true, apart := false }
def RidgeBothWaysSaid : Prop := ridgeBothWaysRow.holds Try.pinned (OpenSpec.ofChange ridgeBothWaysSpec)

/-- ITS FALSE NEIGHBOUR: 'it returns false'. Refute it at one input. -/
def ridgeBothWaysWrong : ChangeSpec := { name := "ridgeBothWays", fn := fun _ => fun
  | [d1, d2, d3, d4, d5, d6, d7, d8] => { results := [.lit (.bool false)], args := [d1, d2, d3, d4, d5, d6, d7, d8] }
  | _ => none }
def RidgeBothWaysWrongFalsely : Prop := ridgeBothWaysRow.holds Try.pinned (OpenSpec.ofChange ridgeBothWaysWrong)

/-- 'firetowerlaw04.RidgeLeast': WHATEVER THE INPUT: true; the input reads as it did. -/
def ridgeLeastSpec : ChangeSpec := { name := "ridgeLeast", fn := fun _ => fun
  | [d1, d2, d3, d4] => { results := [.lit (.bool true)], args := [d1, d2, d3, d4] }
  | _ => none }
def ridgeLeastRow : OpenClaim := { program := "ytkipncjagiidoaa", sum := "e7e14f934bdabfb4aa53506e0be51f09e36c709713d66e0a46e93a80a6e938c8", func := "firetower/firetowerlaw04.RidgeLeast", spec := "ridgeLeast", unfollowed := true, recurses := true, apart := false }
def RidgeLeastSaid : Prop := ridgeLeastRow.holds Try.pinned (OpenSpec.ofChange ridgeLeastSpec)

/-- ITS FALSE NEIGHBOUR: 'it returns false'. Refute it at one input. -/
def ridgeLeastWrong : ChangeSpec := { name := "ridgeLeast", fn := fun _ => fun
  | [d1, d2, d3, d4] => { results := [.lit (.bool false)], args := [d1, d2, d3, d4] }
  | _ => none }
def RidgeLeastWrongFalsely : Prop := ridgeLeastRow.holds Try.pinned (OpenSpec.ofChange ridgeLeastWrong)

/-- 'firetowerlaw04.RidgeBlocks': WHATEVER THE INPUT: true; the input reads as it did. -/
def ridgeBlocksSpec : ChangeSpec := { name := "ridgeBlocks", fn := fun _ => fun
  | [d1, d2, d3, d4, d5] => { results := [.lit (.bool true)], args := [d1, d2, d3, d4, d5] }
  | _ => none }
def ridgeBlocksRow : OpenClaim := { program := "ytkipncjagiidoaa", sum := "e7e14f934bdabfb4aa53506e0be51f09e36c709713d66e0a46e93a80a6e938c8", func := "firetower/firetowerlaw04.RidgeBlocks", spec := "ridgeBlocks", unfollowed := true, recurses := true, apart := false }
def RidgeBlocksSaid : Prop := ridgeBlocksRow.holds Try.pinned (OpenSpec.ofChange ridgeBlocksSpec)

/-- ITS FALSE NEIGHBOUR: 'it returns false'. Refute it at one input. -/
def ridgeBlocksWrong : ChangeSpec := { name := "ridgeBlocks", fn := fun _ => fun
  | [d1, d2, d3, d4, d5] => { results := [.lit (.bool false)], args := [d1, d2, d3, d4, d5] }
  | _ => none }
def RidgeBlocksWrongFalsely : Prop := ridgeBlocksRow.holds Try.pinned (OpenSpec.ofChange ridgeBlocksWrong)

/-- 'firetowerlaw04.RidgeMirrors': WHATEVER THE INPUT: true; the input reads as it did. -/
def ridgeMirrorsSpec : ChangeSpec := { name := "ridgeMirrors", fn := fun _ => fun
  | [d1, d2, d3, d4, d5, d6] => { results := [.lit (.bool true)], args := [d1, d2, d3, d4, d5, d6] }
  | _ => none }
def ridgeMirrorsRow : OpenClaim := { program := "ytkipncjagiidoaa", sum := "e7e14f934bdabfb4aa53506e0be51f09e36c709713d66e0a46e93a80a6e938c8", func := "firetower/firetowerlaw04.RidgeMirrors", spec := "ridgeMirrors", unfollowed := true, recurses := true, apart := false }
def RidgeMirrorsSaid : Prop := ridgeMirrorsRow.holds Try.pinned (OpenSpec.ofChange ridgeMirrorsSpec)

/-- ITS FALSE NEIGHBOUR: 'it returns false'. Refute it at one input. -/
def ridgeMirrorsWrong : ChangeSpec := { name := "ridgeMirrors", fn := fun _ => fun
  | [d1, d2, d3, d4, d5, d6] => { results := [.lit (.bool false)], args := [d1, d2, d3, d4, d5, d6] }
  | _ => none }
def RidgeMirrorsWrongFalsely : Prop := ridgeMirrorsRow.holds Try.pinned (OpenSpec.ofChange ridgeMirrorsWrong)

/- THE SECOND FORM. 'bulk': how many values and letters a reading holds, each counted each time it is reached (what is shared counts as often as it is met; a slice's spare places count too). A statement '..UptoSaid' is the law's where the arguments, and the package variables that the reading takes, are together of bulk at most 1048576: NARROWER than '..Said'. Prove '..Said' where nothing that the law and all that it calls make is longer than what came in: it says more and counts as full. Else prove '..UptoSaid'. A law counts once. -/
mutual
def uptoBulk {H : Type} : DataW H → Nat
  | .lit (.string bytes) => bytes.length + 1
  | .lit _ => 1
  | .nil => 1
  | .ptr d => uptoBulk d + 1
  | .slice elems spare => uptoBulkAll elems + uptoBulkAll spare + 1
  | .agg parts => uptoBulkAll parts + 1
  | .iface _ d => uptoBulk d + 1
  | .map entries => uptoBulkEntries entries + 1
  | .held _ => 1
def uptoBulkAll {H : Type} : List (DataW H) → Nat
  | [] => 0
  | d :: r => uptoBulk d + uptoBulkAll r
def uptoBulkEntries {H : Type} : List (Lit × DataW H) → Nat
  | [] => 0
  | x :: r => uptoBulkEntry x + uptoBulkEntries r
def uptoBulkEntry {H : Type} : Lit × DataW H → Nat
  | (.string bytes, d) => bytes.length + uptoBulk d + 1
  | (_, d) => uptoBulk d + 1
 end
def uptoSmall : (H : Type) → List (DataW H) → Bool := fun _ ds => decide (uptoBulkAll ds ≤ 1048576)
def OpenSpec.upto (s : _root_.Go.ChangeSpec) : _root_.Go.OpenSpec := { _root_.Go.OpenSpec.ofChange s with cond := some uptoSmall }

/-- 'firetowerlaw04.RidgeMaps', WHERE WHAT IT READS IS OF BULK AT MOST 1048576: true; the input reads as it did. -/
def ridgeMapsUptoRow : OpenClaim := { program := "ytkipncjagiidoaa", sum := "e7e14f934bdabfb4aa53506e0be51f09e36c709713d66e0a46e93a80a6e938c8", func := "firetower/firetowerlaw04.RidgeMaps", spec := "ridgeMaps", unfollowed := true, recurses := true, apart := false, narrowed := true }
def RidgeMapsUptoSaid : Prop := ridgeMapsUptoRow.holds Try.pinned (OpenSpec.upto ridgeMapsSpec)

/-- 'firetowerlaw04.RidgeLines', WHERE WHAT IT READS IS OF BULK AT MOST 1048576: true; the input reads as it did. -/
def ridgeLinesUptoRow : OpenClaim := { program := "ytkipncjagiidoaa", sum := "e7e14f934bdabfb4aa53506e0be51f09e36c709713d66e0a46e93a80a6e938c8", func := "firetower/firetowerlaw04.RidgeLines", spec := "ridgeLines", unfollowed := true, recurses := true, apart := false, narrowed := true }
def RidgeLinesUptoSaid : Prop := ridgeLinesUptoRow.holds Try.pinned (OpenSpec.upto ridgeLinesSpec)

/-- 'firetowerlaw04.RidgeClears', WHERE WHAT IT READS IS OF BULK AT MOST 1048576: true; the input reads as it did. -/
def ridgeClearsUptoRow : OpenClaim := { program := "ytkipncjagiidoaa", sum := "e7e14f934bdabfb4aa53506e0be51f09e36c709713d66e0a46e93a80a6e938c8", func := "firetower/firetowerlaw04.RidgeClears", spec := "ridgeClears", unfollowed := true, recurses := true, apart := false, narrowed := true }
def RidgeClearsUptoSaid : Prop := ridgeClearsUptoRow.holds Try.pinned (OpenSpec.upto ridgeClearsSpec)

/-- 'firetowerlaw04.RidgeNeeds', WHERE WHAT IT READS IS OF BULK AT MOST 1048576: true; the input reads as it did. -/
def ridgeNeedsUptoRow : OpenClaim := { program := "ytkipncjagiidoaa", sum := "e7e14f934bdabfb4aa53506e0be51f09e36c709713d66e0a46e93a80a6e938c8", func := "firetower/firetowerlaw04.RidgeNeeds", spec := "ridgeNeeds", unfollowed := true, recurses := true, apart := false, narrowed := true }
def RidgeNeedsUptoSaid : Prop := ridgeNeedsUptoRow.holds Try.pinned (OpenSpec.upto ridgeNeedsSpec)

/-- 'firetowerlaw04.RidgeLinks', WHERE WHAT IT READS IS OF BULK AT MOST 1048576: true; the input reads as it did. -/
def ridgeLinksUptoRow : OpenClaim := { program := "ytkipncjagiidoaa", sum := "e7e14f934bdabfb4aa53506e0be51f09e36c709713d66e0a46e93a80a6e938c8", func := "firetower/firetowerlaw04.RidgeLinks", spec := "ridgeLinks", unfollowed := true, recurses := true, apart := false, narrowed := true }
def RidgeLinksUptoSaid : Prop := ridgeLinksUptoRow.holds Try.pinned (OpenSpec.upto ridgeLinksSpec)

/-- 'firetowerlaw04.RidgeFractions', WHERE WHAT IT READS IS OF BULK AT MOST 1048576: true; the input reads as it did. -/
def ridgeFractionsUptoRow : OpenClaim := { program := "ytkipncjagiidoaa", sum := "e7e14f934bdabfb4aa53506e0be51f09e36c709713d66e0a46e93a80a6e938c8", func := "firetower/firetowerlaw04.RidgeFractions", spec := "ridgeFractions", unfollowed := true, recurses := true, apart := false, narrowed := true }
def RidgeFractionsUptoSaid : Prop := ridgeFractionsUptoRow.holds Try.pinned (OpenSpec.upto ridgeFractionsSpec)

/-- 'firetowerlaw04.RidgeBothWays', WHERE WHAT IT READS IS OF BULK AT MOST 1048576: true; the input reads as it did. -/
def ridgeBothWaysUptoRow : OpenClaim := { program := "ytkipncjagiidoaa", sum := "e7e14f934bdabfb4aa53506e0be51f09e36c709713d66e0a46e93a80a6e938c8", func := "firetower/firetowerlaw04.RidgeBothWays", spec := "ridgeBothWays", unfollowed := true, recurses := true, apart := false, narrowed := true }
def RidgeBothWaysUptoSaid : Prop := ridgeBothWaysUptoRow.holds Try.pinned (OpenSpec.upto ridgeBothWaysSpec)

/-- 'firetowerlaw04.RidgeLeast', WHERE WHAT IT READS IS OF BULK AT MOST 1048576: true; the input reads as it did. -/
def ridgeLeastUptoRow : OpenClaim := { program := "ytkipncjagiidoaa", sum := "e7e14f934bdabfb4aa53506e0be51f09e36c709713d66e0a46e93a80a6e938c8", func := "firetower/firetowerlaw04.RidgeLeast", spec := "ridgeLeast", unfollowed := true, recurses := true, apart := false, narrowed := true }
def RidgeLeastUptoSaid : Prop := ridgeLeastUptoRow.holds Try.pinned (OpenSpec.upto ridgeLeastSpec)

/-- 'firetowerlaw04.RidgeBlocks', WHERE WHAT IT READS IS OF BULK AT MOST 1048576: true; the input reads as it did. -/
def ridgeBlocksUptoRow : OpenClaim := { program := "ytkipncjagiidoaa", sum := "e7e14f934bdabfb4aa53506e0be51f09e36c709713d66e0a46e93a80a6e938c8", func := "firetower/firetowerlaw04.RidgeBlocks", spec := "ridgeBlocks", unfollowed := true, recurses := true, apart := false, narrowed := true }
def RidgeBlocksUptoSaid : Prop := ridgeBlocksUptoRow.holds Try.pinned (OpenSpec.upto ridgeBlocksSpec)

/-- 'firetowerlaw04.RidgeMirrors', WHERE WHAT IT READS IS OF BULK AT MOST 1048576: true; the input reads as it did. -/
def ridgeMirrorsUptoRow : OpenClaim := { program := "ytkipncjagiidoaa", sum := "e7e14f934bdabfb4aa53506e0be51f09e36c709713d66e0a46e93a80a6e938c8", func := "firetower/firetowerlaw04.RidgeMirrors", spec := "ridgeMirrors", unfollowed := true, recurses := true, apart := false, narrowed := true }
def RidgeMirrorsUptoSaid : Prop := ridgeMirrorsUptoRow.holds Try.pinned (OpenSpec.upto ridgeMirrorsSpec)

end Rows
end Go.Proofs.Ytkipncjagiidoaa
