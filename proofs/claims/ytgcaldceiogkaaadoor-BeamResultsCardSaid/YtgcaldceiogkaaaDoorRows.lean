/-
  NARROWER THAN 'FOR EVERY INPUT', by the rows' own cells (each row's printed sentence says how): BeamFaults: laid · BeamFewest: laid · BeamResults: laid · BeamStreams: laid · BeamExplained: laid · BeamMixes: laid · BeamSplits: laid.
  DERIVED. THE GIVEN ROWS OF THIS SEAT. 7 by the template 'for every input the law returns true; each argument reads behind the call as it read before'; 0 by the template 'total and deterministic' (their statements: YtgcaldceiogkaaaDoorTotals.lean).
  GIVEN WITH THE SEED: the statements are not yours to turn. If you find one false, say at which input.
  Laid BY PROGRAM, IN A SANDBOX (cutbox-rows.mjs): the forced cells as the released guide's own fill.sh prints them over the translation 37724ca56e3b1bd4… (all of the seat's roots in one cut). By AI agents, Wed Nov 11 2026. No macro, syntax, notation, axiom, sorry.
-/
import Derived.Test.YtgcaldceiogkaaaDoorChecked
import GoSem.PinnedTables
import GoSem.Claim
import GoSem.ClaimJoined
import GoSem.ClaimMapViews
import Derived.JoinedTies
import Derived.KernelRfl
namespace Go.Proofs.YtgcaldceiogkaaaDoor
/- THE CELL 'sum', in the pinned program and in every row, IS THE sha256 OF THE DUMP (.gsa) THAT YtgcaldceiogkaaaDoorProg.lean LOADS. Nothing in Lean hashes anything: it is a label: what it is worth is what the hold of that sum in a sandbox is worth. -/
noncomputable def Tryd.pinned : Pinned := { name := "ytgcaldceiogkaaadoor", sum := "37724ca56e3b1bd4803f7b9f75b3a0e17f0d3100bcc5306fe1d308571e673177", checked := Tryd.checked }
namespace Rows
def none {H : Type} : Left H := { results := [], args := [] }

/- WHAT THE LISTED PACKAGE-LEVEL VARIABLES READ AS WHEN THE CALL BEGINS. Each datum BY PROGRAM (the guide's laid-datum.mjs) off the statement by which the dump's own 'gosem.cut.vars' lays the variable. In a bare row this is a premise. The card (YtgcaldceiogkaaaDoorCards.lean) ties it to the program's text. -/
def laid_unicode_utf8_acceptRanges {H : Type} : DataW H := .agg [.agg [.lit (.int .u8 128), .lit (.int .u8 191)], .agg [.lit (.int .u8 160), .lit (.int .u8 191)], .agg [.lit (.int .u8 128), .lit (.int .u8 159)], .agg [.lit (.int .u8 144), .lit (.int .u8 191)], .agg [.lit (.int .u8 128), .lit (.int .u8 143)], .agg [.lit (.int .u8 0), .lit (.int .u8 0)], .agg [.lit (.int .u8 0), .lit (.int .u8 0)], .agg [.lit (.int .u8 0), .lit (.int .u8 0)], .agg [.lit (.int .u8 0), .lit (.int .u8 0)], .agg [.lit (.int .u8 0), .lit (.int .u8 0)], .agg [.lit (.int .u8 0), .lit (.int .u8 0)], .agg [.lit (.int .u8 0), .lit (.int .u8 0)], .agg [.lit (.int .u8 0), .lit (.int .u8 0)], .agg [.lit (.int .u8 0), .lit (.int .u8 0)], .agg [.lit (.int .u8 0), .lit (.int .u8 0)], .agg [.lit (.int .u8 0), .lit (.int .u8 0)]]
def laid_firetower_beam_codes {H : Type} : DataW H := .agg [.lit (.string [46, 45, 46, 45, 46]), .lit (.string [46, 45]), .lit (.string [45, 46, 46, 46]), .lit (.string [45, 46, 45, 46]), .lit (.string [45, 46, 46]), .lit (.string [46]), .lit (.string [46, 46, 45, 46]), .lit (.string [45, 45, 46]), .lit (.string [46, 46, 46, 46]), .lit (.string [46, 46]), .lit (.string [46, 45, 45, 45]), .lit (.string [45, 46, 45]), .lit (.string [46, 45, 46, 46]), .lit (.string [45, 45]), .lit (.string [45, 46]), .lit (.string [45, 45, 45]), .lit (.string [46, 45, 45, 46]), .lit (.string [45, 45, 46, 45]), .lit (.string [46, 45, 46]), .lit (.string [46, 46, 46]), .lit (.string [45]), .lit (.string [46, 46, 45]), .lit (.string [46, 46, 46, 45]), .lit (.string [46, 45, 45]), .lit (.string [45, 46, 46, 45]), .lit (.string [45, 46, 45, 45]), .lit (.string [45, 45, 46, 46]), .lit (.string [45, 45, 45, 46]), .lit (.string [45, 45, 45, 45])]
def laid_firetower_beam_parts {H : Type} : DataW H := .agg [.agg [.lit (.int .i64 0), .lit (.int .i64 1), .lit (.int .i64 1)], .agg [.lit (.int .i64 1), .lit (.int .i64 1), .lit (.int .i64 0)], .agg [.lit (.int .i64 2), .lit (.int .i64 1), .lit (.int .i64 2)], .agg [.lit (.int .i64 3), .lit (.int .i64 2), .lit (.int .i64 2)]]
/-- One of Go's own tables, pinned by name: the form's constant. -/
def laid_unicode_utf8_first : DataW Unit := Go.Pinned.utf8First

/-- 'firetowerlaw01.BeamFaults': WHATEVER THE INPUT: true; the input reads as it did. -/
def beamFaultsSpec : ChangeSpec := { name := "beamFaults", fn := fun _ => fun
  | [d1, d2, d3] => { results := [.lit (.bool true)], args := [d1, d2, d3] }
  | _ => none }
def beamFaultsRow : OpenClaim := { program := "ytgcaldceiogkaaadoor", sum := "37724ca56e3b1bd4803f7b9f75b3a0e17f0d3100bcc5306fe1d308571e673177", func := "firetower/firetowerlaw01.BeamFaults", spec := "beamFaults", inPlace := ["internal/bytealg.IndexByteString", "internal/bytealg.IndexString"], unfollowed := true, recurses := true, named := ["firetower/beam.codes", "unicode/utf8.first", "unicode/utf8.acceptRanges", "internal/bytealg.MaxLen", "firetower/beam.parts"], apart := false, laid := [("unicode/utf8.acceptRanges", laid_unicode_utf8_acceptRanges), ("firetower/beam.codes", laid_firetower_beam_codes), ("firetower/beam.parts", laid_firetower_beam_parts), ("unicode/utf8.first", laid_unicode_utf8_first)] }
def BeamFaultsSaid : Prop := beamFaultsRow.holds Tryd.pinned (OpenSpec.ofChange beamFaultsSpec)

/-- ITS FALSE NEIGHBOUR: 'it returns false'. Refute it at one input. -/
def beamFaultsWrong : ChangeSpec := { name := "beamFaults", fn := fun _ => fun
  | [d1, d2, d3] => { results := [.lit (.bool false)], args := [d1, d2, d3] }
  | _ => none }
def BeamFaultsWrongFalsely : Prop := beamFaultsRow.holds Tryd.pinned (OpenSpec.ofChange beamFaultsWrong)

/-- 'firetowerlaw01.BeamFewest': WHATEVER THE INPUT: true; the input reads as it did. -/
def beamFewestSpec : ChangeSpec := { name := "beamFewest", fn := fun _ => fun
  | [d1, d2] => { results := [.lit (.bool true)], args := [d1, d2] }
  | _ => none }
def beamFewestRow : OpenClaim := { program := "ytgcaldceiogkaaadoor", sum := "37724ca56e3b1bd4803f7b9f75b3a0e17f0d3100bcc5306fe1d308571e673177", func := "firetower/firetowerlaw01.BeamFewest", spec := "beamFewest", inPlace := ["internal/bytealg.IndexByteString", "internal/bytealg.IndexString"], unfollowed := true, recurses := true, named := ["firetower/beam.codes", "unicode/utf8.first", "unicode/utf8.acceptRanges", "internal/bytealg.MaxLen", "firetower/beam.parts"], apart := false, laid := [("unicode/utf8.acceptRanges", laid_unicode_utf8_acceptRanges), ("firetower/beam.codes", laid_firetower_beam_codes), ("firetower/beam.parts", laid_firetower_beam_parts), ("unicode/utf8.first", laid_unicode_utf8_first)] }
def BeamFewestSaid : Prop := beamFewestRow.holds Tryd.pinned (OpenSpec.ofChange beamFewestSpec)

/-- ITS FALSE NEIGHBOUR: 'it returns false'. Refute it at one input. -/
def beamFewestWrong : ChangeSpec := { name := "beamFewest", fn := fun _ => fun
  | [d1, d2] => { results := [.lit (.bool false)], args := [d1, d2] }
  | _ => none }
def BeamFewestWrongFalsely : Prop := beamFewestRow.holds Tryd.pinned (OpenSpec.ofChange beamFewestWrong)

/-- 'firetowerlaw01.BeamResults': WHATEVER THE INPUT: true; the input reads as it did. -/
def beamResultsSpec : ChangeSpec := { name := "beamResults", fn := fun _ => fun
  | [d1, d2] => { results := [.lit (.bool true)], args := [d1, d2] }
  | _ => none }
def beamResultsRow : OpenClaim := { program := "ytgcaldceiogkaaadoor", sum := "37724ca56e3b1bd4803f7b9f75b3a0e17f0d3100bcc5306fe1d308571e673177", func := "firetower/firetowerlaw01.BeamResults", spec := "beamResults", inPlace := ["internal/bytealg.IndexByteString", "internal/bytealg.IndexString"], unfollowed := true, recurses := true, named := ["firetower/beam.codes", "unicode/utf8.first", "unicode/utf8.acceptRanges", "internal/bytealg.MaxLen", "firetower/beam.parts"], apart := false, laid := [("unicode/utf8.acceptRanges", laid_unicode_utf8_acceptRanges), ("firetower/beam.codes", laid_firetower_beam_codes), ("firetower/beam.parts", laid_firetower_beam_parts), ("unicode/utf8.first", laid_unicode_utf8_first)] }
def BeamResultsSaid : Prop := beamResultsRow.holds Tryd.pinned (OpenSpec.ofChange beamResultsSpec)

/-- ITS FALSE NEIGHBOUR: 'it returns false'. Refute it at one input. -/
def beamResultsWrong : ChangeSpec := { name := "beamResults", fn := fun _ => fun
  | [d1, d2] => { results := [.lit (.bool false)], args := [d1, d2] }
  | _ => none }
def BeamResultsWrongFalsely : Prop := beamResultsRow.holds Tryd.pinned (OpenSpec.ofChange beamResultsWrong)

/-- 'firetowerlaw01.BeamStreams': WHATEVER THE INPUT: true; the input reads as it did. -/
def beamStreamsSpec : ChangeSpec := { name := "beamStreams", fn := fun _ => fun
  | [d] => { results := [.lit (.bool true)], args := [d] }
  | _ => none }
def beamStreamsRow : OpenClaim := { program := "ytgcaldceiogkaaadoor", sum := "37724ca56e3b1bd4803f7b9f75b3a0e17f0d3100bcc5306fe1d308571e673177", func := "firetower/firetowerlaw01.BeamStreams", spec := "beamStreams", inPlace := ["internal/bytealg.IndexByteString", "internal/bytealg.IndexString"], unfollowed := true, recurses := true, named := ["firetower/beam.codes", "unicode/utf8.first", "unicode/utf8.acceptRanges", "internal/bytealg.MaxLen", "firetower/beam.parts"], apart := false, laid := [("unicode/utf8.acceptRanges", laid_unicode_utf8_acceptRanges), ("firetower/beam.codes", laid_firetower_beam_codes), ("firetower/beam.parts", laid_firetower_beam_parts), ("unicode/utf8.first", laid_unicode_utf8_first)] }
def BeamStreamsSaid : Prop := beamStreamsRow.holds Tryd.pinned (OpenSpec.ofChange beamStreamsSpec)

/-- ITS FALSE NEIGHBOUR: 'it returns false'. Refute it at one input. -/
def beamStreamsWrong : ChangeSpec := { name := "beamStreams", fn := fun _ => fun
  | [d] => { results := [.lit (.bool false)], args := [d] }
  | _ => none }
def BeamStreamsWrongFalsely : Prop := beamStreamsRow.holds Tryd.pinned (OpenSpec.ofChange beamStreamsWrong)

/-- 'firetowerlaw01.BeamExplained': WHATEVER THE INPUT: true; the input reads as it did. -/
def beamExplainedSpec : ChangeSpec := { name := "beamExplained", fn := fun _ => fun
  | [d1, d2] => { results := [.lit (.bool true)], args := [d1, d2] }
  | _ => none }
def beamExplainedRow : OpenClaim := { program := "ytgcaldceiogkaaadoor", sum := "37724ca56e3b1bd4803f7b9f75b3a0e17f0d3100bcc5306fe1d308571e673177", func := "firetower/firetowerlaw01.BeamExplained", spec := "beamExplained", inPlace := ["internal/bytealg.IndexByteString", "internal/bytealg.IndexString"], unfollowed := true, recurses := true, named := ["firetower/beam.codes", "unicode/utf8.first", "unicode/utf8.acceptRanges", "internal/bytealg.MaxLen", "firetower/beam.parts"], apart := false, laid := [("unicode/utf8.acceptRanges", laid_unicode_utf8_acceptRanges), ("firetower/beam.codes", laid_firetower_beam_codes), ("firetower/beam.parts", laid_firetower_beam_parts), ("unicode/utf8.first", laid_unicode_utf8_first)] }
def BeamExplainedSaid : Prop := beamExplainedRow.holds Tryd.pinned (OpenSpec.ofChange beamExplainedSpec)

/-- ITS FALSE NEIGHBOUR: 'it returns false'. Refute it at one input. -/
def beamExplainedWrong : ChangeSpec := { name := "beamExplained", fn := fun _ => fun
  | [d1, d2] => { results := [.lit (.bool false)], args := [d1, d2] }
  | _ => none }
def BeamExplainedWrongFalsely : Prop := beamExplainedRow.holds Tryd.pinned (OpenSpec.ofChange beamExplainedWrong)

/-- 'firetowerlaw01.BeamMixes': WHATEVER THE INPUT: true; the input reads as it did. -/
def beamMixesSpec : ChangeSpec := { name := "beamMixes", fn := fun _ => fun
  | [d1, d2, d3] => { results := [.lit (.bool true)], args := [d1, d2, d3] }
  | _ => none }
def beamMixesRow : OpenClaim := { program := "ytgcaldceiogkaaadoor", sum := "37724ca56e3b1bd4803f7b9f75b3a0e17f0d3100bcc5306fe1d308571e673177", func := "firetower/firetowerlaw01.BeamMixes", spec := "beamMixes", inPlace := ["internal/bytealg.IndexByteString", "internal/bytealg.IndexString"], unfollowed := true, recurses := true, named := ["firetower/beam.codes", "unicode/utf8.first", "unicode/utf8.acceptRanges", "internal/bytealg.MaxLen", "firetower/beam.parts"], apart := false, laid := [("unicode/utf8.acceptRanges", laid_unicode_utf8_acceptRanges), ("firetower/beam.codes", laid_firetower_beam_codes), ("firetower/beam.parts", laid_firetower_beam_parts), ("unicode/utf8.first", laid_unicode_utf8_first)] }
def BeamMixesSaid : Prop := beamMixesRow.holds Tryd.pinned (OpenSpec.ofChange beamMixesSpec)

/-- ITS FALSE NEIGHBOUR: 'it returns false'. Refute it at one input. -/
def beamMixesWrong : ChangeSpec := { name := "beamMixes", fn := fun _ => fun
  | [d1, d2, d3] => { results := [.lit (.bool false)], args := [d1, d2, d3] }
  | _ => none }
def BeamMixesWrongFalsely : Prop := beamMixesRow.holds Tryd.pinned (OpenSpec.ofChange beamMixesWrong)

/-- 'firetowerlaw01.BeamSplits': WHATEVER THE INPUT: true; the input reads as it did. -/
def beamSplitsSpec : ChangeSpec := { name := "beamSplits", fn := fun _ => fun
  | [d1, d2, d3] => { results := [.lit (.bool true)], args := [d1, d2, d3] }
  | _ => none }
def beamSplitsRow : OpenClaim := { program := "ytgcaldceiogkaaadoor", sum := "37724ca56e3b1bd4803f7b9f75b3a0e17f0d3100bcc5306fe1d308571e673177", func := "firetower/firetowerlaw01.BeamSplits", spec := "beamSplits", inPlace := ["internal/bytealg.IndexByteString", "internal/bytealg.IndexString"], unfollowed := true, recurses := true, named := ["firetower/beam.codes", "unicode/utf8.first", "unicode/utf8.acceptRanges", "internal/bytealg.MaxLen", "firetower/beam.parts"], apart := false, laid := [("unicode/utf8.acceptRanges", laid_unicode_utf8_acceptRanges), ("firetower/beam.codes", laid_firetower_beam_codes), ("firetower/beam.parts", laid_firetower_beam_parts), ("unicode/utf8.first", laid_unicode_utf8_first)] }
def BeamSplitsSaid : Prop := beamSplitsRow.holds Tryd.pinned (OpenSpec.ofChange beamSplitsSpec)

/-- ITS FALSE NEIGHBOUR: 'it returns false'. Refute it at one input. -/
def beamSplitsWrong : ChangeSpec := { name := "beamSplits", fn := fun _ => fun
  | [d1, d2, d3] => { results := [.lit (.bool false)], args := [d1, d2, d3] }
  | _ => none }
def BeamSplitsWrongFalsely : Prop := beamSplitsRow.holds Tryd.pinned (OpenSpec.ofChange beamSplitsWrong)

/- THE SECOND FORM. 'bulk': how many values and letters a reading holds, each counted each time it is reached (what is shared counts as often as it is met; a slice's spare places count too). A statement '..UptoSaid' is the law's where the arguments, and the package variables that the reading takes, are together of bulk at most 1048576: NARROWER than '..Said'. Prove '..Said' where nothing that the law and all that it calls make is longer than what came in: it says more and counts as full. Else prove '..UptoSaid'. A law counts once. -/
mutual
def uptoBulk {H : Type} : DataW H → Nat
  | .lit (.string bytes) => bytes.length + 1
  | .lit _ => 1
  | .nil => 1
  | .ptr d => uptoBulk d + 1
  | .slice elems spare => uptoBulkAll elems + uptoBulkAll spare + 1
  | .agg parts => uptoBulkAll parts + 1
  | .iface _ d => uptoBulk d + 1
  | .map entries => uptoBulkEntries entries + 1
  | .held _ => 1
def uptoBulkAll {H : Type} : List (DataW H) → Nat
  | [] => 0
  | d :: r => uptoBulk d + uptoBulkAll r
def uptoBulkEntries {H : Type} : List (Lit × DataW H) → Nat
  | [] => 0
  | x :: r => uptoBulkEntry x + uptoBulkEntries r
def uptoBulkEntry {H : Type} : Lit × DataW H → Nat
  | (.string bytes, d) => bytes.length + uptoBulk d + 1
  | (_, d) => uptoBulk d + 1
 end
def uptoSmall : (H : Type) → List (DataW H) → Bool := fun _ ds => decide (uptoBulkAll ds ≤ 1048576)
def OpenSpec.upto (s : _root_.Go.ChangeSpec) : _root_.Go.OpenSpec := { _root_.Go.OpenSpec.ofChange s with cond := some uptoSmall }

/-- 'firetowerlaw01.BeamFaults', WHERE WHAT IT READS IS OF BULK AT MOST 1048576: true; the input reads as it did. -/
def beamFaultsUptoRow : OpenClaim := { program := "ytgcaldceiogkaaadoor", sum := "37724ca56e3b1bd4803f7b9f75b3a0e17f0d3100bcc5306fe1d308571e673177", func := "firetower/firetowerlaw01.BeamFaults", spec := "beamFaults", inPlace := ["internal/bytealg.IndexByteString", "internal/bytealg.IndexString"], unfollowed := true, recurses := true, named := ["firetower/beam.codes", "unicode/utf8.first", "unicode/utf8.acceptRanges", "internal/bytealg.MaxLen", "firetower/beam.parts"], apart := false, laid := [("unicode/utf8.acceptRanges", laid_unicode_utf8_acceptRanges), ("firetower/beam.codes", laid_firetower_beam_codes), ("firetower/beam.parts", laid_firetower_beam_parts), ("unicode/utf8.first", laid_unicode_utf8_first)], narrowed := true }
def BeamFaultsUptoSaid : Prop := beamFaultsUptoRow.holds Tryd.pinned (OpenSpec.upto beamFaultsSpec)

/-- 'firetowerlaw01.BeamFewest', WHERE WHAT IT READS IS OF BULK AT MOST 1048576: true; the input reads as it did. -/
def beamFewestUptoRow : OpenClaim := { program := "ytgcaldceiogkaaadoor", sum := "37724ca56e3b1bd4803f7b9f75b3a0e17f0d3100bcc5306fe1d308571e673177", func := "firetower/firetowerlaw01.BeamFewest", spec := "beamFewest", inPlace := ["internal/bytealg.IndexByteString", "internal/bytealg.IndexString"], unfollowed := true, recurses := true, named := ["firetower/beam.codes", "unicode/utf8.first", "unicode/utf8.acceptRanges", "internal/bytealg.MaxLen", "firetower/beam.parts"], apart := false, laid := [("unicode/utf8.acceptRanges", laid_unicode_utf8_acceptRanges), ("firetower/beam.codes", laid_firetower_beam_codes), ("firetower/beam.parts", laid_firetower_beam_parts), ("unicode/utf8.first", laid_unicode_utf8_first)], narrowed := true }
def BeamFewestUptoSaid : Prop := beamFewestUptoRow.holds Tryd.pinned (OpenSpec.upto beamFewestSpec)

/-- 'firetowerlaw01.BeamResults', WHERE WHAT IT READS IS OF BULK AT MOST 1048576: true; the input reads as it did. -/
def beamResultsUptoRow : OpenClaim := { program := "ytgcaldceiogkaaadoor", sum := "37724ca56e3b1bd4803f7b9f75b3a0e17f0d3100bcc5306fe1d308571e673177", func := "firetower/firetowerlaw01.BeamResults", spec := "beamResults", inPlace := ["internal/bytealg.IndexByteString", "internal/bytealg.IndexString"], unfollowed := true, recurses := true, named := ["firetower/beam.codes", "unicode/utf8.first", "unicode/utf8.acceptRanges", "internal/bytealg.MaxLen", "firetower/beam.parts"], apart := false, laid := [("unicode/utf8.acceptRanges", laid_unicode_utf8_acceptRanges), ("firetower/beam.codes", laid_firetower_beam_codes), ("firetower/beam.parts", laid_firetower_beam_parts), ("unicode/utf8.first", laid_unicode_utf8_first)], narrowed := true }
def BeamResultsUptoSaid : Prop := beamResultsUptoRow.holds Tryd.pinned (OpenSpec.upto beamResultsSpec)

/-- 'firetowerlaw01.BeamStreams', WHERE WHAT IT READS IS OF BULK AT MOST 1048576: true; the input reads as it did. -/
def beamStreamsUptoRow : OpenClaim := { program := "ytgcaldceiogkaaadoor", sum := "37724ca56e3b1bd4803f7b9f75b3a0e17f0d3100bcc5306fe1d308571e673177", func := "firetower/firetowerlaw01.BeamStreams", spec := "beamStreams", inPlace := ["internal/bytealg.IndexByteString", "internal/bytealg.IndexString"], unfollowed := true, recurses := true, named := ["firetower/beam.codes", "unicode/utf8.first", "unicode/utf8.acceptRanges", "internal/bytealg.MaxLen", "firetower/beam.parts"], apart := false, laid := [("unicode/utf8.acceptRanges", laid_unicode_utf8_acceptRanges), ("firetower/beam.codes", laid_firetower_beam_codes), ("firetower/beam.parts", laid_firetower_beam_parts), ("unicode/utf8.first", laid_unicode_utf8_first)], narrowed := true }
def BeamStreamsUptoSaid : Prop := beamStreamsUptoRow.holds Tryd.pinned (OpenSpec.upto beamStreamsSpec)

/-- 'firetowerlaw01.BeamExplained', WHERE WHAT IT READS IS OF BULK AT MOST 1048576: true; the input reads as it did. -/
def beamExplainedUptoRow : OpenClaim := { program := "ytgcaldceiogkaaadoor", sum := "37724ca56e3b1bd4803f7b9f75b3a0e17f0d3100bcc5306fe1d308571e673177", func := "firetower/firetowerlaw01.BeamExplained", spec := "beamExplained", inPlace := ["internal/bytealg.IndexByteString", "internal/bytealg.IndexString"], unfollowed := true, recurses := true, named := ["firetower/beam.codes", "unicode/utf8.first", "unicode/utf8.acceptRanges", "internal/bytealg.MaxLen", "firetower/beam.parts"], apart := false, laid := [("unicode/utf8.acceptRanges", laid_unicode_utf8_acceptRanges), ("firetower/beam.codes", laid_firetower_beam_codes), ("firetower/beam.parts", laid_firetower_beam_parts), ("unicode/utf8.first", laid_unicode_utf8_first)], narrowed := true }
def BeamExplainedUptoSaid : Prop := beamExplainedUptoRow.holds Tryd.pinned (OpenSpec.upto beamExplainedSpec)

/-- 'firetowerlaw01.BeamMixes', WHERE WHAT IT READS IS OF BULK AT MOST 1048576: true; the input reads as it did. -/
def beamMixesUptoRow : OpenClaim := { program := "ytgcaldceiogkaaadoor", sum := "37724ca56e3b1bd4803f7b9f75b3a0e17f0d3100bcc5306fe1d308571e673177", func := "firetower/firetowerlaw01.BeamMixes", spec := "beamMixes", inPlace := ["internal/bytealg.IndexByteString", "internal/bytealg.IndexString"], unfollowed := true, recurses := true, named := ["firetower/beam.codes", "unicode/utf8.first", "unicode/utf8.acceptRanges", "internal/bytealg.MaxLen", "firetower/beam.parts"], apart := false, laid := [("unicode/utf8.acceptRanges", laid_unicode_utf8_acceptRanges), ("firetower/beam.codes", laid_firetower_beam_codes), ("firetower/beam.parts", laid_firetower_beam_parts), ("unicode/utf8.first", laid_unicode_utf8_first)], narrowed := true }
def BeamMixesUptoSaid : Prop := beamMixesUptoRow.holds Tryd.pinned (OpenSpec.upto beamMixesSpec)

/-- 'firetowerlaw01.BeamSplits', WHERE WHAT IT READS IS OF BULK AT MOST 1048576: true; the input reads as it did. -/
def beamSplitsUptoRow : OpenClaim := { program := "ytgcaldceiogkaaadoor", sum := "37724ca56e3b1bd4803f7b9f75b3a0e17f0d3100bcc5306fe1d308571e673177", func := "firetower/firetowerlaw01.BeamSplits", spec := "beamSplits", inPlace := ["internal/bytealg.IndexByteString", "internal/bytealg.IndexString"], unfollowed := true, recurses := true, named := ["firetower/beam.codes", "unicode/utf8.first", "unicode/utf8.acceptRanges", "internal/bytealg.MaxLen", "firetower/beam.parts"], apart := false, laid := [("unicode/utf8.acceptRanges", laid_unicode_utf8_acceptRanges), ("firetower/beam.codes", laid_firetower_beam_codes), ("firetower/beam.parts", laid_firetower_beam_parts), ("unicode/utf8.first", laid_unicode_utf8_first)], narrowed := true }
def BeamSplitsUptoSaid : Prop := beamSplitsUptoRow.holds Tryd.pinned (OpenSpec.upto beamSplitsSpec)

end Rows
end Go.Proofs.YtgcaldceiogkaaaDoor
