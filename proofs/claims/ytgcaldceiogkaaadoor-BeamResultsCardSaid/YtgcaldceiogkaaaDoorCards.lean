/-
  DERIVED. GIVEN WITH THE SEED: THE CARDS: each row of YtgcaldceiogkaaaDoorRows.lean that lists a variable, with what it lists TIED to the program's text (the seventh form; the later family's looks); each row that meets fmt, with fmt's text TOLD by the authors' own Lean function (tested against real Go, not proved from fmt's source: count such statements apart). THE CARD IS WHAT COUNTS. Prove the row's statement (the work); the ties are given (YtgcaldceiogkaaaDoorTie.lean); close each card by the builder's one call (the guide's Derived/Test/ToyasCard.lean, 'card_holds'). Laid BY PROGRAM, IN A SANDBOX (cutbox-door.mjs). By AI agents, Wed Nov 11 2026. No macro, syntax, notation, axiom, sorry.
-/
import Derived.Test.YtgcaldceiogkaaaDoorRows
import GoSem.ClaimSeven
namespace Go.Proofs.YtgcaldceiogkaaaDoor
namespace Rows

/-- THE TIED CARD OF 'firetowerlaw01.BeamFaults'. -/
def beamFaultsCard : Claim7 := { stood := { row := beamFaultsRow, standIns := [], harness := (true, "511628d6b5a428d9554058004400efc49f19377e7c1a63ff3bf62c522310bd74"), looks := false }, kinds := [], alts := [], laidByText := true, laidKinds := [.data, .data, .data, .pinned], laidTests := true, laidLooks := .later }
def BeamFaultsCardSaid : Prop := Claim7.holds Tryd.pinned (.plain (OpenSpec.ofChange beamFaultsSpec)) beamFaultsCard

/-- THE TIED CARD OF 'firetowerlaw01.BeamFewest'. -/
def beamFewestCard : Claim7 := { stood := { row := beamFewestRow, standIns := [], harness := (true, "511628d6b5a428d9554058004400efc49f19377e7c1a63ff3bf62c522310bd74"), looks := false }, kinds := [], alts := [], laidByText := true, laidKinds := [.data, .data, .data, .pinned], laidTests := true, laidLooks := .later }
def BeamFewestCardSaid : Prop := Claim7.holds Tryd.pinned (.plain (OpenSpec.ofChange beamFewestSpec)) beamFewestCard

/-- THE TIED CARD OF 'firetowerlaw01.BeamResults'. -/
def beamResultsCard : Claim7 := { stood := { row := beamResultsRow, standIns := [], harness := (true, "511628d6b5a428d9554058004400efc49f19377e7c1a63ff3bf62c522310bd74"), looks := false }, kinds := [], alts := [], laidByText := true, laidKinds := [.data, .data, .data, .pinned], laidTests := true, laidLooks := .later }
def BeamResultsCardSaid : Prop := Claim7.holds Tryd.pinned (.plain (OpenSpec.ofChange beamResultsSpec)) beamResultsCard

/-- THE TIED CARD OF 'firetowerlaw01.BeamStreams'. -/
def beamStreamsCard : Claim7 := { stood := { row := beamStreamsRow, standIns := [], harness := (true, "511628d6b5a428d9554058004400efc49f19377e7c1a63ff3bf62c522310bd74"), looks := false }, kinds := [], alts := [], laidByText := true, laidKinds := [.data, .data, .data, .pinned], laidTests := true, laidLooks := .later }
def BeamStreamsCardSaid : Prop := Claim7.holds Tryd.pinned (.plain (OpenSpec.ofChange beamStreamsSpec)) beamStreamsCard

/-- THE TIED CARD OF 'firetowerlaw01.BeamExplained'. -/
def beamExplainedCard : Claim7 := { stood := { row := beamExplainedRow, standIns := [], harness := (true, "511628d6b5a428d9554058004400efc49f19377e7c1a63ff3bf62c522310bd74"), looks := false }, kinds := [], alts := [], laidByText := true, laidKinds := [.data, .data, .data, .pinned], laidTests := true, laidLooks := .later }
def BeamExplainedCardSaid : Prop := Claim7.holds Tryd.pinned (.plain (OpenSpec.ofChange beamExplainedSpec)) beamExplainedCard

/-- THE TIED CARD OF 'firetowerlaw01.BeamMixes'. -/
def beamMixesCard : Claim7 := { stood := { row := beamMixesRow, standIns := [], harness := (true, "511628d6b5a428d9554058004400efc49f19377e7c1a63ff3bf62c522310bd74"), looks := false }, kinds := [], alts := [], laidByText := true, laidKinds := [.data, .data, .data, .pinned], laidTests := true, laidLooks := .later }
def BeamMixesCardSaid : Prop := Claim7.holds Tryd.pinned (.plain (OpenSpec.ofChange beamMixesSpec)) beamMixesCard

/-- THE TIED CARD OF 'firetowerlaw01.BeamSplits'. -/
def beamSplitsCard : Claim7 := { stood := { row := beamSplitsRow, standIns := [], harness := (true, "511628d6b5a428d9554058004400efc49f19377e7c1a63ff3bf62c522310bd74"), looks := false }, kinds := [], alts := [], laidByText := true, laidKinds := [.data, .data, .data, .pinned], laidTests := true, laidLooks := .later }
def BeamSplitsCardSaid : Prop := Claim7.holds Tryd.pinned (.plain (OpenSpec.ofChange beamSplitsSpec)) beamSplitsCard

/-- THE SECOND FORM's CARD OF 'firetowerlaw01.BeamFaults'. -/
def beamFaultsUptoCard : Claim7 := { stood := { row := beamFaultsUptoRow, standIns := [], harness := (true, "511628d6b5a428d9554058004400efc49f19377e7c1a63ff3bf62c522310bd74"), looks := false }, kinds := [], alts := [], laidByText := true, laidKinds := [.data, .data, .data, .pinned], laidTests := true, laidLooks := .later }
def BeamFaultsUptoCardSaid : Prop := Claim7.holds Tryd.pinned (.plain (OpenSpec.upto beamFaultsSpec)) beamFaultsUptoCard

/-- THE SECOND FORM's CARD OF 'firetowerlaw01.BeamFewest'. -/
def beamFewestUptoCard : Claim7 := { stood := { row := beamFewestUptoRow, standIns := [], harness := (true, "511628d6b5a428d9554058004400efc49f19377e7c1a63ff3bf62c522310bd74"), looks := false }, kinds := [], alts := [], laidByText := true, laidKinds := [.data, .data, .data, .pinned], laidTests := true, laidLooks := .later }
def BeamFewestUptoCardSaid : Prop := Claim7.holds Tryd.pinned (.plain (OpenSpec.upto beamFewestSpec)) beamFewestUptoCard

/-- THE SECOND FORM's CARD OF 'firetowerlaw01.BeamResults'. -/
def beamResultsUptoCard : Claim7 := { stood := { row := beamResultsUptoRow, standIns := [], harness := (true, "511628d6b5a428d9554058004400efc49f19377e7c1a63ff3bf62c522310bd74"), looks := false }, kinds := [], alts := [], laidByText := true, laidKinds := [.data, .data, .data, .pinned], laidTests := true, laidLooks := .later }
def BeamResultsUptoCardSaid : Prop := Claim7.holds Tryd.pinned (.plain (OpenSpec.upto beamResultsSpec)) beamResultsUptoCard

/-- THE SECOND FORM's CARD OF 'firetowerlaw01.BeamStreams'. -/
def beamStreamsUptoCard : Claim7 := { stood := { row := beamStreamsUptoRow, standIns := [], harness := (true, "511628d6b5a428d9554058004400efc49f19377e7c1a63ff3bf62c522310bd74"), looks := false }, kinds := [], alts := [], laidByText := true, laidKinds := [.data, .data, .data, .pinned], laidTests := true, laidLooks := .later }
def BeamStreamsUptoCardSaid : Prop := Claim7.holds Tryd.pinned (.plain (OpenSpec.upto beamStreamsSpec)) beamStreamsUptoCard

/-- THE SECOND FORM's CARD OF 'firetowerlaw01.BeamExplained'. -/
def beamExplainedUptoCard : Claim7 := { stood := { row := beamExplainedUptoRow, standIns := [], harness := (true, "511628d6b5a428d9554058004400efc49f19377e7c1a63ff3bf62c522310bd74"), looks := false }, kinds := [], alts := [], laidByText := true, laidKinds := [.data, .data, .data, .pinned], laidTests := true, laidLooks := .later }
def BeamExplainedUptoCardSaid : Prop := Claim7.holds Tryd.pinned (.plain (OpenSpec.upto beamExplainedSpec)) beamExplainedUptoCard

/-- THE SECOND FORM's CARD OF 'firetowerlaw01.BeamMixes'. -/
def beamMixesUptoCard : Claim7 := { stood := { row := beamMixesUptoRow, standIns := [], harness := (true, "511628d6b5a428d9554058004400efc49f19377e7c1a63ff3bf62c522310bd74"), looks := false }, kinds := [], alts := [], laidByText := true, laidKinds := [.data, .data, .data, .pinned], laidTests := true, laidLooks := .later }
def BeamMixesUptoCardSaid : Prop := Claim7.holds Tryd.pinned (.plain (OpenSpec.upto beamMixesSpec)) beamMixesUptoCard

/-- THE SECOND FORM's CARD OF 'firetowerlaw01.BeamSplits'. -/
def beamSplitsUptoCard : Claim7 := { stood := { row := beamSplitsUptoRow, standIns := [], harness := (true, "511628d6b5a428d9554058004400efc49f19377e7c1a63ff3bf62c522310bd74"), looks := false }, kinds := [], alts := [], laidByText := true, laidKinds := [.data, .data, .data, .pinned], laidTests := true, laidLooks := .later }
def BeamSplitsUptoCardSaid : Prop := Claim7.holds Tryd.pinned (.plain (OpenSpec.upto beamSplitsSpec)) beamSplitsUptoCard
end Rows
end Go.Proofs.YtgcaldceiogkaaaDoor
