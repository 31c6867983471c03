/-
  DERIVED. GIVEN WITH THE SEED: THE CARDS: each row of YtglhlfabfcneeaaDoorRows.lean that lists a variable, with what it lists TIED to the program's text (the seventh form; the later family's looks); each row that meets fmt, with fmt's text TOLD by the authors' own Lean function (tested against real Go, not proved from fmt's source: count such statements apart). THE CARD IS WHAT COUNTS. Prove the row's statement (the work); the ties are given (YtglhlfabfcneeaaDoorTie.lean); close each card by the builder's one call (the guide's Derived/Test/ToyasCard.lean, 'card_holds'). Laid BY PROGRAM, IN A SANDBOX (cutbox-door.mjs). By AI agents, Wed Nov 11 2026. No macro, syntax, notation, axiom, sorry.
-/
import Derived.Test.YtglhlfabfcneeaaDoorRows
import GoSem.ClaimSeven
namespace Go.Proofs.YtglhlfabfcneeaaDoor
namespace Rows

/-- THE TIED CARD OF 'firetowerlaw01.BeamLetters'. -/
def beamLettersCard : Claim7 := { stood := { row := beamLettersRow, standIns := [], harness := (true, "3e70b29f9e363be71b2fa3744e0ea8125589cd4c515e737d76760c7e5ae70424"), looks := false }, kinds := [], alts := [], laidByText := true, laidKinds := [.data, .data, .data, .pinned], laidTests := true, laidLooks := .later }
def BeamLettersCardSaid : Prop := Claim7.holds Tryd.pinned (.plain (OpenSpec.ofChange beamLettersSpec)) beamLettersCard

/-- THE TIED CARD OF 'firetowerlaw01.BeamSignals'. -/
def beamSignalsCard : Claim7 := { stood := { row := beamSignalsRow, standIns := [], harness := (true, "3e70b29f9e363be71b2fa3744e0ea8125589cd4c515e737d76760c7e5ae70424"), looks := false }, kinds := [], alts := [], laidByText := true, laidKinds := [.data, .data, .data, .pinned], laidTests := true, laidLooks := .later }
def BeamSignalsCardSaid : Prop := Claim7.holds Tryd.pinned (.plain (OpenSpec.ofChange beamSignalsSpec)) beamSignalsCard

/-- THE TIED CARD OF 'firetowerlaw01.BeamFaults'. -/
def beamFaultsCard : Claim7 := { stood := { row := beamFaultsRow, standIns := [], harness := (true, "3e70b29f9e363be71b2fa3744e0ea8125589cd4c515e737d76760c7e5ae70424"), looks := false }, kinds := [], alts := [], laidByText := true, laidKinds := [.data, .data, .data, .pinned], laidTests := true, laidLooks := .later }
def BeamFaultsCardSaid : Prop := Claim7.holds Tryd.pinned (.plain (OpenSpec.ofChange beamFaultsSpec)) beamFaultsCard

/-- THE TIED CARD OF 'firetowerlaw01.BeamFewest'. -/
def beamFewestCard : Claim7 := { stood := { row := beamFewestRow, standIns := [], harness := (true, "3e70b29f9e363be71b2fa3744e0ea8125589cd4c515e737d76760c7e5ae70424"), looks := false }, kinds := [], alts := [], laidByText := true, laidKinds := [.data, .data, .data, .pinned], laidTests := true, laidLooks := .later }
def BeamFewestCardSaid : Prop := Claim7.holds Tryd.pinned (.plain (OpenSpec.ofChange beamFewestSpec)) beamFewestCard

/-- THE TIED CARD OF 'firetowerlaw01.BeamResults'. -/
def beamResultsCard : Claim7 := { stood := { row := beamResultsRow, standIns := [], harness := (true, "3e70b29f9e363be71b2fa3744e0ea8125589cd4c515e737d76760c7e5ae70424"), looks := false }, kinds := [], alts := [], laidByText := true, laidKinds := [.data, .data, .data, .pinned], laidTests := true, laidLooks := .later }
def BeamResultsCardSaid : Prop := Claim7.holds Tryd.pinned (.plain (OpenSpec.ofChange beamResultsSpec)) beamResultsCard

/-- THE TIED CARD OF 'firetowerlaw01.BeamStreams'. -/
def beamStreamsCard : Claim7 := { stood := { row := beamStreamsRow, standIns := [], harness := (true, "3e70b29f9e363be71b2fa3744e0ea8125589cd4c515e737d76760c7e5ae70424"), looks := false }, kinds := [], alts := [], laidByText := true, laidKinds := [.data, .data, .data, .pinned], laidTests := true, laidLooks := .later }
def BeamStreamsCardSaid : Prop := Claim7.holds Tryd.pinned (.plain (OpenSpec.ofChange beamStreamsSpec)) beamStreamsCard

/-- THE TIED CARD OF 'firetowerlaw01.BeamTelegrams'. -/
def beamTelegramsCard : Claim7 := { stood := { row := beamTelegramsRow, standIns := [], harness := (true, "3e70b29f9e363be71b2fa3744e0ea8125589cd4c515e737d76760c7e5ae70424"), looks := false }, kinds := [], alts := [], laidByText := true, laidKinds := [.data, .data, .data, .pinned], laidTests := true, laidLooks := .later }
def BeamTelegramsCardSaid : Prop := Claim7.holds Tryd.pinned (.plain (OpenSpec.ofChange beamTelegramsSpec)) beamTelegramsCard

/-- THE TIED CARD OF 'firetowerlaw01.BeamRound'. -/
def beamRoundCard : Claim7 := { stood := { row := beamRoundRow, standIns := [], harness := (true, "3e70b29f9e363be71b2fa3744e0ea8125589cd4c515e737d76760c7e5ae70424"), looks := false }, kinds := [], alts := [], laidByText := true, laidKinds := [.data, .data, .data, .pinned], laidTests := true, laidLooks := .later }
def BeamRoundCardSaid : Prop := Claim7.holds Tryd.pinned (.plain (OpenSpec.ofChange beamRoundSpec)) beamRoundCard

/-- THE TIED CARD OF 'firetowerlaw01.BeamNoticed'. -/
def beamNoticedCard : Claim7 := { stood := { row := beamNoticedRow, standIns := [], harness := (true, "3e70b29f9e363be71b2fa3744e0ea8125589cd4c515e737d76760c7e5ae70424"), looks := false }, kinds := [], alts := [], laidByText := true, laidKinds := [.data, .data, .data, .pinned], laidTests := true, laidLooks := .later }
def BeamNoticedCardSaid : Prop := Claim7.holds Tryd.pinned (.plain (OpenSpec.ofChange beamNoticedSpec)) beamNoticedCard

/-- THE SECOND FORM's CARD OF 'firetowerlaw01.BeamLetters'. -/
def beamLettersUptoCard : Claim7 := { stood := { row := beamLettersUptoRow, standIns := [], harness := (true, "3e70b29f9e363be71b2fa3744e0ea8125589cd4c515e737d76760c7e5ae70424"), looks := false }, kinds := [], alts := [], laidByText := true, laidKinds := [.data, .data, .data, .pinned], laidTests := true, laidLooks := .later }
def BeamLettersUptoCardSaid : Prop := Claim7.holds Tryd.pinned (.plain (OpenSpec.upto beamLettersSpec)) beamLettersUptoCard

/-- THE SECOND FORM's CARD OF 'firetowerlaw01.BeamSignals'. -/
def beamSignalsUptoCard : Claim7 := { stood := { row := beamSignalsUptoRow, standIns := [], harness := (true, "3e70b29f9e363be71b2fa3744e0ea8125589cd4c515e737d76760c7e5ae70424"), looks := false }, kinds := [], alts := [], laidByText := true, laidKinds := [.data, .data, .data, .pinned], laidTests := true, laidLooks := .later }
def BeamSignalsUptoCardSaid : Prop := Claim7.holds Tryd.pinned (.plain (OpenSpec.upto beamSignalsSpec)) beamSignalsUptoCard

/-- THE SECOND FORM's CARD OF 'firetowerlaw01.BeamFaults'. -/
def beamFaultsUptoCard : Claim7 := { stood := { row := beamFaultsUptoRow, standIns := [], harness := (true, "3e70b29f9e363be71b2fa3744e0ea8125589cd4c515e737d76760c7e5ae70424"), looks := false }, kinds := [], alts := [], laidByText := true, laidKinds := [.data, .data, .data, .pinned], laidTests := true, laidLooks := .later }
def BeamFaultsUptoCardSaid : Prop := Claim7.holds Tryd.pinned (.plain (OpenSpec.upto beamFaultsSpec)) beamFaultsUptoCard

/-- THE SECOND FORM's CARD OF 'firetowerlaw01.BeamFewest'. -/
def beamFewestUptoCard : Claim7 := { stood := { row := beamFewestUptoRow, standIns := [], harness := (true, "3e70b29f9e363be71b2fa3744e0ea8125589cd4c515e737d76760c7e5ae70424"), looks := false }, kinds := [], alts := [], laidByText := true, laidKinds := [.data, .data, .data, .pinned], laidTests := true, laidLooks := .later }
def BeamFewestUptoCardSaid : Prop := Claim7.holds Tryd.pinned (.plain (OpenSpec.upto beamFewestSpec)) beamFewestUptoCard

/-- THE SECOND FORM's CARD OF 'firetowerlaw01.BeamResults'. -/
def beamResultsUptoCard : Claim7 := { stood := { row := beamResultsUptoRow, standIns := [], harness := (true, "3e70b29f9e363be71b2fa3744e0ea8125589cd4c515e737d76760c7e5ae70424"), looks := false }, kinds := [], alts := [], laidByText := true, laidKinds := [.data, .data, .data, .pinned], laidTests := true, laidLooks := .later }
def BeamResultsUptoCardSaid : Prop := Claim7.holds Tryd.pinned (.plain (OpenSpec.upto beamResultsSpec)) beamResultsUptoCard

/-- THE SECOND FORM's CARD OF 'firetowerlaw01.BeamStreams'. -/
def beamStreamsUptoCard : Claim7 := { stood := { row := beamStreamsUptoRow, standIns := [], harness := (true, "3e70b29f9e363be71b2fa3744e0ea8125589cd4c515e737d76760c7e5ae70424"), looks := false }, kinds := [], alts := [], laidByText := true, laidKinds := [.data, .data, .data, .pinned], laidTests := true, laidLooks := .later }
def BeamStreamsUptoCardSaid : Prop := Claim7.holds Tryd.pinned (.plain (OpenSpec.upto beamStreamsSpec)) beamStreamsUptoCard

/-- THE SECOND FORM's CARD OF 'firetowerlaw01.BeamTelegrams'. -/
def beamTelegramsUptoCard : Claim7 := { stood := { row := beamTelegramsUptoRow, standIns := [], harness := (true, "3e70b29f9e363be71b2fa3744e0ea8125589cd4c515e737d76760c7e5ae70424"), looks := false }, kinds := [], alts := [], laidByText := true, laidKinds := [.data, .data, .data, .pinned], laidTests := true, laidLooks := .later }
def BeamTelegramsUptoCardSaid : Prop := Claim7.holds Tryd.pinned (.plain (OpenSpec.upto beamTelegramsSpec)) beamTelegramsUptoCard

/-- THE SECOND FORM's CARD OF 'firetowerlaw01.BeamRound'. -/
def beamRoundUptoCard : Claim7 := { stood := { row := beamRoundUptoRow, standIns := [], harness := (true, "3e70b29f9e363be71b2fa3744e0ea8125589cd4c515e737d76760c7e5ae70424"), looks := false }, kinds := [], alts := [], laidByText := true, laidKinds := [.data, .data, .data, .pinned], laidTests := true, laidLooks := .later }
def BeamRoundUptoCardSaid : Prop := Claim7.holds Tryd.pinned (.plain (OpenSpec.upto beamRoundSpec)) beamRoundUptoCard

/-- THE SECOND FORM's CARD OF 'firetowerlaw01.BeamNoticed'. -/
def beamNoticedUptoCard : Claim7 := { stood := { row := beamNoticedUptoRow, standIns := [], harness := (true, "3e70b29f9e363be71b2fa3744e0ea8125589cd4c515e737d76760c7e5ae70424"), looks := false }, kinds := [], alts := [], laidByText := true, laidKinds := [.data, .data, .data, .pinned], laidTests := true, laidLooks := .later }
def BeamNoticedUptoCardSaid : Prop := Claim7.holds Tryd.pinned (.plain (OpenSpec.upto beamNoticedSpec)) beamNoticedUptoCard
end Rows
end Go.Proofs.YtglhlfabfcneeaaDoor
