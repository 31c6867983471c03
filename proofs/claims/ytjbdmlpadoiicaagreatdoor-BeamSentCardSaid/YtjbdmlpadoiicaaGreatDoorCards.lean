/-
  DERIVED. GIVEN WITH THE SEED: THE CARDS: each row of YtjbdmlpadoiicaaGreatDoorRows.lean that lists a variable, with what it lists TIED to the program's text (the seventh form; the later family's looks); each row that meets fmt, with fmt's text TOLD by the authors' own Lean function (tested against real Go, not proved from fmt's source: count such statements apart). THE CARD IS WHAT COUNTS. Prove the row's statement (the work); the ties are given (YtjbdmlpadoiicaaGreatDoorTie.lean); close each card by the builder's one call (the guide's Derived/Test/ToyasCard.lean, 'card_holds'). Laid BY PROGRAM, IN A SANDBOX (cutbox-door.mjs). By AI agents, Wed Nov 11 2026. No macro, syntax, notation, axiom, sorry.
-/
import Derived.Test.YtjbdmlpadoiicaaGreatDoorRows
import GoSem.ClaimSeven
namespace Go.Proofs.YtjbdmlpadoiicaaGreatDoor
namespace Rows

/-- THE TIED CARD OF 'firetowerlaw01.BeamReadings'. -/
def beamReadingsCard : Claim7 := { stood := { row := beamReadingsRow, standIns := [], harness := (true, "11000fe1b44ad0cd71d28985ab91cb2a01a2ee6322a9752c6cd4d010f4bd48a5"), looks := false }, kinds := [], alts := [], laidByText := true, laidKinds := [.data, .data, .data, .pinned], laidTests := true, laidLooks := .later }
def BeamReadingsCardSaid : Prop := Claim7.holds Tryz.pinned (.plain (OpenSpec.ofChange beamReadingsSpec)) beamReadingsCard

/-- THE TIED CARD OF 'firetowerlaw01.BeamConfusions'. -/
def beamConfusionsCard : Claim7 := { stood := { row := beamConfusionsRow, standIns := [], harness := (true, "11000fe1b44ad0cd71d28985ab91cb2a01a2ee6322a9752c6cd4d010f4bd48a5"), looks := false }, kinds := [], alts := [], laidByText := true, laidKinds := [.data, .data, .data, .pinned], laidTests := true, laidLooks := .later }
def BeamConfusionsCardSaid : Prop := Claim7.holds Tryz.pinned (.plain (OpenSpec.ofChange beamConfusionsSpec)) beamConfusionsCard

/-- THE TIED CARD OF 'firetowerlaw01.BeamBooks'. -/
def beamBooksCard : Claim7 := { stood := { row := beamBooksRow, standIns := [], harness := (true, "11000fe1b44ad0cd71d28985ab91cb2a01a2ee6322a9752c6cd4d010f4bd48a5"), looks := false }, kinds := [], alts := [], laidByText := true, laidKinds := [.data, .data, .data, .data, .data, .pinned], laidTests := true, laidLooks := .later }
def BeamBooksCardSaid : Prop := Claim7.holds Tryz.pinned (.plain (OpenSpec.ofChange beamBooksSpec)) beamBooksCard

/-- THE TIED CARD OF 'firetowerlaw01.BeamSent'. -/
def beamSentCard : Claim7 := { stood := { row := beamSentRow, standIns := [], harness := (true, "11000fe1b44ad0cd71d28985ab91cb2a01a2ee6322a9752c6cd4d010f4bd48a5"), looks := false }, kinds := [], alts := [], laidByText := true, laidKinds := [.data, .data, .data, .data, .data, .pinned], laidTests := true, laidLooks := .later }
def BeamSentCardSaid : Prop := Claim7.holds Tryz.pinned (.plain (OpenSpec.ofChange beamSentSpec)) beamSentCard

/-- THE SECOND FORM's CARD OF 'firetowerlaw01.BeamReadings'. -/
def beamReadingsUptoCard : Claim7 := { stood := { row := beamReadingsUptoRow, standIns := [], harness := (true, "11000fe1b44ad0cd71d28985ab91cb2a01a2ee6322a9752c6cd4d010f4bd48a5"), looks := false }, kinds := [], alts := [], laidByText := true, laidKinds := [.data, .data, .data, .pinned], laidTests := true, laidLooks := .later }
def BeamReadingsUptoCardSaid : Prop := Claim7.holds Tryz.pinned (.plain (OpenSpec.upto beamReadingsSpec)) beamReadingsUptoCard

/-- THE SECOND FORM's CARD OF 'firetowerlaw01.BeamConfusions'. -/
def beamConfusionsUptoCard : Claim7 := { stood := { row := beamConfusionsUptoRow, standIns := [], harness := (true, "11000fe1b44ad0cd71d28985ab91cb2a01a2ee6322a9752c6cd4d010f4bd48a5"), looks := false }, kinds := [], alts := [], laidByText := true, laidKinds := [.data, .data, .data, .pinned], laidTests := true, laidLooks := .later }
def BeamConfusionsUptoCardSaid : Prop := Claim7.holds Tryz.pinned (.plain (OpenSpec.upto beamConfusionsSpec)) beamConfusionsUptoCard

/-- THE SECOND FORM's CARD OF 'firetowerlaw01.BeamBooks'. -/
def beamBooksUptoCard : Claim7 := { stood := { row := beamBooksUptoRow, standIns := [], harness := (true, "11000fe1b44ad0cd71d28985ab91cb2a01a2ee6322a9752c6cd4d010f4bd48a5"), looks := false }, kinds := [], alts := [], laidByText := true, laidKinds := [.data, .data, .data, .data, .data, .pinned], laidTests := true, laidLooks := .later }
def BeamBooksUptoCardSaid : Prop := Claim7.holds Tryz.pinned (.plain (OpenSpec.upto beamBooksSpec)) beamBooksUptoCard

/-- THE SECOND FORM's CARD OF 'firetowerlaw01.BeamSent'. -/
def beamSentUptoCard : Claim7 := { stood := { row := beamSentUptoRow, standIns := [], harness := (true, "11000fe1b44ad0cd71d28985ab91cb2a01a2ee6322a9752c6cd4d010f4bd48a5"), looks := false }, kinds := [], alts := [], laidByText := true, laidKinds := [.data, .data, .data, .data, .data, .pinned], laidTests := true, laidLooks := .later }
def BeamSentUptoCardSaid : Prop := Claim7.holds Tryz.pinned (.plain (OpenSpec.upto beamSentSpec)) beamSentUptoCard
end Rows
end Go.Proofs.YtjbdmlpadoiicaaGreatDoor
