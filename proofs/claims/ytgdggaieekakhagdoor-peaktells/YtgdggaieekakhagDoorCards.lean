/-
  DERIVED. GIVEN WITH THE SEED: THE CARDS: each row of YtgdggaieekakhagDoorRows.lean that lists a variable, with what it lists TIED to the program's text (the seventh form; the later family's looks); each row that meets fmt, with fmt's text TOLD by the authors' own Lean function (tested against real Go, not proved from fmt's source: count such statements apart). THE CARD IS WHAT COUNTS. Prove the row's statement (the work); the ties are given (YtgdggaieekakhagDoorTie.lean); close each card by the builder's one call (the guide's Derived/Test/ToyasCard.lean, 'card_holds'). Laid BY PROGRAM, IN A SANDBOX (cutbox-door.mjs). By AI agents, Wed Nov 11 2026. No macro, syntax, notation, axiom, sorry.
-/
import Derived.Test.YtgdggaieekakhagDoorRows
import GoSem.ClaimSeven
namespace Go.Proofs.YtgdggaieekakhagDoor
namespace Rows

/-- THE TIED CARD OF 'galleylaw2.ClockTimes'. -/
def clockTimesCard : Claim7 := { stood := { row := clockTimesRow, standIns := [], harness := (true, "e4e67e7af8c019a8c6492dd6406cfc6e85b0350cc671146e5d9e1287ba850836"), looks := true }, kinds := [], alts := [], laidByText := true, laidKinds := [.handle], laidTests := true, laidLooks := .later }
def ClockTimesCardSaid : Prop := Claim7.holds Tryd.pinned (.plain (OpenSpec.ofChange clockTimesSpec)) clockTimesCard

/-- THE TIED CARD OF 'galleylaw2.PeakTells'. -/
def peakTellsCard : Claim7 := { stood := { row := peakTellsRow, standIns := [], harness := (true, "e4e67e7af8c019a8c6492dd6406cfc6e85b0350cc671146e5d9e1287ba850836"), looks := true }, kinds := [], alts := [], laidByText := true, laidKinds := [.handle], laidTests := true, laidLooks := .later }
def PeakTellsCardSaid : Prop := Claim7.holds Tryd.pinned (.plain (OpenSpec.ofChange peakTellsSpec)) peakTellsCard

/-- THE SECOND FORM's CARD OF 'galleylaw2.ClockTimes'. -/
def clockTimesUptoCard : Claim7 := { stood := { row := clockTimesUptoRow, standIns := [], harness := (true, "e4e67e7af8c019a8c6492dd6406cfc6e85b0350cc671146e5d9e1287ba850836"), looks := true }, kinds := [], alts := [], laidByText := true, laidKinds := [.handle], laidTests := true, laidLooks := .later }
def ClockTimesUptoCardSaid : Prop := Claim7.holds Tryd.pinned (.plain (OpenSpec.upto clockTimesSpec)) clockTimesUptoCard

/-- THE SECOND FORM's CARD OF 'galleylaw2.PeakTells'. -/
def peakTellsUptoCard : Claim7 := { stood := { row := peakTellsUptoRow, standIns := [], harness := (true, "e4e67e7af8c019a8c6492dd6406cfc6e85b0350cc671146e5d9e1287ba850836"), looks := true }, kinds := [], alts := [], laidByText := true, laidKinds := [.handle], laidTests := true, laidLooks := .later }
def PeakTellsUptoCardSaid : Prop := Claim7.holds Tryd.pinned (.plain (OpenSpec.upto peakTellsSpec)) peakTellsUptoCard
end Rows
end Go.Proofs.YtgdggaieekakhagDoor
