/-
  DERIVED. GIVEN WITH THE SEED: THE CARDS: each row of YtpniemnfdleiiajGreatDoorRows.lean that lists a variable, with what it lists TIED to the program's text (the seventh form; the later family's looks); each row that meets fmt, with fmt's text TOLD by the authors' own Lean function (tested against real Go, not proved from fmt's source: count such statements apart). THE CARD IS WHAT COUNTS. Prove the row's statement (the work); the ties are given (YtpniemnfdleiiajGreatDoorTie.lean); close each card by the builder's one call (the guide's Derived/Test/ToyasCard.lean, 'card_holds'). Laid BY PROGRAM, IN A SANDBOX (cutbox-door.mjs). By AI agents, Wed Nov 11 2026. No macro, syntax, notation, axiom, sorry.
-/
import Derived.Test.YtpniemnfdleiiajGreatDoorRows
import GoSem.ClaimSeven
namespace Go.Proofs.YtpniemnfdleiiajGreatDoor
namespace Rows

/-- THE TIED CARD OF 'galleylaw3.AgainBacks'. -/
def againBacksCard : Claim7 := { stood := { row := againBacksRow, standIns := [], harness := (true, "f2e272e1a57bbbab10152b772a2f786f01651bb79cb4137959334a2b5c78644a"), looks := true }, kinds := [], alts := [], laidByText := true, laidKinds := [.handle], laidTests := true, laidLooks := .later }
def AgainBacksCardSaid : Prop := Claim7.holds Tryz.pinned (.plain (OpenSpec.ofChange againBacksSpec)) againBacksCard

/-- THE SECOND FORM's CARD OF 'galleylaw3.AgainBacks'. -/
def againBacksUptoCard : Claim7 := { stood := { row := againBacksUptoRow, standIns := [], harness := (true, "f2e272e1a57bbbab10152b772a2f786f01651bb79cb4137959334a2b5c78644a"), looks := true }, kinds := [], alts := [], laidByText := true, laidKinds := [.handle], laidTests := true, laidLooks := .later }
def AgainBacksUptoCardSaid : Prop := Claim7.holds Tryz.pinned (.plain (OpenSpec.upto againBacksSpec)) againBacksUptoCard
end Rows
end Go.Proofs.YtpniemnfdleiiajGreatDoor
