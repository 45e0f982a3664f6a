/-
  DERIVED. GIVEN WITH THE SEED: THE CARDS: each row of YtniloklglpchfaeGreatDoorRows.lean that lists a variable, with what it lists TIED to the program's text (the seventh form; the later family's looks); each row that meets fmt, with fmt's text TOLD by the authors' own Lean function (tested against real Go, not proved from fmt's source: count such statements apart). THE CARD IS WHAT COUNTS. Prove the row's statement (the work); the ties are given (YtniloklglpchfaeGreatDoorTie.lean); close each card by the builder's one call (the guide's Derived/Test/ToyasCard.lean, 'card_holds'). Laid BY PROGRAM, IN A SANDBOX (cutbox-door.mjs). By AI agents, Wed Nov 11 2026. No macro, syntax, notation, axiom, sorry.
-/
import Derived.Test.YtniloklglpchfaeGreatDoorRows
import GoSem.ClaimSeven
namespace Go.Proofs.YtniloklglpchfaeGreatDoor
namespace Rows

/-- THE TIED CARD OF 'galleylaw1.TrainOnes'. -/
def trainOnesCard : Claim7 := { stood := { row := trainOnesRow, standIns := [], harness := (true, "864129ca26663c98e9e6c1b8a919e144604e47d8aa002022d0074d4faecd07e6"), looks := true }, kinds := [], alts := [], laidByText := true, laidKinds := [.handle], laidTests := true, laidLooks := .later }
def TrainOnesCardSaid : Prop := Claim7.holds Tryz.pinned (.plain (OpenSpec.ofChange trainOnesSpec)) trainOnesCard

/-- THE TIED CARD OF 'galleylaw1.TrainAlls'. -/
def trainAllsCard : Claim7 := { stood := { row := trainAllsRow, standIns := [], harness := (true, "864129ca26663c98e9e6c1b8a919e144604e47d8aa002022d0074d4faecd07e6"), looks := true }, kinds := [], alts := [], laidByText := true, laidKinds := [.handle], laidTests := true, laidLooks := .later }
def TrainAllsCardSaid : Prop := Claim7.holds Tryz.pinned (.plain (OpenSpec.ofChange trainAllsSpec)) trainAllsCard

/-- THE SECOND FORM's CARD OF 'galleylaw1.TrainOnes'. -/
def trainOnesUptoCard : Claim7 := { stood := { row := trainOnesUptoRow, standIns := [], harness := (true, "864129ca26663c98e9e6c1b8a919e144604e47d8aa002022d0074d4faecd07e6"), looks := true }, kinds := [], alts := [], laidByText := true, laidKinds := [.handle], laidTests := true, laidLooks := .later }
def TrainOnesUptoCardSaid : Prop := Claim7.holds Tryz.pinned (.plain (OpenSpec.upto trainOnesSpec)) trainOnesUptoCard

/-- THE SECOND FORM's CARD OF 'galleylaw1.TrainAlls'. -/
def trainAllsUptoCard : Claim7 := { stood := { row := trainAllsUptoRow, standIns := [], harness := (true, "864129ca26663c98e9e6c1b8a919e144604e47d8aa002022d0074d4faecd07e6"), looks := true }, kinds := [], alts := [], laidByText := true, laidKinds := [.handle], laidTests := true, laidLooks := .later }
def TrainAllsUptoCardSaid : Prop := Claim7.holds Tryz.pinned (.plain (OpenSpec.upto trainAllsSpec)) trainAllsUptoCard
end Rows
end Go.Proofs.YtniloklglpchfaeGreatDoor
