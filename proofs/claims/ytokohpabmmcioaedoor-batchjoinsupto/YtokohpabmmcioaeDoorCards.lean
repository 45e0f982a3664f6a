/-
  DERIVED. GIVEN WITH THE SEED: THE CARDS: each row of YtokohpabmmcioaeDoorRows.lean that lists a variable, with what it lists TIED to the program's text (the seventh form; the later family's looks); each row that meets fmt, with fmt's text TOLD by the authors' own Lean function (tested against real Go, not proved from fmt's source: count such statements apart). THE CARD IS WHAT COUNTS. Prove the row's statement (the work); the ties are given (YtokohpabmmcioaeDoorTie.lean); close each card by the builder's one call (the guide's Derived/Test/ToyasCard.lean, 'card_holds'). Laid BY PROGRAM, IN A SANDBOX (cutbox-door.mjs). By AI agents, Wed Nov 11 2026. No macro, syntax, notation, axiom, sorry.
-/
import Derived.Test.YtokohpabmmcioaeDoorRows
import GoSem.ClaimSeven
namespace Go.Proofs.YtokohpabmmcioaeDoor
namespace Rows

/-- THE TIED CARD OF 'galleylaw1.BatchSplits'. -/
def batchSplitsCard : Claim7 := { stood := { row := batchSplitsRow, standIns := [], harness := (true, "8c51d0c9f395ffbaaa72abc156d637e20716d9b881e8fdc1c82a4fe42d296e4a"), looks := true }, kinds := [], alts := [], laidByText := true, laidKinds := [.handle], laidTests := true, laidLooks := .later }
def BatchSplitsCardSaid : Prop := Claim7.holds Tryd.pinned (.plain (OpenSpec.ofChange batchSplitsSpec)) batchSplitsCard

/-- THE TIED CARD OF 'galleylaw1.BatchJoins'. -/
def batchJoinsCard : Claim7 := { stood := { row := batchJoinsRow, standIns := [], harness := (true, "8c51d0c9f395ffbaaa72abc156d637e20716d9b881e8fdc1c82a4fe42d296e4a"), looks := true }, kinds := [], alts := [], laidByText := true, laidKinds := [.handle], laidTests := true, laidLooks := .later }
def BatchJoinsCardSaid : Prop := Claim7.holds Tryd.pinned (.plain (OpenSpec.ofChange batchJoinsSpec)) batchJoinsCard

/-- THE SECOND FORM's CARD OF 'galleylaw1.BatchSplits'. -/
def batchSplitsUptoCard : Claim7 := { stood := { row := batchSplitsUptoRow, standIns := [], harness := (true, "8c51d0c9f395ffbaaa72abc156d637e20716d9b881e8fdc1c82a4fe42d296e4a"), looks := true }, kinds := [], alts := [], laidByText := true, laidKinds := [.handle], laidTests := true, laidLooks := .later }
def BatchSplitsUptoCardSaid : Prop := Claim7.holds Tryd.pinned (.plain (OpenSpec.upto batchSplitsSpec)) batchSplitsUptoCard

/-- THE SECOND FORM's CARD OF 'galleylaw1.BatchJoins'. -/
def batchJoinsUptoCard : Claim7 := { stood := { row := batchJoinsUptoRow, standIns := [], harness := (true, "8c51d0c9f395ffbaaa72abc156d637e20716d9b881e8fdc1c82a4fe42d296e4a"), looks := true }, kinds := [], alts := [], laidByText := true, laidKinds := [.handle], laidTests := true, laidLooks := .later }
def BatchJoinsUptoCardSaid : Prop := Claim7.holds Tryd.pinned (.plain (OpenSpec.upto batchJoinsSpec)) batchJoinsUptoCard
end Rows
end Go.Proofs.YtokohpabmmcioaeDoor
