/-
  DERIVED. GIVEN WITH THE SEED: THE CARDS: each row of YtpgmbpgclnhkgabDoorRows.lean that lists a variable, with what it lists TIED to the program's text (the seventh form; the later family's looks); each row that meets fmt, with fmt's text TOLD by the authors' own Lean function (tested against real Go, not proved from fmt's source: count such statements apart). THE CARD IS WHAT COUNTS. Prove the row's statement (the work); the ties are given (YtpgmbpgclnhkgabDoorTie.lean); close each card by the builder's one call (the guide's Derived/Test/ToyasCard.lean, 'card_holds'). Laid BY PROGRAM, IN A SANDBOX (cutbox-door.mjs). By AI agents, Wed Nov 11 2026. No macro, syntax, notation, axiom, sorry.
-/
import Derived.Test.YtpgmbpgclnhkgabDoorRows
import GoSem.ClaimSeven
namespace Go.Proofs.YtpgmbpgclnhkgabDoor
namespace Rows

/-- THE TIED CARD OF 'galleylaw1.MatPairs'. -/
def matPairsCard : Claim7 := { stood := { row := matPairsRow, standIns := [], harness := (true, "a3049d87347a0b8b9db8fa08925fa40a680c7cec1b8590b2092bb97c9a0eb544"), looks := true }, kinds := [], alts := [], laidByText := true, laidKinds := [.handle], laidTests := true, laidLooks := .later }
def MatPairsCardSaid : Prop := Claim7.holds Tryd.pinned (.plain (OpenSpec.ofChange matPairsSpec)) matPairsCard

/-- THE TIED CARD OF 'galleylaw1.MatParts'. -/
def matPartsCard : Claim7 := { stood := { row := matPartsRow, standIns := [], harness := (true, "a3049d87347a0b8b9db8fa08925fa40a680c7cec1b8590b2092bb97c9a0eb544"), looks := true }, kinds := [], alts := [], laidByText := true, laidKinds := [.handle], laidTests := true, laidLooks := .later }
def MatPartsCardSaid : Prop := Claim7.holds Tryd.pinned (.plain (OpenSpec.ofChange matPartsSpec)) matPartsCard

/-- THE TIED CARD OF 'galleylaw1.MatStacks'. -/
def matStacksCard : Claim7 := { stood := { row := matStacksRow, standIns := [], harness := (true, "a3049d87347a0b8b9db8fa08925fa40a680c7cec1b8590b2092bb97c9a0eb544"), looks := true }, kinds := [], alts := [], laidByText := true, laidKinds := [.handle], laidTests := true, laidLooks := .later }
def MatStacksCardSaid : Prop := Claim7.holds Tryd.pinned (.plain (OpenSpec.ofChange matStacksSpec)) matStacksCard

/-- THE SECOND FORM's CARD OF 'galleylaw1.MatPairs'. -/
def matPairsUptoCard : Claim7 := { stood := { row := matPairsUptoRow, standIns := [], harness := (true, "a3049d87347a0b8b9db8fa08925fa40a680c7cec1b8590b2092bb97c9a0eb544"), looks := true }, kinds := [], alts := [], laidByText := true, laidKinds := [.handle], laidTests := true, laidLooks := .later }
def MatPairsUptoCardSaid : Prop := Claim7.holds Tryd.pinned (.plain (OpenSpec.upto matPairsSpec)) matPairsUptoCard

/-- THE SECOND FORM's CARD OF 'galleylaw1.MatParts'. -/
def matPartsUptoCard : Claim7 := { stood := { row := matPartsUptoRow, standIns := [], harness := (true, "a3049d87347a0b8b9db8fa08925fa40a680c7cec1b8590b2092bb97c9a0eb544"), looks := true }, kinds := [], alts := [], laidByText := true, laidKinds := [.handle], laidTests := true, laidLooks := .later }
def MatPartsUptoCardSaid : Prop := Claim7.holds Tryd.pinned (.plain (OpenSpec.upto matPartsSpec)) matPartsUptoCard

/-- THE SECOND FORM's CARD OF 'galleylaw1.MatStacks'. -/
def matStacksUptoCard : Claim7 := { stood := { row := matStacksUptoRow, standIns := [], harness := (true, "a3049d87347a0b8b9db8fa08925fa40a680c7cec1b8590b2092bb97c9a0eb544"), looks := true }, kinds := [], alts := [], laidByText := true, laidKinds := [.handle], laidTests := true, laidLooks := .later }
def MatStacksUptoCardSaid : Prop := Claim7.holds Tryd.pinned (.plain (OpenSpec.upto matStacksSpec)) matStacksUptoCard
end Rows
end Go.Proofs.YtpgmbpgclnhkgabDoor
