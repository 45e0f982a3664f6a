/-
  DERIVED. GIVEN WITH THE SEED: THE CARDS: each row of YtaajlggpjholeajDoorRows.lean that lists a variable, with what it lists TIED to the program's text (the seventh form; the later family's looks); each row that meets fmt, with fmt's text TOLD by the authors' own Lean function (tested against real Go, not proved from fmt's source: count such statements apart). THE CARD IS WHAT COUNTS. Prove the row's statement (the work); the ties are given (YtaajlggpjholeajDoorTie.lean); close each card by the builder's one call (the guide's Derived/Test/ToyasCard.lean, 'card_holds'). Laid BY PROGRAM, IN A SANDBOX (cutbox-door.mjs). By AI agents, Wed Nov 11 2026. No macro, syntax, notation, axiom, sorry.
-/
import Derived.Test.YtaajlggpjholeajDoorRows
import GoSem.ClaimSeven
namespace Go.Proofs.YtaajlggpjholeajDoor
namespace Rows

/-- THE TIED CARD OF 'galleylaw3.KeepSaves'. -/
def keepSavesCard : Claim7 := { stood := { row := keepSavesRow, standIns := [], harness := (true, "bd9c97362f68ef5f54a27c6beb82bf629b4ef50a9a20af25bc3ac2b37712eef7"), looks := true }, kinds := [], alts := [], laidByText := true, laidKinds := [.handle], laidTests := true, laidLooks := .later }
def KeepSavesCardSaid : Prop := Claim7.holds Tryd.pinned (.plain (OpenSpec.ofChange keepSavesSpec)) keepSavesCard

/-- THE TIED CARD OF 'galleylaw3.KeepLoads'. -/
def keepLoadsCard : Claim7 := { stood := { row := keepLoadsRow, standIns := [], harness := (true, "bd9c97362f68ef5f54a27c6beb82bf629b4ef50a9a20af25bc3ac2b37712eef7"), looks := true }, kinds := [], alts := [], laidByText := true, laidKinds := [.handle], laidTests := true, laidLooks := .later }
def KeepLoadsCardSaid : Prop := Claim7.holds Tryd.pinned (.plain (OpenSpec.ofChange keepLoadsSpec)) keepLoadsCard

/-- THE SECOND FORM's CARD OF 'galleylaw3.KeepSaves'. -/
def keepSavesUptoCard : Claim7 := { stood := { row := keepSavesUptoRow, standIns := [], harness := (true, "bd9c97362f68ef5f54a27c6beb82bf629b4ef50a9a20af25bc3ac2b37712eef7"), looks := true }, kinds := [], alts := [], laidByText := true, laidKinds := [.handle], laidTests := true, laidLooks := .later }
def KeepSavesUptoCardSaid : Prop := Claim7.holds Tryd.pinned (.plain (OpenSpec.upto keepSavesSpec)) keepSavesUptoCard

/-- THE SECOND FORM's CARD OF 'galleylaw3.KeepLoads'. -/
def keepLoadsUptoCard : Claim7 := { stood := { row := keepLoadsUptoRow, standIns := [], harness := (true, "bd9c97362f68ef5f54a27c6beb82bf629b4ef50a9a20af25bc3ac2b37712eef7"), looks := true }, kinds := [], alts := [], laidByText := true, laidKinds := [.handle], laidTests := true, laidLooks := .later }
def KeepLoadsUptoCardSaid : Prop := Claim7.holds Tryd.pinned (.plain (OpenSpec.upto keepLoadsSpec)) keepLoadsUptoCard
end Rows
end Go.Proofs.YtaajlggpjholeajDoor
