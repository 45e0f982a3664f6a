/-
  DERIVED. GIVEN WITH THE SEED: THE CARDS: each row of YtjmmplpecmnlnadDoorRows.lean that lists a variable, with what it lists TIED to the program's text (the seventh form; the later family's looks); each row that meets fmt, with fmt's text TOLD by the authors' own Lean function (tested against real Go, not proved from fmt's source: count such statements apart). THE CARD IS WHAT COUNTS. Prove the row's statement (the work); the ties are given (YtjmmplpecmnlnadDoorTie.lean); close each card by the builder's one call (the guide's Derived/Test/ToyasCard.lean, 'card_holds'). Laid BY PROGRAM, IN A SANDBOX (cutbox-door.mjs). By AI agents, Wed Nov 11 2026. No macro, syntax, notation, axiom, sorry.
-/
import Derived.Test.YtjmmplpecmnlnadDoorRows
import GoSem.ClaimSeven
namespace Go.Proofs.YtjmmplpecmnlnadDoor
namespace Rows

/-- THE TIED CARD OF 'galleylaw1.NetGoes'. -/
def netGoesCard : Claim7 := { stood := { row := netGoesRow, standIns := [], harness := (true, "fd6f35abe4807674bad851427c173f8528f123d350c32beab6a48996b23c48e3"), looks := true }, kinds := [], alts := [], laidByText := true, laidKinds := [.handle], laidTests := true, laidLooks := .later }
def NetGoesCardSaid : Prop := Claim7.holds Tryd.pinned (.plain (OpenSpec.ofChange netGoesSpec)) netGoesCard

/-- THE TIED CARD OF 'galleylaw1.NetBacks'. -/
def netBacksCard : Claim7 := { stood := { row := netBacksRow, standIns := [], harness := (true, "fd6f35abe4807674bad851427c173f8528f123d350c32beab6a48996b23c48e3"), looks := true }, kinds := [], alts := [], laidByText := true, laidKinds := [.handle], laidTests := true, laidLooks := .later }
def NetBacksCardSaid : Prop := Claim7.holds Tryd.pinned (.plain (OpenSpec.ofChange netBacksSpec)) netBacksCard

/-- THE TIED CARD OF 'galleylaw1.NetGathers'. -/
def netGathersCard : Claim7 := { stood := { row := netGathersRow, standIns := [], harness := (true, "fd6f35abe4807674bad851427c173f8528f123d350c32beab6a48996b23c48e3"), looks := true }, kinds := [], alts := [], laidByText := true, laidKinds := [.handle], laidTests := true, laidLooks := .later }
def NetGathersCardSaid : Prop := Claim7.holds Tryd.pinned (.plain (OpenSpec.ofChange netGathersSpec)) netGathersCard

/-- THE TIED CARD OF 'galleylaw1.StepDoes'. -/
def stepDoesCard : Claim7 := { stood := { row := stepDoesRow, standIns := [], harness := (true, "fd6f35abe4807674bad851427c173f8528f123d350c32beab6a48996b23c48e3"), looks := true }, kinds := [], alts := [], laidByText := true, laidKinds := [.handle], laidTests := true, laidLooks := .later }
def StepDoesCardSaid : Prop := Claim7.holds Tryd.pinned (.plain (OpenSpec.ofChange stepDoesSpec)) stepDoesCard

/-- THE SECOND FORM's CARD OF 'galleylaw1.NetGoes'. -/
def netGoesUptoCard : Claim7 := { stood := { row := netGoesUptoRow, standIns := [], harness := (true, "fd6f35abe4807674bad851427c173f8528f123d350c32beab6a48996b23c48e3"), looks := true }, kinds := [], alts := [], laidByText := true, laidKinds := [.handle], laidTests := true, laidLooks := .later }
def NetGoesUptoCardSaid : Prop := Claim7.holds Tryd.pinned (.plain (OpenSpec.upto netGoesSpec)) netGoesUptoCard

/-- THE SECOND FORM's CARD OF 'galleylaw1.NetBacks'. -/
def netBacksUptoCard : Claim7 := { stood := { row := netBacksUptoRow, standIns := [], harness := (true, "fd6f35abe4807674bad851427c173f8528f123d350c32beab6a48996b23c48e3"), looks := true }, kinds := [], alts := [], laidByText := true, laidKinds := [.handle], laidTests := true, laidLooks := .later }
def NetBacksUptoCardSaid : Prop := Claim7.holds Tryd.pinned (.plain (OpenSpec.upto netBacksSpec)) netBacksUptoCard

/-- THE SECOND FORM's CARD OF 'galleylaw1.NetGathers'. -/
def netGathersUptoCard : Claim7 := { stood := { row := netGathersUptoRow, standIns := [], harness := (true, "fd6f35abe4807674bad851427c173f8528f123d350c32beab6a48996b23c48e3"), looks := true }, kinds := [], alts := [], laidByText := true, laidKinds := [.handle], laidTests := true, laidLooks := .later }
def NetGathersUptoCardSaid : Prop := Claim7.holds Tryd.pinned (.plain (OpenSpec.upto netGathersSpec)) netGathersUptoCard

/-- THE SECOND FORM's CARD OF 'galleylaw1.StepDoes'. -/
def stepDoesUptoCard : Claim7 := { stood := { row := stepDoesUptoRow, standIns := [], harness := (true, "fd6f35abe4807674bad851427c173f8528f123d350c32beab6a48996b23c48e3"), looks := true }, kinds := [], alts := [], laidByText := true, laidKinds := [.handle], laidTests := true, laidLooks := .later }
def StepDoesUptoCardSaid : Prop := Claim7.holds Tryd.pinned (.plain (OpenSpec.upto stepDoesSpec)) stepDoesUptoCard
end Rows
end Go.Proofs.YtjmmplpecmnlnadDoor
