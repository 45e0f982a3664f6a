/-
  DERIVED. GIVEN WITH THE SEED: THE CARDS: each row of YtogmbihigjpmfacDoorRows.lean that lists a variable, with what it lists TIED to the program's text (the seventh form; the later family's looks); each row that meets fmt, with fmt's text TOLD by the authors' own Lean function (tested against real Go, not proved from fmt's source: count such statements apart). THE CARD IS WHAT COUNTS. Prove the row's statement (the work); the ties are given (YtogmbihigjpmfacDoorTie.lean); close each card by the builder's one call (the guide's Derived/Test/ToyasCard.lean, 'card_holds'). Laid BY PROGRAM, IN A SANDBOX (cutbox-door.mjs). By AI agents, Wed Nov 11 2026. No macro, syntax, notation, axiom, sorry.
-/
import Derived.Test.YtogmbihigjpmfacDoorRows
import GoSem.ClaimSeven
namespace Go.Proofs.YtogmbihigjpmfacDoor
namespace Rows

/-- THE TIED CARD OF 'galleylaw1.LayerGoes'. -/
def layerGoesCard : Claim7 := { stood := { row := layerGoesRow, standIns := [], harness := (true, "4545405d646b7e86130ad49526687a57009461d726fcd475f7cf21781871f5cb"), looks := true }, kinds := [], alts := [], laidByText := true, laidKinds := [.handle], laidTests := true, laidLooks := .later }
def LayerGoesCardSaid : Prop := Claim7.holds Tryd.pinned (.plain (OpenSpec.ofChange layerGoesSpec)) layerGoesCard

/-- THE TIED CARD OF 'galleylaw1.LayerBacks'. -/
def layerBacksCard : Claim7 := { stood := { row := layerBacksRow, standIns := [], harness := (true, "4545405d646b7e86130ad49526687a57009461d726fcd475f7cf21781871f5cb"), looks := true }, kinds := [], alts := [], laidByText := true, laidKinds := [.handle], laidTests := true, laidLooks := .later }
def LayerBacksCardSaid : Prop := Claim7.holds Tryd.pinned (.plain (OpenSpec.ofChange layerBacksSpec)) layerBacksCard

/-- THE TIED CARD OF 'galleylaw1.LossTells'. -/
def lossTellsCard : Claim7 := { stood := { row := lossTellsRow, standIns := [], harness := (true, "4545405d646b7e86130ad49526687a57009461d726fcd475f7cf21781871f5cb"), looks := true }, kinds := [], alts := [], laidByText := true, laidKinds := [.handle], laidTests := true, laidLooks := .later }
def LossTellsCardSaid : Prop := Claim7.holds Tryd.pinned (.plain (OpenSpec.ofChange lossTellsSpec)) lossTellsCard

/-- THE SECOND FORM's CARD OF 'galleylaw1.LayerGoes'. -/
def layerGoesUptoCard : Claim7 := { stood := { row := layerGoesUptoRow, standIns := [], harness := (true, "4545405d646b7e86130ad49526687a57009461d726fcd475f7cf21781871f5cb"), looks := true }, kinds := [], alts := [], laidByText := true, laidKinds := [.handle], laidTests := true, laidLooks := .later }
def LayerGoesUptoCardSaid : Prop := Claim7.holds Tryd.pinned (.plain (OpenSpec.upto layerGoesSpec)) layerGoesUptoCard

/-- THE SECOND FORM's CARD OF 'galleylaw1.LayerBacks'. -/
def layerBacksUptoCard : Claim7 := { stood := { row := layerBacksUptoRow, standIns := [], harness := (true, "4545405d646b7e86130ad49526687a57009461d726fcd475f7cf21781871f5cb"), looks := true }, kinds := [], alts := [], laidByText := true, laidKinds := [.handle], laidTests := true, laidLooks := .later }
def LayerBacksUptoCardSaid : Prop := Claim7.holds Tryd.pinned (.plain (OpenSpec.upto layerBacksSpec)) layerBacksUptoCard

/-- THE SECOND FORM's CARD OF 'galleylaw1.LossTells'. -/
def lossTellsUptoCard : Claim7 := { stood := { row := lossTellsUptoRow, standIns := [], harness := (true, "4545405d646b7e86130ad49526687a57009461d726fcd475f7cf21781871f5cb"), looks := true }, kinds := [], alts := [], laidByText := true, laidKinds := [.handle], laidTests := true, laidLooks := .later }
def LossTellsUptoCardSaid : Prop := Claim7.holds Tryd.pinned (.plain (OpenSpec.upto lossTellsSpec)) lossTellsUptoCard
end Rows
end Go.Proofs.YtogmbihigjpmfacDoor
