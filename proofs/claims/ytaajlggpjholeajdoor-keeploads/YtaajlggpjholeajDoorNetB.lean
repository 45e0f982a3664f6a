/- What goes back through a net, as plain data; pieces of lists in memory. No program in sight. -/
import Derived.Test.YtaajlggpjholeajDoorPkLForth
namespace Go.Proofs.YtaajlggpjholeajDoor
open Go.RowKit
section
variable {ls:List Ly} {ms:List Mx} {g:Mx} {k:Nat} {l:Ly} {x:Mx}
end
section
variable {P:Program} {w:World}
end
end Go.Proofs.YtaajlggpjholeajDoor
