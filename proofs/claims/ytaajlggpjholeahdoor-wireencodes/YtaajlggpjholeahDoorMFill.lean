/- What fill of package mat comes to: a matrix in new memory of what a function value gives, cell by cell. Condition: the function gives f i j at each cell, and turns nothing old. -/
import Derived.Test.YtaajlggpjholeahDoorMCheckAll
import Derived.Test.YtaajlggpjholeahDoorRBlank
import Derived.Test.YtaajlggpjholeahDoorPlain
import Derived.Laws.AppendOwn
import Derived.Shelf.Abstract
namespace Go.Proofs.YtaajlggpjholeahDoor
open Go.RowKit
theorem run_mk0(L:Int)(n:Nat)(hL:L=(n:Int))(hn:n≤82944)(W:World):(Instr.makeSlice 22 (.int .i64 0) (.int .i64 L)).run Tryd.prog W=.ok (.slice (some ⟨W.heap.size,0,none⟩) 0 n) (W.alloc (.cells (zeros n) 3)):=by
 obtain ⟨i0,hi,hz0,hz1,hz2⟩:=info_parts infoInt
 subst hL
 have hr:=run_make (P:=Tryd.prog) W 22 3 i0 (.int .i64 0) Tryd.underlying22 hi hz0 .i64 .i64 (0:Int) (n:Int) (by omega) (by omega) (by rw[hz2];omega) (by omega)
 simpa [zeros,hz1,Value.cells] using hr
theorem zeros_size(n:Nat):(zeros n).size=n*1:=by
 unfold zeros;rw[←Array.length_toList,toList_madeCells_one];simp
end Go.Proofs.YtaajlggpjholeahDoor
