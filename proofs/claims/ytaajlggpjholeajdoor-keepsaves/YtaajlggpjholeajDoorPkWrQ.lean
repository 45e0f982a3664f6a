/- How far what is read reaches: plain facts for a message that is read. No program in sight. -/
import Derived.Test.YtaajlggpjholeajDoorWrP
import Derived.Test.YtaajlggpjholeajDoorRows
import Derived.Test.YtaajlggpjholeajDoorPlain
namespace Go.Proofs.YtaajlggpjholeajDoor
end Go.Proofs.YtaajlggpjholeajDoor
/- Numbers and matrices are read: what is taken is just what is written of them. No program in sight. -/
namespace Go.Proofs.YtaajlggpjholeajDoor
theorem wr_cons(n:Nat)(l:List Nat):wrNs (n::l)=sev n++wrNs l:=by simp[wrNs]
def mxN (m:Mx):List Nat:=m.rows.toNat::m.cols.toNat::m.cells.map zig
end Go.Proofs.YtaajlggpjholeajDoor
/- What package fix and its document's answer come to on numbers: Clamp, Add, Sub, Mul, as the plain functions cl, ad, sb, ml; the world is as it was. For every int. -/
namespace Go.Proofs.YtaajlggpjholeajDoor
open Go.RowKit
set_option maxHeartbeats 400000 in
theorem clamp_any(x:Int)(w:World):Calls Tryd.prog 62 #[.int .i64 x] w fun e w'=>e=.returned (.int .i64 (cl x))∧w'=w:=by
 by_cases h1:x < -2147483647
 ·rw[cl_lo x h1]
  go_enter Tryd.func62,Tryd.ntmps62
  go_wp2
  go_ret
  exact ⟨rfl,rfl⟩
 ·by_cases h2:2147483647<x
  ·rw[cl_hi x h2]
   go_enter Tryd.func62,Tryd.ntmps62
   go_wp2
   go_ret
   exact ⟨rfl,rfl⟩
  ·rw[cl_in x (by omega) (by omega)]
   go_enter Tryd.func62,Tryd.ntmps62
   go_wp2
   all_goals
    go_ret
    exact ⟨i_ (by omega),rfl⟩
end Go.Proofs.YtaajlggpjholeajDoor
