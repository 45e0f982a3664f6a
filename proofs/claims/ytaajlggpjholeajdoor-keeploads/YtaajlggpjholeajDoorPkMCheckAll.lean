/- What checkAll of package mat comes to: the first fault of some matrices. -/
import Derived.Test.YtaajlggpjholeajDoorPkFix
import Derived.Test.YtaajlggpjholeajDoorPlain
import Derived.Test.YtaajlggpjholeajDoorRFault
import Derived.StillTailTactics
import Derived.Laws.AppendOwn
import Derived.Shelf.Abstract
import Derived.WalkKit
import Derived.RowKitTokens
namespace Go.Proofs.YtaajlggpjholeajDoor
open Go.RowKit
theorem c_{w w':World}(hb:Below w.heap.size w w'){p:Addr}{v:Value}(h:w.cell? p=some v):w'.cell? p=some v:=
 (hb.cell (p:=p) (World.block_lt_of_cell? w _ h)).trans h
theorem I_.shape{w:World}{v:Value}{zs:List Int}(h:I_ w v zs):∃a n cap,v=.slice a n cap:=by
 obtain ⟨a,cap,h1,_⟩:=h;exact ⟨a,_,cap,h1⟩
theorem n_{k:Int}(h:k≠0):errV k=.iface 33 (.int .i64 k):=by unfold errV;rw[if_neg h]
theorem e_{k:Int}(h:k=0):errV k=.nilIface:=by unfold errV;rw[if_pos h]
theorem infoInt:(Tryd.prog.info? 3).map (fun i=>(i.zero,i.size,i.bytes))=some (some (.int .i64 0),1,8):=by kernel_rfl
def zeros (n:Nat):Array Value:=madeCells #[.int .i64 0] n
theorem region_tail{P:Program}{id:Nat}{Q:Exit→Act→World→Prop}{a:Act}{w:World}{l:List Oper}(n:Nat)(hm:P.follows .mixedOrders=true)(hB:Region.lexTailB .any l.toArray n=true)
  (h:wpStill P l.toArray w.drew (fun a'=>wpList P l.toArray Q (l.drop n) a' w.drew) (l.take n) a):(Code.region id l.toArray true).wp P Q a w:=wp_region_still_tail n hm hB h
theorem run_mk0(L:Int)(n:Nat)(hL:L=(n:Int))(hn:n≤82944)(W:World):(Instr.makeSlice 49 (.int .i64 0) (.int .i64 L)).run Tryd.prog W=.ok (.slice (some ⟨W.heap.size,0,none⟩) 0 n) (W.alloc (.cells (zeros n) 3)):=by
 obtain ⟨i0,hi,hz0,hz1,hz2⟩:=info_parts infoInt
 subst hL
 have hr:=run_make (P:=Tryd.prog) W 49 3 i0 (.int .i64 0) Tryd.underlying49 hi hz0 .i64 .i64 (0:Int) (n:Int) (by omega) (by omega) (by rw[hz2];omega) (by omega)
 simpa [zeros,hz1,Value.cells] using hr
theorem zeros_size(n:Nat):(zeros n).size=n*1:=by
 unfold zeros;rw[←Array.length_toList,toList_madeCells_one];simp
end Go.Proofs.YtaajlggpjholeajDoor
