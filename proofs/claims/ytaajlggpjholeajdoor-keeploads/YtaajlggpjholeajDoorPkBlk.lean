/- Blocks of cells, as they lie: what a block holds, and that it is kept. No program in sight. -/
import Derived.Test.YtaajlggpjholeajDoorLists
import Derived.Test.YtaajlggpjholeajDoorPkLBox
import Derived.RangeFuncNested
import Derived.RangeFuncBound
import Derived.RangeFuncCalls
import Derived.RangeFuncLeaves
import Derived.Maps.AppendAt
import Derived.Test.YtaajlggpjholeajDoorSameL
import Derived.Test.YtaajlggpjholeajDoorPkLForth
import Derived.Test.YtaajlggpjholeajDoorKpP
import Derived.Test.YtaajlggpjholeajDoorPkKpQ
import Derived.Lib.SmallJoins
namespace Go.Proofs.YtaajlggpjholeajDoor
open Go.RowKit
def Blk (W:World) (B:Nat) (cs:Array Value) (t:TypeId):Prop:=W.heap[B]?=some (.cells cs t (0,0))
theorem Blk.cell{W:World}{B:Nat}{cs:Array Value}{t:TypeId}(h:Blk W B cs t){j:Nat}{x:Value}(hx:cs[j]?=some x):W.cell? ⟨B,j,none⟩=some x:=by simp[World.cell?,show W.heap[B]?=_ from h,hx]
theorem Blk.new(W:World)(cs:Array Value)(t:TypeId){B:Nat}(hB:W.heap.size=B):Blk (W.alloc (.cells cs t)) B cs t:=by subst hB;exact World.alloc_heap_new W _
theorem Blk.lt{W:World}{B:Nat}{cs:Array Value}{t:TypeId}(h:Blk W B cs t):B<W.heap.size:=(Array.getElem?_eq_some_iff.1 h).1
theorem Blk.kept{W W':World}{row:Option Nat}{B:Nat}{cs:Array Value}{t:TypeId}(h:Blk W B cs t)(hg:W.grownBy W' row)(hne:some B≠row):Blk W' B cs t:=(hg.block B h.lt hne).trans h
theorem Blk.alloc{W:World}{B:Nat}{cs:Array Value}{t:TypeId}(h:Blk W B cs t)(o:Obj):Blk (W.alloc o) B cs t:=h.kept (World.grownBy_alloc W o none) (by simp)
theorem Blk.u_{W W':World}{B:Nat}{cs:Array Value}{t:TypeId}(h:Blk W B cs t)(hb:Below W.heap.size W W'):Blk W' B cs t:=(hb.block B h.lt).trans h
set_option maxHeartbeats 4000000 in
set_option maxRecDepth 100000 in
theorem l3state_any(va:Option Addr)(vn vk:Nat)(xa:Option Addr)(xn xk:Nat)(n:Int)(w:World):Calls Tryd.prog 5 #[.agg #[.slice va vn vk,.slice xa xn xk,.int .i64 n]] w fun e w'=>e=.returned (.agg #[.slice va vn vk,.slice xa xn xk,.int .i64 n])∧Below w.heap.size w w':=by
 have HB0:=h_ (o_ w (.cells #[.slice va vn vk,.slice xa xn xk,.int .i64 n] 25))
 obtain ⟨W,hW⟩:=gM (w.alloc (.cells #[.slice va vn vk,.slice xa xn xk,.int .i64 n] 25))
 go_enter Tryd.func5,Tryd.ntmps5
 go_wp2
 refine bodyPost_ret (v:=.agg #[.slice va vn vk,.slice xa xn xk,.int .i64 n]) (by simp[results,Tryd.results5,go_sem]) rfl ⟨rfl,?_⟩
 exact a_ HB0.out
set_option maxHeartbeats 4000000 in
set_option maxRecDepth 100000 in
theorem l3states_any(u t u' t':Value)(ls:List Ly)(ds:List (Mx×Mx))(n:Int)(w:World)(h0:Y_ w u ls)(h1:Y_ w u' ls)(h2:D_ w t ds)(h3:D_ w t' ds):Calls Tryd.prog 13 #[.agg #[u,t,.int .i64 n],.agg #[u',t',.int .i64 n]] w fun e w'=>e=.returned (.bool true)∧Below w.heap.size w w':=by
 obtain ⟨ua,uk,rfl,_,_⟩:=h0.shape
 obtain ⟨ya,yk,rfl,_,_⟩:=h1.shape
 obtain ⟨ta,tk,rfl,_,_⟩:=h2.shape
 obtain ⟨za,zk,rfl,_,_⟩:=h3.shape
 obtain ⟨N,hN⟩:=gN (ls.length)
 obtain ⟨M,hM⟩:=gN (ds.length)
 rw[hN]at h0 h1 ⊢
 rw[hM]at h2 h3 ⊢
 have HB1:=h_ (o_ w (.cells #[.slice ua N uk,.slice ta M tk,.int .i64 n] 26))
 obtain ⟨W,hW⟩:=gM ((w.alloc (.cells #[.slice ua N uk,.slice ta M tk,.int .i64 n] 26)).alloc (.cells #[.slice ya N yk,.slice za M zk,.int .i64 n] 26))
 have HW:=h_ hW
 have HBW:=h_ (show Below w.heap.size w W by rw[hW];exact a_ HB1.out)
 have HK0:=h_ (show Blk W w.heap.size #[.slice ua N uk,.slice ta M tk,.int .i64 n] 26 by rw[hW];exact (Blk.new w _ _ rfl).alloc _)
 have HK1:=h_ (show Blk W (w.heap.size+1) #[.slice ya N yk,.slice za M zk,.int .i64 n] 26 by
  rw[hW]
  exact Blk.new _ _ _ (by simp))
 have HL:=h_ (lys_same _ _ ls W (h0.u_ HBW.out) (h1.u_ HBW.out))
 have HG:=h_ (fun (U:World) (hb:Below W.heap.size W U)=>gds_same (.slice ta M tk) (.slice za M zk) ds U ((h2.u_ HBW.out).u_ hb) ((h3.u_ HBW.out).u_ hb))
 clear h0 h1 h2 h3 hW hN hM
 go_enter Tryd.func13,Tryd.ntmps13
 go_wp2_with fail
 rw[←HW.out]
 refine HL.out.mono ?_
 rintro e w1 ⟨rfl,hb1⟩
 have c0:=(HK0.out.u_ hb1).cell (j:=1) rfl
 have c1:=(HK1.out.u_ hb1).cell (j:=1) rfl
 have HB1:=h_ hb1
 clear hb1
 go_wp2_with fail
 refine (HG.out w1 HB1.out).mono ?_
 rintro e w2 ⟨rfl,hb2⟩
 have c2:=(HK0.out.u_ (b_ HB1.out hb2)).cell (j:=2) rfl
 have c3:=(HK1.out.u_ (b_ HB1.out hb2)).cell (j:=2) rfl
 have HB2:=h_ (b_ HBW.out (b_ HB1.out hb2))
 clear hb2
 go_wp2
 go_ret
 exact ⟨rfl,HB2.out⟩
theorem WBk.c3{w:World}{R:Nat}{x0 x1 x2:Value}{t:TypeId}(h:WBk w R #[x0,x1,x2] t):w.cell? ⟨R,0,none⟩=some x0∧w.cell? ⟨R,1,none⟩=some x1∧w.cell? ⟨R,2,none⟩=some x2:=⟨h.c rfl,h.c rfl,h.c rfl⟩
end Go.Proofs.YtaajlggpjholeajDoor
