/- What off of package loss comes to: a function that hands on, cell by cell, by how much two matrices are off, to whatever goes through it. -/
import Derived.Test.YtpniemnfdleiiajPkLoss
import Derived.Test.YtpniemnfdleiiajPkNetLaw
import Derived.RangeFuncNested
import Derived.RangeFuncBound
import Derived.RangeFuncCalls
import Derived.RangeFuncLeaves
import Derived.Shelf.Abstract
import Derived.Shelf.RegionOpen
import Derived.OwnWalkIn
import Derived.TacticsInMore
import Derived.LoopNIn
import Derived.LoopIn
import Derived.Maps.AppendAt
namespace Go.Proofs.Ytpniemnfdleiiaj
open Go.RowKit Go.Shelf
attribute [local go_sem] Oper.semAt_some
set_option maxHeartbeats 400000 in
theorem off_any(r c r' c':Int)(xa ya:Option Addr)(xn xk yn yk:Nat)(w:World):Calls Try.prog 20 #[.agg #[.int .i64 r,.int .i64 c,.slice xa xn xk],.agg #[.int .i64 r',.int .i64 c',.slice ya yn yk]] w fun e w'=>
  e=.returned (.func (.func 30) #[] #[.pointer (some ⟨w.heap.size,0,none⟩),.pointer (some ⟨w.heap.size+1,0,none⟩)])∧w'=(w.alloc (.cells #[.int .i64 r,.int .i64 c,.slice xa xn xk] 25)).alloc (.cells #[.int .i64 r',.int .i64 c',.slice ya yn yk] 25):=by
 go_enter Try.func20,Try.ntmps20
 go_wp2
 go_ret
 exact ⟨rfl,rfl⟩
def KeepB (n B:Nat) (W W':World):Prop:=Below n W W'∧∀cs,Blk W B cs 25→Blk W' B cs 25
theorem KeepB.trans{n B:Nat}{X Y Z:World}(h:KeepB n B X Y)(k:KeepB n B Y Z):KeepB n B X Z:=⟨h.1.trans k.1,fun cs hb=>k.2 cs (h.2 cs hb)⟩
theorem KeepB.put{n B:Nat}{w:World}(hn:n≤w.heap.size)(W:World)(l:Nat)(o o':Obj)(hl:w.heap.size≤l)(h:W.heap[l]?=some o)(hc:o.isCells=false)(hw:o.isWalk=false):KeepB n B W (W.putObj l o'):=
 ⟨belowK_b hn W l o o' hl h hc hw,fun cs hb=>hb.kept (grownBy_putObj' W l o') (fun e=>by cases e;rw[show W.heap[B]?=_ from hb]at h;cases h;cases hc)⟩
set_option maxRecDepth 100000 in
set_option maxHeartbeats 2000000 in
theorem off1_in(n:Nat)(hn:1≤n)(l A B N:Nat)(r' c':Int)(xa ya:Option Addr)(xk yk:Nat)(ma mb:Mx)(w:World)(hsa:I_ w (.slice xa N xk) ma.cells)(hsb:I_ w (.slice ya N yk) mb.cells)(hla:ma.cells.length=N)(hlb:mb.cells.length=N)(hN:N≤576)(J Jx:List Int→World→Prop)
  (hY:∀pre x W,J pre W→pre.length<N→YieldAt Fence.wide (n - 1) Try.prog l #[.int .i64 x] W fun e W'=>(e=.returned (.bool true)∧J (pre++[x]) W'∧KeepB w.heap.size B W W')∨(e=.returned (.bool false)∧Jx (pre++[x]) W'))
  (W:World) (hW:Below w.heap.size w W) (hA:W.cell? ⟨A,2,none⟩=some (.slice xa N xk)) (hB:Blk W B #[.int .i64 r',.int .i64 c',.slice ya N yk] 25) (h0:J [] W):
  CallsIn Fence.wide n Try.prog 30 #[.func (.yield l) #[] #[],.pointer (some ⟨A,0,none⟩),.pointer (some ⟨B,0,none⟩)] W fun e W'=>(∃v,e=.returned v)∧
   ((∃ys,ys=tab N (offAt ma mb)∧J ys W')∨(∃pre,True∧Jx pre W')):=by
 have HSA:=h_ hsa
 have HSB:=h_ hsb
 have HLA:=h_ hla
 have HLB:=h_ hlb
 have HW:=h_ hW
 have HBK:=h_ hB
 have HJ:=h_ h0
 have HY:=h_ hY
 clear hsa hsb hla hlb hW hB h0 hY
 refine callsIn_of_wp Try.func30 rfl trivial ?_ rfl
 simp only[Try.ntmps30,List.size_toArray,List.length_cons,List.length_nil,Nat.reduceAdd,Nat.reduceSub,Array.replicate_succ,Array.replicate_zero,List.push_toArray,List.append_toArray,List.nil_append,List.cons_append]
 gi_wp2
 gi_loopw [9] (fun a wr=>∃(i:Nat) (xi:Int),i≤N∧xi=(i:Int)∧a=.int .i64 xi∧J (tab i (offAt ma mb)) wr∧Below w.heap.size w wr∧Blk wr B #[.int .i64 r',.int .i64 c',.slice ya N yk] 25) (fun a _=>N - (intOf a).toNat)
 case atStart=>exact ⟨0,0,Nat.zero_le _,rfl,rfl,HJ.out,HW.out,HBK.out⟩
 case round=>
  obtain ⟨i,xi,hi,hxi,rfl,hj,hbw,hbk⟩:=hrel
  have HJI:=h_ hj
  have HBW:=h_ hbw
  have HBB:=h_ hbk
  have HXI:=h_ hxi
  have hxi0:0≤xi:=by omega
  have hxi1:xi≤576:=by omega
  have q2:=hbk.cell (j:=2) rfl
  clear hj hbw hbk hxi hA
  by_cases hlt:xi<(N:Int)
  ·have hin:i<N:=by have:=HXI.out;omega
   have hxn:xi.toNat=i:=by have:=HXI.out;omega
   obtain ⟨x,hx⟩:∃z,ma.cells[i]?=some z:=⟨ma.cells[i]'(by have:=HLA.out;omega),List.getElem?_eq_getElem _⟩
   obtain ⟨y,hy0⟩:∃z,mb.cells[i]?=some z:=⟨mb.cells[i]'(by have:=HLB.out;omega),List.getElem?_eq_getElem _⟩
   obtain ⟨a1,c1,es1,_,_,h41⟩:=HSA.out
   obtain ⟨a2,c2,es2,_,_,h42⟩:=HSB.out
   injection es1 with s11 s12 s13
   injection es2 with s21 s22 s23
   clear s12 s13 s22 s23
   obtain ⟨bx,ox,rx,hclx⟩:=h41.resolve_left (fun e=>by rw[e]at hx;simp at hx)
   obtain ⟨by',oy,ry,hcly⟩:=h42.resolve_left (fun e=>by rw[e]at hy0;simp at hy0)
   have sx:=s11.trans rx
   have sy:=s21.trans ry
   clear s11 s21 rx ry h41 h42
   subst sx sy
   have cx:wr.cell? ⟨bx,ox+xi.toNat,none⟩=some (.int .i64 x):=by rw[hxn];exact c_ HBW.out (hclx _ _ hx)
   have cy:wr.cell? ⟨by',oy+xi.toNat,none⟩=some (.int .i64 y):=by rw[hxn];exact c_ HBW.out (hcly _ _ hy0)
   have HD:=h_ (show offAt ma mb i=sb x y by unfold offAt A_;rw[hx,hy0];rfl)
   obtain ⟨fn,tmps,assign,body,hy,hR⟩:=HY.out _ (sb x y) wr HJI.out (by simp[tab];omega)
   have HR:=h_ hR
   clear hclx hx hcly hy0 hxn hR
   gi_wp2_with (refine ⟨trivial,?_⟩;gi_at_call 31;refine (callsIn_wide.2 (sub_any _ _ _)).mono ?_;rintro e w' ⟨rfl,rfl⟩)
   refine HR.out.mono ?_
   rintro e W3 (⟨rfl,hJ3,hk3⟩|⟨rfl,hJx3⟩)
   ·have HJ3:=h_ hJ3
    have HK3:=h_ hk3
    clear hJ3 hk3
    gi_wp2
    go_roundw
    case rel=>exact ⟨i+1,_,by omega,by have:=HXI.out;omega,rfl,by rw[tab_succ,HD.out];exact HJ3.out,HBW.out.trans HK3.out.1,HK3.out.2 _ HBB.out⟩
    case measure=>have:=HXI.out;simp[intOf];omega
   ·have HJX:=h_ hJx3
    clear hJx3
    gi_wp2
    refine bodyPost_ret (results_none rfl _ _ _) rfl ?_
    exact ⟨⟨_,rfl⟩,.inr ⟨_,trivial,HJX.out⟩⟩
  ·have hin:i=N:=by have:=HXI.out;omega
   gi_wp2
   go_end0
   exact ⟨⟨_,rfl⟩,.inl (by rw[←hin];exact HJI.out)⟩
theorem off_stops(n:Nat)(hn:1≤n)(A B N:Nat)(r' c':Int)(xa ya:Option Addr)(xk yk:Nat)(ma mb:Mx)(w V:World)(hsa:I_ w (.slice xa N xk) ma.cells)(hsb:I_ w (.slice ya N yk) mb.cells)(hla:ma.cells.length=N)(hlb:mb.cells.length=N)(hN:N≤576)(hV:Below w.heap.size w V)(hA:V.cell? ⟨A,2,none⟩=some (.slice xa N xk))(hB:Blk V B #[.int .i64 r',.int .i64 c',.slice ya N yk] 25):
  SeqStopsK Fence.wide n Try.prog 30 #[.pointer (some ⟨A,0,none⟩),.pointer (some ⟨B,0,none⟩)] (fun x:Int=>#[Value.int .i64 x]) (KeepB w.heap.size B) (fun ys=>ys=tab N (offAt ma mb)) (fun _=>True) N V:=fun l J Jx W hW _ _ hY h0=>
 off1_in n hn l A B N r' c' xa ya xk yk ma mb w hsa hsb hla hlb hN J Jx hY W (b_ hV hW) (c_ hW hA) (hB.u_ hW) h0
end Go.Proofs.Ytpniemnfdleiiaj
