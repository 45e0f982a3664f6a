/- What checkBoth of package loss says: what is wrong with two matrices, the first of it. -/
import Derived.Test.YtniloklglpchfafPkStep
import Derived.Test.YtniloklglpchfafPkLBox
import Derived.Test.YtniloklglpchfafLists
import Derived.RangeFuncNested
import Derived.RangeFuncBound
import Derived.RangeFuncCalls
import Derived.RangeFuncLeaves
import Derived.Maps.AppendAt
import Derived.Shelf.Abstract
import Derived.Shelf.RegionOpen
import Derived.OwnWalkIn
import Derived.TacticsInMore
import Derived.LoopNIn
import Derived.LoopIn
namespace Go.Proofs.Ytniloklglpchfaf
open Go.RowKit
set_option maxHeartbeats 1600000 in
theorem both_any(va vb:Value)(ma mb:Mx)(w:World)(hva:M_ w va ma)(hvb:M_ w vb mb):Calls Try.prog 72 #[va,vb] w fun e w'=>e=.returned (errV (addE ma mb))∧Below w.heap.size w w':=by
 obtain ⟨sa,rfl,hsa⟩:=hva
 obtain ⟨sb',rfl,hsb⟩:=hvb
 obtain ⟨xa,xn,xk,rfl⟩:=hsa.shape
 obtain ⟨ya,yn,yk,rfl⟩:=hsb.shape
 obtain ⟨r,er⟩:=gN (ma.rows)
 obtain ⟨c,ec⟩:=gN (ma.cols)
 obtain ⟨r',er'⟩:=gN (mb.rows)
 obtain ⟨c',ec'⟩:=gN (mb.cols)
 have HA:=h_ (fun W (h:Below w.heap.size w W)=>C_ (.agg #[.int .i64 ma.rows,.int .i64 ma.cols,.slice xa xn xk]) ma W ⟨_,rfl,hsa.u_ h⟩)
 have HB:=h_ (fun W (h:Below w.heap.size w W)=>C_ (.agg #[.int .i64 mb.rows,.int .i64 mb.cols,.slice ya yn yk]) mb W ⟨_,rfl,hsb.u_ h⟩)
 rw[er,ec]at HA
 rw[er',ec']at HB
 have HES:=h_ (fun (h1:q_ ma=0) (h2:q_ mb=0)=>addE_s h1 h2)
 rw[er,ec,er',ec']at HES
 rw[er,ec,er',ec']
 obtain ⟨E,hE⟩:=gN (addE ma mb)
 have HE:=h_ hE
 rw[hE]at HES ⊢
 obtain ⟨V,hV⟩:=gM (((w.alloc (.cells #[.int .i64 r,.int .i64 c,.slice xa xn xk] 28)).alloc (.cells #[.int .i64 r',.int .i64 c',.slice ya yn yk] 28)))
 have HV:=h_ hV
 have HWV:Hid (Below w.heap.size w V):=by rw[hV];exact h_ (b_ (o_ _ _) (o_ _ _))
 have HXA:Hid (Box V w.heap.size [.int .i64 r,.int .i64 c,.slice xa xn xk]):=by rw[hV];exact h_ ((Box.new w [.int .i64 r,.int .i64 c,.slice xa xn xk] 28 rfl).u_ (o_ _ _))
 have HXB:Hid (Box V (w.heap.size+1) [.int .i64 r',.int .i64 c',.slice ya yn yk]):=by rw[hV];exact h_ (Box.new _ [.int .i64 r',.int .i64 c',.slice ya yn yk] 28 (by simp))
 clear hsa hsb er ec er' ec' hV hE
 obtain ⟨d0,d1,d2⟩:=HXA.out.c3
 rw[HV.out]at d0 d1 d2
 go_enter Try.func72,Try.ntmps72
 go_wp2_with fail
 rw[←HV.out]
 refine (HA.out _ HWV.out).mono ?_
 rintro e w1 ⟨rfl,hb1⟩
 have HB1:=h_ hb1
 clear hb1 d0 d1 d2 HA
 by_cases ha:q_ ma=0
 ·rw[e_ ha]
  obtain ⟨y0,y1,y2⟩:=(HXB.out.u_ HB1.out).c3
  have HFA:=h_ ha
  clear ha
  go_wp2_with fail
  refine (HB.out _ (b_ HWV.out HB1.out)).mono ?_
  rintro e w2 ⟨rfl,hb2⟩
  have HB2:=h_ (b_ HB1.out hb2)
  clear hb2 y0 y1 y2 HB
  by_cases hb:q_ mb=0
  ·rw[e_ hb]
   have hes:=HES.out HFA.out hb
   obtain ⟨d0,d1⟩:=(HXA.out.u_ HB2.out).c2
   obtain ⟨y0,y1⟩:=(HXB.out.u_ HB2.out).c2
   clear hb
   by_cases hr:r=r'
   ·by_cases hc:c=c'
    ·have hE0:E=0:=by rw[hes,if_neg (by simp[hr,hc])]
     subst hr hc hE0
     clear hes
     go_wp2
     go_ret
     exact ⟨rfl,b_ HWV.out HB2.out⟩
    ·have hE0:E=2:=by rw[hes,if_pos (.inr hc)]
     have hc1:(c !=c')=true:=by simp[hc]
     subst hr hE0
     clear hes hc
     go_wp2
     go_ret
     exact ⟨rfl,b_ HWV.out HB2.out⟩
   ·have hE0:E=2:=by rw[hes,if_pos (.inl hr)]
    have hr1:(r !=r')=true:=by simp[hr]
    subst hE0
    clear hes hr
    go_wp2
    go_ret
    exact ⟨rfl,b_ HWV.out HB2.out⟩
  ·have hE0:q_ mb=E:=by rw[←HE.out,addE_b HFA.out hb]
   rw[n_ hb]
   have HN:=h_ (err_of hE0 hb)
   clear hb hE0
   go_wp2
   go_ret
   exact ⟨R_ HN.out,b_ HWV.out HB2.out⟩
 ·have hE0:q_ ma=E:=by rw[←HE.out,addE_a ha]
  rw[n_ ha]
  have HN:=h_ (err_of hE0 ha)
  clear ha hE0
  go_wp2
  go_ret
  exact ⟨R_ HN.out,b_ HWV.out HB1.out⟩
def Blk (W:World) (B:Nat) (cs:Array Value) (t:TypeId):Prop:=W.heap[B]?=some (.cells cs t (0,0))
theorem Blk.cell{W:World}{B:Nat}{cs:Array Value}{t:TypeId}(h:Blk W B cs t){j:Nat}{x:Value}(hx:cs[j]?=some x):W.cell? ⟨B,j,none⟩=some x:=by simp[World.cell?,show W.heap[B]?=_ from h,hx]
theorem Blk.frozen{W:World}{B:Nat}{cs:Array Value}{t:TypeId}(h:Blk W B cs t)(j:Nat):W.frozen? ⟨B,j,none⟩=false:=by simp[World.frozen?,show W.heap[B]?=_ from h]
theorem Blk.new(W:World)(cs:Array Value)(t:TypeId){B:Nat}(hB:W.heap.size=B):Blk (W.alloc (.cells cs t)) B cs t:=by subst hB;exact World.alloc_heap_new W _
theorem Blk.lt{W:World}{B:Nat}{cs:Array Value}{t:TypeId}(h:Blk W B cs t):B<W.heap.size:=(Array.getElem?_eq_some_iff.1 h).1
theorem Blk.kept{W W':World}{row:Option Nat}{B:Nat}{cs:Array Value}{t:TypeId}(h:Blk W B cs t)(hg:W.grownBy W' row)(hne:some B≠row):Blk W' B cs t:=(hg.block B h.lt hne).trans h
theorem Blk.own{β:Type}(B:Nat)(cs:Array Value)(t:TypeId):Go.Own (fun (_:β) W=>Blk W B cs t):=fun s X Y row hs hg hrow=>
 hs.kept hg (fun e'=>by obtain ⟨o,ho,hc⟩:=hrow B e'.symm;rw[show X.heap[B]?=_ from hs]at ho;cases ho;cases hc)
theorem Blk.alloc{W:World}{B:Nat}{cs:Array Value}{t:TypeId}(h:Blk W B cs t)(o:Obj):Blk (W.alloc o) B cs t:=h.kept (World.grownBy_alloc W o none) (by simp)
theorem Blk.u_{W W':World}{B:Nat}{cs:Array Value}{t:TypeId}(h:Blk W B cs t)(hb:Below W.heap.size W W'):Blk W' B cs t:=(hb.block B h.lt).trans h
theorem Blk.not_row{W:World}{B:Nat}{cs:Array Value}{t e:TypeId}(h:Blk W B cs t)(hte:t≠e){base size k:Nat}{v:Value}{xs:List Value}(hr:W.ownsRow base e size v k xs):some B≠v.ownBlock:=by
 rcases hr.2 with ⟨rfl,_⟩|⟨g,cap,cur,rfl,_,hgb,_⟩
 ·simp[Value.ownBlock]
 ·intro e'
  obtain rfl:B=g:=by simpa [Value.ownBlock] using e'
  have:=(show W.heap[B]?=_ from h).symm.trans hgb
  simp at this
  exact hte this.2
theorem Blk.other{W:World}{B:Nat}{cs:Array Value}{t:TypeId}(h:Blk W B cs t){B' q:Nat}(hne:B≠B')(x:Value):Blk (W.setCell ⟨B',q,none⟩ x) B cs t:=h.kept (row:=some B') (grown_of_set W B' q x) (fun e=>hne (Option.some.inj e))
theorem Blk.set{W:World}{B:Nat}{cs:Array Value}{t:TypeId}(h:Blk W B cs t)(q:Nat)(x:Value):Blk (W.setCell ⟨B,q,none⟩ x) B (cs.setIfInBounds q x) t:=by
 have h':W.heap[B]?=some (.cells cs t (0,0)):=h
 obtain ⟨hlt,he⟩:=Array.getElem?_eq_some_iff.1 h'
 show (W.heap.modify B _)[B]?=_
 rw[Array.getElem?_eq_getElem (by simpa using hlt),Array.getElem_modify,if_pos rfl,he]
 rfl
theorem Blk.drew{W:World}{B:Nat}{cs:Array Value}{t:TypeId}(h:Blk W B cs t):Blk W.drew B cs t:=h
end Go.Proofs.Ytniloklglpchfaf
/- What off of package loss comes to: a function that hands on, cell by cell, by how much two matrices are off, to whatever goes through it. -/
namespace Go.Proofs.Ytniloklglpchfaf
open Go.RowKit Go.Shelf
attribute [local go_sem] Oper.semAt_some
set_option maxHeartbeats 400000 in
theorem off_any(r c r' c':Int)(xa ya:Option Addr)(xn xk yn yk:Nat)(w:World):Calls Try.prog 73 #[.agg #[.int .i64 r,.int .i64 c,.slice xa xn xk],.agg #[.int .i64 r',.int .i64 c',.slice ya yn yk]] w fun e w'=>
  e=.returned (.func (.func 78) #[] #[.pointer (some ⟨w.heap.size,0,none⟩),.pointer (some ⟨w.heap.size+1,0,none⟩)])∧w'=(w.alloc (.cells #[.int .i64 r,.int .i64 c,.slice xa xn xk] 28)).alloc (.cells #[.int .i64 r',.int .i64 c',.slice ya yn yk] 28):=by
 go_enter Try.func73,Try.ntmps73
 go_wp2
 go_ret
 exact ⟨rfl,rfl⟩
def KeepB (n B:Nat) (W W':World):Prop:=Below n W W'∧∀cs,Blk W B cs 28→Blk W' B cs 28
theorem KeepB.trans{n B:Nat}{X Y Z:World}(h:KeepB n B X Y)(k:KeepB n B Y Z):KeepB n B X Z:=⟨h.1.trans k.1,fun cs hb=>k.2 cs (h.2 cs hb)⟩
theorem KeepB.put{n B:Nat}{w:World}(hn:n≤w.heap.size)(W:World)(l:Nat)(o o':Obj)(hl:w.heap.size≤l)(h:W.heap[l]?=some o)(hc:o.isCells=false)(hw:o.isWalk=false):KeepB n B W (W.putObj l o'):=
 ⟨belowK_b hn W l o o' hl h hc hw,fun cs hb=>hb.kept (grownBy_putObj' W l o') (fun e=>by cases e;rw[show W.heap[B]?=_ from hb]at h;cases h;cases hc)⟩
set_option maxRecDepth 100000 in
set_option maxHeartbeats 2000000 in
theorem off1_in(n:Nat)(hn:1≤n)(l A B N:Nat)(r' c':Int)(xa ya:Option Addr)(xk yk:Nat)(ma mb:Mx)(w:World)(hsa:I_ w (.slice xa N xk) ma.cells)(hsb:I_ w (.slice ya N yk) mb.cells)(hla:ma.cells.length=N)(hlb:mb.cells.length=N)(hN:N≤576)(J Jx:List Int→World→Prop)
  (hY:∀pre x W,J pre W→pre.length<N→YieldAt Fence.wide (n - 1) Try.prog l #[.int .i64 x] W fun e W'=>(e=.returned (.bool true)∧J (pre++[x]) W'∧KeepB w.heap.size B W W')∨(e=.returned (.bool false)∧Jx (pre++[x]) W'))
  (W:World) (hW:Below w.heap.size w W) (hA:W.cell? ⟨A,2,none⟩=some (.slice xa N xk)) (hB:Blk W B #[.int .i64 r',.int .i64 c',.slice ya N yk] 28) (h0:J [] W):
  CallsIn Fence.wide n Try.prog 78 #[.func (.yield l) #[] #[],.pointer (some ⟨A,0,none⟩),.pointer (some ⟨B,0,none⟩)] W fun e W'=>(∃v,e=.returned v)∧
   ((∃ys,ys=tab N (offAt ma mb)∧J ys W')∨(∃pre,True∧Jx pre W')):=by
 have HSA:=h_ hsa
 have HSB:=h_ hsb
 have HLA:=h_ hla
 have HLB:=h_ hlb
 have HW:=h_ hW
 have HBK:=h_ hB
 have HJ:=h_ h0
 have HY:=h_ hY
 clear hsa hsb hla hlb hW hB h0 hY
 refine callsIn_of_wp Try.func78 rfl trivial ?_ rfl
 simp only[Try.ntmps78,List.size_toArray,List.length_cons,List.length_nil,Nat.reduceAdd,Nat.reduceSub,Array.replicate_succ,Array.replicate_zero,List.push_toArray,List.append_toArray,List.nil_append,List.cons_append]
 gi_wp2
 gi_loopw [9] (fun a wr=>∃(i:Nat) (xi:Int),i≤N∧xi=(i:Int)∧a=.int .i64 xi∧J (tab i (offAt ma mb)) wr∧Below w.heap.size w wr∧Blk wr B #[.int .i64 r',.int .i64 c',.slice ya N yk] 28) (fun a _=>N - (intOf a).toNat)
 case atStart=>exact ⟨0,0,Nat.zero_le _,rfl,rfl,HJ.out,HW.out,HBK.out⟩
 case round=>
  obtain ⟨i,xi,hi,hxi,rfl,hj,hbw,hbk⟩:=hrel
  have HJI:=h_ hj
  have HBW:=h_ hbw
  have HBB:=h_ hbk
  have HXI:=h_ hxi
  have hxi0:0≤xi:=by omega
  have hxi1:xi≤576:=by omega
  have q2:=hbk.cell (j:=2) rfl
  clear hj hbw hbk hxi hA
  by_cases hlt:xi<(N:Int)
  ·have hin:i<N:=by have:=HXI.out;omega
   have hxn:xi.toNat=i:=by have:=HXI.out;omega
   obtain ⟨x,hx⟩:∃z,ma.cells[i]?=some z:=⟨ma.cells[i]'(by have:=HLA.out;omega),List.getElem?_eq_getElem _⟩
   obtain ⟨y,hy0⟩:∃z,mb.cells[i]?=some z:=⟨mb.cells[i]'(by have:=HLB.out;omega),List.getElem?_eq_getElem _⟩
   obtain ⟨a1,c1,es1,_,_,h41⟩:=HSA.out
   obtain ⟨a2,c2,es2,_,_,h42⟩:=HSB.out
   injection es1 with s11 s12 s13
   injection es2 with s21 s22 s23
   clear s12 s13 s22 s23
   obtain ⟨bx,ox,rx,hclx⟩:=h41.resolve_left (fun e=>by rw[e]at hx;simp at hx)
   obtain ⟨by',oy,ry,hcly⟩:=h42.resolve_left (fun e=>by rw[e]at hy0;simp at hy0)
   have sx:=s11.trans rx
   have sy:=s21.trans ry
   clear s11 s21 rx ry h41 h42
   subst sx sy
   have cx:wr.cell? ⟨bx,ox+xi.toNat,none⟩=some (.int .i64 x):=by rw[hxn];exact c_ HBW.out (hclx _ _ hx)
   have cy:wr.cell? ⟨by',oy+xi.toNat,none⟩=some (.int .i64 y):=by rw[hxn];exact c_ HBW.out (hcly _ _ hy0)
   have HD:=h_ (show offAt ma mb i=sb x y by unfold offAt A_;rw[hx,hy0];rfl)
   obtain ⟨fn,tmps,assign,body,hy,hR⟩:=HY.out _ (sb x y) wr HJI.out (by simp[tab];omega)
   have HR:=h_ hR
   clear hclx hx hcly hy0 hxn hR
   gi_wp2_with (refine ⟨trivial,?_⟩;gi_at_call 68;refine (callsIn_wide.2 (sub_any _ _ _)).mono ?_;rintro e w' ⟨rfl,rfl⟩)
   refine HR.out.mono ?_
   rintro e W3 (⟨rfl,hJ3,hk3⟩|⟨rfl,hJx3⟩)
   ·have HJ3:=h_ hJ3
    have HK3:=h_ hk3
    clear hJ3 hk3
    gi_wp2
    go_roundw
    case rel=>exact ⟨i+1,_,by omega,by have:=HXI.out;omega,rfl,by rw[tab_succ,HD.out];exact HJ3.out,HBW.out.trans HK3.out.1,HK3.out.2 _ HBB.out⟩
    case measure=>have:=HXI.out;simp[intOf];omega
   ·have HJX:=h_ hJx3
    clear hJx3
    gi_wp2
    refine bodyPost_ret (results_none rfl _ _ _) rfl ?_
    exact ⟨⟨_,rfl⟩,.inr ⟨_,trivial,HJX.out⟩⟩
  ·have hin:i=N:=by have:=HXI.out;omega
   gi_wp2
   go_end0
   exact ⟨⟨_,rfl⟩,.inl (by rw[←hin];exact HJI.out)⟩
theorem off_stops(n:Nat)(hn:1≤n)(A B N:Nat)(r' c':Int)(xa ya:Option Addr)(xk yk:Nat)(ma mb:Mx)(w V:World)(hsa:I_ w (.slice xa N xk) ma.cells)(hsb:I_ w (.slice ya N yk) mb.cells)(hla:ma.cells.length=N)(hlb:mb.cells.length=N)(hN:N≤576)(hV:Below w.heap.size w V)(hA:V.cell? ⟨A,2,none⟩=some (.slice xa N xk))(hB:Blk V B #[.int .i64 r',.int .i64 c',.slice ya N yk] 28):
  SeqStopsK Fence.wide n Try.prog 78 #[.pointer (some ⟨A,0,none⟩),.pointer (some ⟨B,0,none⟩)] (fun x:Int=>#[Value.int .i64 x]) (KeepB w.heap.size B) (fun ys=>ys=tab N (offAt ma mb)) (fun _=>True) N V:=fun l J Jx W hW _ _ hY h0=>
 off1_in n hn l A B N r' c' xa ya xk yk ma mb w hsa hsb hla hlb hN J Jx hY W (b_ hV hW) (c_ hW hA) (hB.u_ hW) h0
end Go.Proofs.Ytniloklglpchfaf
