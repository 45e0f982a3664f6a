/- What checkBoth of package loss says: what is wrong with two matrices, the first of it. -/
import Derived.Test.YtniloklglpchfakGreatPkLBox
import Derived.Test.YtniloklglpchfakGreatLists
import Derived.RangeFuncNested
import Derived.RangeFuncBound
import Derived.RangeFuncCalls
import Derived.RangeFuncLeaves
import Derived.Maps.AppendAt
import Derived.Shelf.Abstract
import Derived.Shelf.RegionOpen
import Derived.OwnWalkIn
import Derived.TacticsInMore
import Derived.LoopNIn
import Derived.LoopIn
namespace Go.Proofs.YtniloklglpchfakGreat
open Go.RowKit
set_option maxHeartbeats 1600000 in
theorem both_any(va vb:Value)(ma mb:Mx)(w:World)(hva:M_ w va ma)(hvb:M_ w vb mb):Calls Tryz.prog 38 #[va,vb] w fun e w'=>e=.returned (errV (addE ma mb))∧Below w.heap.size w w':=by
 obtain ⟨sa,rfl,hsa⟩:=hva
 obtain ⟨sb',rfl,hsb⟩:=hvb
 obtain ⟨xa,xn,xk,rfl⟩:=hsa.shape
 obtain ⟨ya,yn,yk,rfl⟩:=hsb.shape
 obtain ⟨r,er⟩:=gN (ma.rows)
 obtain ⟨c,ec⟩:=gN (ma.cols)
 obtain ⟨r',er'⟩:=gN (mb.rows)
 obtain ⟨c',ec'⟩:=gN (mb.cols)
 have HA:=h_ (fun W (h:Below w.heap.size w W)=>C_ (.agg #[.int .i64 ma.rows,.int .i64 ma.cols,.slice xa xn xk]) ma W ⟨_,rfl,hsa.u_ h⟩)
 have HB:=h_ (fun W (h:Below w.heap.size w W)=>C_ (.agg #[.int .i64 mb.rows,.int .i64 mb.cols,.slice ya yn yk]) mb W ⟨_,rfl,hsb.u_ h⟩)
 rw[er,ec]at HA
 rw[er',ec']at HB
 have HES:=h_ (fun (h1:q_ ma=0) (h2:q_ mb=0)=>addE_s h1 h2)
 rw[er,ec,er',ec']at HES
 rw[er,ec,er',ec']
 obtain ⟨E,hE⟩:=gN (addE ma mb)
 have HE:=h_ hE
 rw[hE]at HES ⊢
 obtain ⟨V,hV⟩:=gM (((w.alloc (.cells #[.int .i64 r,.int .i64 c,.slice xa xn xk] 28)).alloc (.cells #[.int .i64 r',.int .i64 c',.slice ya yn yk] 28)))
 have HV:=h_ hV
 have HWV:Hid (Below w.heap.size w V):=by rw[hV];exact h_ (b_ (o_ _ _) (o_ _ _))
 have HXA:Hid (Box V w.heap.size [.int .i64 r,.int .i64 c,.slice xa xn xk]):=by rw[hV];exact h_ ((Box.new w [.int .i64 r,.int .i64 c,.slice xa xn xk] 28 rfl).u_ (o_ _ _))
 have HXB:Hid (Box V (w.heap.size+1) [.int .i64 r',.int .i64 c',.slice ya yn yk]):=by rw[hV];exact h_ (Box.new _ [.int .i64 r',.int .i64 c',.slice ya yn yk] 28 (by simp))
 clear hsa hsb er ec er' ec' hV hE
 obtain ⟨d0,d1,d2⟩:=HXA.out.c3
 rw[HV.out]at d0 d1 d2
 go_enter Tryz.func38,Tryz.ntmps38
 go_wp2_with fail
 rw[←HV.out]
 refine (HA.out _ HWV.out).mono ?_
 rintro e w1 ⟨rfl,hb1⟩
 have HB1:=h_ hb1
 clear hb1 d0 d1 d2 HA
 by_cases ha:q_ ma=0
 ·rw[e_ ha]
  obtain ⟨y0,y1,y2⟩:=(HXB.out.u_ HB1.out).c3
  have HFA:=h_ ha
  clear ha
  go_wp2_with fail
  refine (HB.out _ (b_ HWV.out HB1.out)).mono ?_
  rintro e w2 ⟨rfl,hb2⟩
  have HB2:=h_ (b_ HB1.out hb2)
  clear hb2 y0 y1 y2 HB
  by_cases hb:q_ mb=0
  ·rw[e_ hb]
   have hes:=HES.out HFA.out hb
   obtain ⟨d0,d1⟩:=(HXA.out.u_ HB2.out).c2
   obtain ⟨y0,y1⟩:=(HXB.out.u_ HB2.out).c2
   clear hb
   by_cases hr:r=r'
   ·by_cases hc:c=c'
    ·have hE0:E=0:=by rw[hes,if_neg (by simp[hr,hc])]
     subst hr hc hE0
     clear hes
     go_wp2
     go_ret
     exact ⟨rfl,b_ HWV.out HB2.out⟩
    ·have hE0:E=2:=by rw[hes,if_pos (.inr hc)]
     have hc1:(c !=c')=true:=by simp[hc]
     subst hr hE0
     clear hes hc
     go_wp2
     go_ret
     exact ⟨rfl,b_ HWV.out HB2.out⟩
   ·have hE0:E=2:=by rw[hes,if_pos (.inl hr)]
    have hr1:(r !=r')=true:=by simp[hr]
    subst hE0
    clear hes hr
    go_wp2
    go_ret
    exact ⟨rfl,b_ HWV.out HB2.out⟩
  ·have hE0:q_ mb=E:=by rw[←HE.out,addE_b HFA.out hb]
   rw[n_ hb]
   have HN:=h_ (err_of hE0 hb)
   clear hb hE0
   go_wp2
   go_ret
   exact ⟨R_ HN.out,b_ HWV.out HB2.out⟩
 ·have hE0:q_ ma=E:=by rw[←HE.out,addE_a ha]
  rw[n_ ha]
  have HN:=h_ (err_of hE0 ha)
  clear ha hE0
  go_wp2
  go_ret
  exact ⟨R_ HN.out,b_ HWV.out HB1.out⟩
def Blk (W:World) (B:Nat) (cs:Array Value) (t:TypeId):Prop:=W.heap[B]?=some (.cells cs t (0,0))
theorem Blk.cell{W:World}{B:Nat}{cs:Array Value}{t:TypeId}(h:Blk W B cs t){j:Nat}{x:Value}(hx:cs[j]?=some x):W.cell? ⟨B,j,none⟩=some x:=by simp[World.cell?,show W.heap[B]?=_ from h,hx]
theorem Blk.frozen{W:World}{B:Nat}{cs:Array Value}{t:TypeId}(h:Blk W B cs t)(j:Nat):W.frozen? ⟨B,j,none⟩=false:=by simp[World.frozen?,show W.heap[B]?=_ from h]
theorem Blk.new(W:World)(cs:Array Value)(t:TypeId){B:Nat}(hB:W.heap.size=B):Blk (W.alloc (.cells cs t)) B cs t:=by subst hB;exact World.alloc_heap_new W _
theorem Blk.lt{W:World}{B:Nat}{cs:Array Value}{t:TypeId}(h:Blk W B cs t):B<W.heap.size:=(Array.getElem?_eq_some_iff.1 h).1
theorem Blk.kept{W W':World}{row:Option Nat}{B:Nat}{cs:Array Value}{t:TypeId}(h:Blk W B cs t)(hg:W.grownBy W' row)(hne:some B≠row):Blk W' B cs t:=(hg.block B h.lt hne).trans h
theorem Blk.own{β:Type}(B:Nat)(cs:Array Value)(t:TypeId):Go.Own (fun (_:β) W=>Blk W B cs t):=fun s X Y row hs hg hrow=>
 hs.kept hg (fun e'=>by obtain ⟨o,ho,hc⟩:=hrow B e'.symm;rw[show X.heap[B]?=_ from hs]at ho;cases ho;cases hc)
theorem Blk.alloc{W:World}{B:Nat}{cs:Array Value}{t:TypeId}(h:Blk W B cs t)(o:Obj):Blk (W.alloc o) B cs t:=h.kept (World.grownBy_alloc W o none) (by simp)
theorem Blk.u_{W W':World}{B:Nat}{cs:Array Value}{t:TypeId}(h:Blk W B cs t)(hb:Below W.heap.size W W'):Blk W' B cs t:=(hb.block B h.lt).trans h
theorem Blk.not_row{W:World}{B:Nat}{cs:Array Value}{t e:TypeId}(h:Blk W B cs t)(hte:t≠e){base size k:Nat}{v:Value}{xs:List Value}(hr:W.ownsRow base e size v k xs):some B≠v.ownBlock:=by
 rcases hr.2 with ⟨rfl,_⟩|⟨g,cap,cur,rfl,_,hgb,_⟩
 ·simp[Value.ownBlock]
 ·intro e'
  obtain rfl:B=g:=by simpa [Value.ownBlock] using e'
  have:=(show W.heap[B]?=_ from h).symm.trans hgb
  simp at this
  exact hte this.2
theorem Blk.other{W:World}{B:Nat}{cs:Array Value}{t:TypeId}(h:Blk W B cs t){B' q:Nat}(hne:B≠B')(x:Value):Blk (W.setCell ⟨B',q,none⟩ x) B cs t:=h.kept (row:=some B') (grown_of_set W B' q x) (fun e=>hne (Option.some.inj e))
theorem Blk.set{W:World}{B:Nat}{cs:Array Value}{t:TypeId}(h:Blk W B cs t)(q:Nat)(x:Value):Blk (W.setCell ⟨B,q,none⟩ x) B (cs.setIfInBounds q x) t:=by
 have h':W.heap[B]?=some (.cells cs t (0,0)):=h
 obtain ⟨hlt,he⟩:=Array.getElem?_eq_some_iff.1 h'
 show (W.heap.modify B _)[B]?=_
 rw[Array.getElem?_eq_getElem (by simpa using hlt),Array.getElem_modify,if_pos rfl,he]
 rfl
theorem Blk.drew{W:World}{B:Nat}{cs:Array Value}{t:TypeId}(h:Blk W B cs t):Blk W.drew B cs t:=h
end Go.Proofs.YtniloklglpchfakGreat
/- What off of package loss comes to: a function that hands on, cell by cell, by how much two matrices are off, to whatever goes through it. -/
namespace Go.Proofs.YtniloklglpchfakGreat
open Go.RowKit Go.Shelf
attribute [local go_sem] Oper.semAt_some
set_option maxHeartbeats 400000 in
theorem off_any(r c r' c':Int)(xa ya:Option Addr)(xn xk yn yk:Nat)(w:World):Calls Tryz.prog 39 #[.agg #[.int .i64 r,.int .i64 c,.slice xa xn xk],.agg #[.int .i64 r',.int .i64 c',.slice ya yn yk]] w fun e w'=>
  e=.returned (.func (.func 72) #[] #[.pointer (some ⟨w.heap.size,0,none⟩),.pointer (some ⟨w.heap.size+1,0,none⟩)])∧w'=(w.alloc (.cells #[.int .i64 r,.int .i64 c,.slice xa xn xk] 28)).alloc (.cells #[.int .i64 r',.int .i64 c',.slice ya yn yk] 28):=by
 go_enter Tryz.func39,Tryz.ntmps39
 go_wp2
 go_ret
 exact ⟨rfl,rfl⟩
def KeepB (n B:Nat) (W W':World):Prop:=Below n W W'∧∀cs,Blk W B cs 28→Blk W' B cs 28
theorem KeepB.trans{n B:Nat}{X Y Z:World}(h:KeepB n B X Y)(k:KeepB n B Y Z):KeepB n B X Z:=⟨h.1.trans k.1,fun cs hb=>k.2 cs (h.2 cs hb)⟩
theorem KeepB.put{n B:Nat}{w:World}(hn:n≤w.heap.size)(W:World)(l:Nat)(o o':Obj)(hl:w.heap.size≤l)(h:W.heap[l]?=some o)(hc:o.isCells=false)(hw:o.isWalk=false):KeepB n B W (W.putObj l o'):=
 ⟨belowK_b hn W l o o' hl h hc hw,fun cs hb=>hb.kept (grownBy_putObj' W l o') (fun e=>by cases e;rw[show W.heap[B]?=_ from hb]at h;cases h;cases hc)⟩
set_option maxRecDepth 100000 in
set_option maxHeartbeats 2000000 in
theorem off1_in(n:Nat)(hn:1≤n)(l A B N:Nat)(r' c':Int)(xa ya:Option Addr)(xk yk:Nat)(ma mb:Mx)(w:World)(hsa:I_ w (.slice xa N xk) ma.cells)(hsb:I_ w (.slice ya N yk) mb.cells)(hla:ma.cells.length=N)(hlb:mb.cells.length=N)(hN:N≤576)(J Jx:List Int→World→Prop)
  (hY:∀pre x W,J pre W→pre.length<N→YieldAt Fence.wide (n - 1) Tryz.prog l #[.int .i64 x] W fun e W'=>(e=.returned (.bool true)∧J (pre++[x]) W'∧KeepB w.heap.size B W W')∨(e=.returned (.bool false)∧Jx (pre++[x]) W'))
  (W:World) (hW:Below w.heap.size w W) (hA:W.cell? ⟨A,2,none⟩=some (.slice xa N xk)) (hB:Blk W B #[.int .i64 r',.int .i64 c',.slice ya N yk] 28) (h0:J [] W):
  CallsIn Fence.wide n Tryz.prog 72 #[.func (.yield l) #[] #[],.pointer (some ⟨A,0,none⟩),.pointer (some ⟨B,0,none⟩)] W fun e W'=>(∃v,e=.returned v)∧
   ((∃ys,ys=tab N (offAt ma mb)∧J ys W')∨(∃pre,True∧Jx pre W')):=by
 have HSA:=h_ hsa
 have HSB:=h_ hsb
 have HLA:=h_ hla
 have HLB:=h_ hlb
 have HW:=h_ hW
 have HBK:=h_ hB
 have HJ:=h_ h0
 have HY:=h_ hY
 clear hsa hsb hla hlb hW hB h0 hY
 refine callsIn_of_wp Tryz.func72 rfl trivial ?_ rfl
 simp only[Tryz.ntmps72,List.size_toArray,List.length_cons,List.length_nil,Nat.reduceAdd,Nat.reduceSub,Array.replicate_succ,Array.replicate_zero,List.push_toArray,List.append_toArray,List.nil_append,List.cons_append]
 gi_wp2
 gi_loopw [9] (fun a wr=>∃(i:Nat) (xi:Int),i≤N∧xi=(i:Int)∧a=.int .i64 xi∧J (tab i (offAt ma mb)) wr∧Below w.heap.size w wr∧Blk wr B #[.int .i64 r',.int .i64 c',.slice ya N yk] 28) (fun a _=>N - (intOf a).toNat)
 case atStart=>exact ⟨0,0,Nat.zero_le _,rfl,rfl,HJ.out,HW.out,HBK.out⟩
 case round=>
  obtain ⟨i,xi,hi,hxi,rfl,hj,hbw,hbk⟩:=hrel
  have HJI:=h_ hj
  have HBW:=h_ hbw
  have HBB:=h_ hbk
  have HXI:=h_ hxi
  have hxi0:0≤xi:=by omega
  have hxi1:xi≤576:=by omega
  have q2:=hbk.cell (j:=2) rfl
  clear hj hbw hbk hxi hA
  by_cases hlt:xi<(N:Int)
  ·have hin:i<N:=by have:=HXI.out;omega
   have hxn:xi.toNat=i:=by have:=HXI.out;omega
   obtain ⟨x,hx⟩:∃z,ma.cells[i]?=some z:=⟨ma.cells[i]'(by have:=HLA.out;omega),List.getElem?_eq_getElem _⟩
   obtain ⟨y,hy0⟩:∃z,mb.cells[i]?=some z:=⟨mb.cells[i]'(by have:=HLB.out;omega),List.getElem?_eq_getElem _⟩
   obtain ⟨a1,c1,es1,_,_,h41⟩:=HSA.out
   obtain ⟨a2,c2,es2,_,_,h42⟩:=HSB.out
   injection es1 with s11 s12 s13
   injection es2 with s21 s22 s23
   clear s12 s13 s22 s23
   obtain ⟨bx,ox,rx,hclx⟩:=h41.resolve_left (fun e=>by rw[e]at hx;simp at hx)
   obtain ⟨by',oy,ry,hcly⟩:=h42.resolve_left (fun e=>by rw[e]at hy0;simp at hy0)
   have sx:=s11.trans rx
   have sy:=s21.trans ry
   clear s11 s21 rx ry h41 h42
   subst sx sy
   have cx:wr.cell? ⟨bx,ox+xi.toNat,none⟩=some (.int .i64 x):=by rw[hxn];exact c_ HBW.out (hclx _ _ hx)
   have cy:wr.cell? ⟨by',oy+xi.toNat,none⟩=some (.int .i64 y):=by rw[hxn];exact c_ HBW.out (hcly _ _ hy0)
   have HD:=h_ (show offAt ma mb i=sb x y by unfold offAt A_;rw[hx,hy0];rfl)
   obtain ⟨fn,tmps,assign,body,hy,hR⟩:=HY.out _ (sb x y) wr HJI.out (by simp[tab];omega)
   have HR:=h_ hR
   clear hclx hx hcly hy0 hxn hR
   gi_wp2_with (refine ⟨trivial,?_⟩;gi_at_call 73;refine (callsIn_wide.2 (sub_any _ _ _)).mono ?_;rintro e w' ⟨rfl,rfl⟩)
   refine HR.out.mono ?_
   rintro e W3 (⟨rfl,hJ3,hk3⟩|⟨rfl,hJx3⟩)
   ·have HJ3:=h_ hJ3
    have HK3:=h_ hk3
    clear hJ3 hk3
    gi_wp2
    go_roundw
    case rel=>exact ⟨i+1,_,by omega,by have:=HXI.out;omega,rfl,by rw[tab_succ,HD.out];exact HJ3.out,HBW.out.trans HK3.out.1,HK3.out.2 _ HBB.out⟩
    case measure=>have:=HXI.out;simp[intOf];omega
   ·have HJX:=h_ hJx3
    clear hJx3
    gi_wp2
    refine bodyPost_ret (results_none rfl _ _ _) rfl ?_
    exact ⟨⟨_,rfl⟩,.inr ⟨_,trivial,HJX.out⟩⟩
  ·have hin:i=N:=by have:=HXI.out;omega
   gi_wp2
   go_end0
   exact ⟨⟨_,rfl⟩,.inl (by rw[←hin];exact HJI.out)⟩
theorem off_stops(n:Nat)(hn:1≤n)(A B N:Nat)(r' c':Int)(xa ya:Option Addr)(xk yk:Nat)(ma mb:Mx)(w V:World)(hsa:I_ w (.slice xa N xk) ma.cells)(hsb:I_ w (.slice ya N yk) mb.cells)(hla:ma.cells.length=N)(hlb:mb.cells.length=N)(hN:N≤576)(hV:Below w.heap.size w V)(hA:V.cell? ⟨A,2,none⟩=some (.slice xa N xk))(hB:Blk V B #[.int .i64 r',.int .i64 c',.slice ya N yk] 28):
  SeqStopsK Fence.wide n Tryz.prog 72 #[.pointer (some ⟨A,0,none⟩),.pointer (some ⟨B,0,none⟩)] (fun x:Int=>#[Value.int .i64 x]) (KeepB w.heap.size B) (fun ys=>ys=tab N (offAt ma mb)) (fun _=>True) N V:=fun l J Jx W hW _ _ hY h0=>
 off1_in n hn l A B N r' c' xa ya xk yk ma mb w hsa hsb hla hlb hN J Jx hY W (b_ hV hW) (c_ hW hA) (hB.u_ hW) h0
attribute [local go_sem] Oper.semAt_some
def sumL (zs:List Int):Int:=zs.foldl (fun s d=>ad s (ml d d)) 0
theorem sumL_snoc(zs:List Int)(d:Int):sumL (zs++[d])=ad (sumL zs) (ml d d):=by simp[sumL]
theorem sumL_tab(a b:Mx):∀n,sumL (tab n (offAt a b))=lossS a b n
 |0=>rfl
 |n+1=>by rw[tab_succ,sumL_snoc,sumL_tab a b n];rfl
set_option maxRecDepth 100000 in
set_option maxHeartbeats 2000000 in
theorem lof_good(xa ya:Option Addr)(N xk yk:Nat)(ma mb:Mx)(w:World)(hsa:I_ w (.slice xa N xk) ma.cells)(hsb:I_ w (.slice ya N yk) mb.cells)(hla:ma.cells.length=N)(hlb:mb.cells.length=N)(hN:N≤576)(hE:addE ma mb=0):
  Calls Tryz.prog 15 #[.agg #[.int .i64 ma.rows,.int .i64 ma.cols,.slice xa N xk],.agg #[.int .i64 mb.rows,.int .i64 mb.cols,.slice ya N yk]] w fun e w'=>e=.returned (.tuple #[.int .i64 (ml (lossS ma mb N) 128),.nilIface])∧Below w.heap.size w w':=by
 obtain ⟨V,hV⟩:=gM (((w.alloc (.cells #[.int .i64 ma.rows,.int .i64 ma.cols,.slice xa N xk] 28)).alloc (.cells #[.int .i64 mb.rows,.int .i64 mb.cols,.slice ya N yk] 28)))
 have HWV:Hid (Below w.heap.size w V):=by rw[hV];exact h_ (b_ (o_ _ _) (o_ _ _))
 have HVS:Hid (V.heap.size=w.heap.size+1+1):=by rw[hV];exact h_ (by simp)
 have HXA:Hid (Box V w.heap.size [.int .i64 ma.rows,.int .i64 ma.cols,.slice xa N xk]):=by rw[hV];exact h_ ((Box.new w [.int .i64 ma.rows,.int .i64 ma.cols,.slice xa N xk] 28 rfl).u_ (o_ _ _))
 have HXB:Hid (Box V (w.heap.size+1) [.int .i64 mb.rows,.int .i64 mb.cols,.slice ya N yk]):=by rw[hV];exact h_ (Box.new _ [.int .i64 mb.rows,.int .i64 mb.cols,.slice ya N yk] 28 (by simp))
 have hck:=both_any (.agg #[.int .i64 ma.rows,.int .i64 ma.cols,.slice xa N xk]) (.agg #[.int .i64 mb.rows,.int .i64 mb.cols,.slice ya N yk]) ma mb V ⟨_,rfl,hsa.u_ HWV.out⟩ ⟨_,rfl,hsb.u_ HWV.out⟩
 rw[hE,e_ rfl]at hck
 have HCK:=h_ hck
 have HSA:=h_ hsa
 have HSB:=h_ hsb
 have HV:=h_ hV
 have HL:=h_ (And.intro hla hlb)
 obtain ⟨r,er⟩:=gN (ma.rows)
 obtain ⟨c,ec⟩:=gN (ma.cols)
 obtain ⟨r',er'⟩:=gN (mb.rows)
 obtain ⟨c',ec'⟩:=gN (mb.cols)
 rw[er,ec]at HXA
 rw[er',ec']at HXB
 rw[er,ec,er',ec']at HCK HV ⊢
 obtain ⟨d0,d1,d2⟩:=HXA.out.c3
 obtain ⟨y0,y1,y2⟩:=HXB.out.c3
 rw[HV.out]at d0 d1 d2 y0 y1 y2
 obtain ⟨t,ht⟩:=gN (lossS ma mb N)
 have HT:=h_ ht
 rw[ht]
 clear hck hsa hsb hla hlb hE hV er ec er' ec' ht
 refine (callsIn_wide (n:=3)).1 ?_
 refine callsIn_of_wp_marks Tryz.func15 rfl trivial ?_ rfl
 simp only[Tryz.ntmps15,List.size_toArray,List.length_cons,List.length_nil,Nat.reduceAdd,Nat.reduceSub,Array.replicate_succ,Array.replicate_zero,List.push_toArray,List.append_toArray,List.nil_append,List.cons_append]
 gi_wp2_with fail
 refine ⟨trivial,?_⟩
 gi_at_call 38
 rw[←HV.out]
 refine (callsIn_wide.2 HCK.out).mono ?_
 rintro e w1 ⟨rfl,hb1⟩
 clear d0 d1 d2 y0 y1 y2 HCK
 have d0:=p_ ((HXA.out.u_ hb1) 0 _ rfl) (.cells #[.int .i64 0] 3)
 have d1:=p_ ((HXA.out.u_ hb1) 1 _ rfl) (.cells #[.int .i64 0] 3)
 have d2:=p_ ((HXA.out.u_ hb1) 2 _ rfl) (.cells #[.int .i64 0] 3)
 have y0:=p_ ((HXB.out.u_ hb1) 0 _ rfl) (.cells #[.int .i64 0] 3)
 have y1:=p_ ((HXB.out.u_ hb1) 1 _ rfl) (.cells #[.int .i64 0] 3)
 have y2:=p_ ((HXB.out.u_ hb1) 2 _ rfl) (.cells #[.int .i64 0] 3)
 have HB1:=h_ hb1
 clear hb1
 gi_wp2_with (refine ⟨trivial,?_⟩;gi_at_call 39;refine (callsIn_wide.2 (off_any _ _ _ _ _ _ _ _ _ _ _)).mono ?_;rintro e w2 ⟨rfl,rfl⟩)
 obtain ⟨S,hS⟩:=gN (w1.heap.size)
 obtain ⟨Z,hZ⟩:=gM (((w1.alloc (.cells #[.int .i64 0] 3)).alloc (.cells #[.int .i64 r,.int .i64 c,.slice xa N xk] 28)).alloc (.cells #[.int .i64 r',.int .i64 c',.slice ya N yk] 28))
 have HWS:Hid (w.heap.size+1+1≤S):=h_ (by have:=HB1.out.size;have:=HVS.out;omega)
 have HWZ:Hid (Below w.heap.size w Z):=by rw[hZ];exact h_ (b_ (b_ (b_ (b_ HWV.out HB1.out) (o_ _ _)) (o_ _ _)) (o_ _ _))
 have HZS:Hid (Z.heap.size=S+1+1+1):=by rw[hZ];exact h_ (by simp[hS])
 have HZA:Hid (Z.cell? ⟨S+1,2,none⟩=some (.slice xa N xk)):=by rw[hZ];exact h_ (p_ (box_new _ _ _ (by simp[hS]) rfl) _)
 have HZB:Hid (Blk Z (S+1+1) #[.int .i64 r',.int .i64 c',.slice ya N yk] 28):=by rw[hZ];exact h_ (Blk.new _ _ _ (by simp[hS]))
 have HZ0:Hid (Boxed Z S 3 (.int .i64 (sumL []))):=by rw[hZ,←hS];exact h_ (((Boxed.new w1 3 (.int .i64 0)).alloc _).alloc _)
 rw[←hZ,hS]
 clear d0 d1 d2 y0 y1 y2 HB1 hZ hS HV HXA HXB HWV HVS
 refine wpIn_rangeFunc_ownG rfl (by omega) (gf:=72) (lb:=#[.pointer (some ⟨S+1,0,none⟩),.pointer (some ⟨S+1+1,0,none⟩)]) rfl trivial (enters_of Tryz.func72 (by kernel_rfl) rfl)
  (off_stops _ (by omega) (S+1) (S+1+1) N r' c' xa ya xk yk ma mb w Z HSA.out HSB.out HL.out.1 HL.out.2 hN HWZ.out HZA.out HZB.out) KeepB.trans (KeepB.put HWZ.out.size) (Below.refl _ _) (fun _=>rfl)
  (fun pre W=>Boxed W S 3 (.int .i64 (sumL pre))∧Below w.heap.size w W)
  (fun _ _ _=>False)
  (OwnFrom.and (Own.from (boxed_own S 3 (fun pre=>.int .i64 (sumL pre))) _) (ownFrom_below (Nat.le_refl _) HWZ.out.size))
  (fun _ _ _ _ _ hs _ _=>hs)
  ⟨HZ0.out,HWZ.out⟩
  (fun x=>{ tmps:=#[.agg #[.int .i64 r,.int .i64 c,.slice xa N xk],.agg #[.int .i64 r',.int .i64 c',.slice ya N yk],.pointer (some ⟨w.heap.size,0,none⟩),.pointer (some ⟨w.heap.size+1,0,none⟩),.int .i64 0,.nilIface,.nilIface,.pointer (some ⟨S,0,none⟩),.int .i64 x,
   .agg #[.int .i64 r,.int .i64 c,.slice xa N xk],.agg #[.int .i64 r',.int .i64 c',.slice ya N yk],.nilIface,.nilIface,.bool false,undef,.agg #[.int .i64 r,.int .i64 c,.slice xa N xk],.agg #[.int .i64 r',.int .i64 c',.slice ya N yk],
   .func (.func 72) #[] #[.pointer (some ⟨S+1,0,none⟩),.pointer (some ⟨S+1+1,0,none⟩)],.int .i64 x,undef,undef,undef,undef,undef,undef,undef],defers:=[] }) ?assign ?body ?done ?stop
 case assign=>
  intro l x W K hK
  gi_wp2
  exact hK
 case body=>
  rintro l pre x W ⟨hbx,hB⟩ _
  have hc:=hbx.cell
  have hf:=hbx.frozen
  obtain ⟨s,hs⟩:=gN (sumL pre)
  rw[hs]at hc
  have HBX:=h_ hbx
  have HBB:=h_ hB
  have HS:=h_ hs
  have hmx:Tryz.prog.follows .mixedOrders=true:=by kernel_rfl
  clear hbx hB hs
  gi_wp2
  gi_region_with_o (first
   |(refine ⟨trivial,?_⟩;gi_at_call 41;refine (CallsIn.inRound l (callsIn_wide.2 (mul_any _ _ _))).mono ?_;rintro e w' ⟨rfl,rfl⟩)
   |(refine ⟨trivial,?_⟩;gi_at_call 40;refine (CallsIn.inRound l (callsIn_wide.2 (add_any _ _ _))).mono ?_;rintro e w' ⟨rfl,rfl⟩))
  all_goals gi_wp2
  all_goals (try go_bits)
  all_goals
   refine ⟨((KeepsOthers.setCell _ _ _).trans (KeepsOthers.drew _)).from _,⟨r_ ((Below.refl _ W).setCell (p:=⟨S,0,none⟩) (by have:=HWS.out;simp;omega) _),fun cs hb=>?_⟩,?_,r_ (HBB.out.setCell (p:=⟨S,0,none⟩) (by have:=HWS.out;simp;omega) _)⟩
   ·exact hb.kept (row:=some S) (grown_drew (grownBy_setCell' W S _)) (fun e=>by injection e with e;omega)
   ·rw[sumL_snoc,HS.out];exact HBX.out.set _
 case done=>
  rintro D ys W hD rfl ⟨hbx,hB⟩ hK
  have hc:=hbx.cell
  rw[sumL_tab,HT.out]at hc
  have HB:=h_ hB
  have HK:=h_ hK
  clear hB hbx hK
  gi_wp2_with (refine ⟨trivial,?_⟩;gi_at_call 41;refine (callsIn_wide.2 (mul_any _ _ _)).mono ?_;rintro e w' ⟨rfl,rfl⟩)
  refine ⟨by simp,.inl ⟨_,_,rfl,run_takeDeferred HK.out,?_⟩⟩
  refine ⟨.tuple #[.int .i64 (ml t 128),.nilIface],by simp[results,Tryz.results15,go_sem],rfl,?_⟩
  exact HB.out.trans (belowK_b (w:=w) (Nat.le_refl _) _ D _ _ (by have:=HWZ.out.size;omega) HK.out rfl rfl)
 case stop=>
  rintro D c pre W _ _ h _
  exact h.elim
set_option maxRecDepth 100000 in
set_option maxHeartbeats 2000000 in
theorem lof_bad(xa ya:Option Addr)(xn xk yn yk:Nat)(ma mb:Mx)(w:World)(hsa:I_ w (.slice xa xn xk) ma.cells)(hsb:I_ w (.slice ya yn yk) mb.cells)(hE:¬addE ma mb=0):
  Calls Tryz.prog 15 #[.agg #[.int .i64 ma.rows,.int .i64 ma.cols,.slice xa xn xk],.agg #[.int .i64 mb.rows,.int .i64 mb.cols,.slice ya yn yk]] w fun e w'=>e=.returned (.tuple #[.int .i64 0,errV (addE ma mb)])∧Below w.heap.size w w':=by
 obtain ⟨V,hV⟩:=gM (((w.alloc (.cells #[.int .i64 ma.rows,.int .i64 ma.cols,.slice xa xn xk] 28)).alloc (.cells #[.int .i64 mb.rows,.int .i64 mb.cols,.slice ya yn yk] 28)))
 have HWV:Hid (Below w.heap.size w V):=by rw[hV];exact h_ (b_ (o_ _ _) (o_ _ _))
 have HXA:Hid (Box V w.heap.size [.int .i64 ma.rows,.int .i64 ma.cols,.slice xa xn xk]):=by rw[hV];exact h_ ((Box.new w [.int .i64 ma.rows,.int .i64 ma.cols,.slice xa xn xk] 28 rfl).u_ (o_ _ _))
 have HXB:Hid (Box V (w.heap.size+1) [.int .i64 mb.rows,.int .i64 mb.cols,.slice ya yn yk]):=by rw[hV];exact h_ (Box.new _ [.int .i64 mb.rows,.int .i64 mb.cols,.slice ya yn yk] 28 (by simp))
 have hck:=both_any (.agg #[.int .i64 ma.rows,.int .i64 ma.cols,.slice xa xn xk]) (.agg #[.int .i64 mb.rows,.int .i64 mb.cols,.slice ya yn yk]) ma mb V ⟨_,rfl,hsa.u_ HWV.out⟩ ⟨_,rfl,hsb.u_ HWV.out⟩
 rw[n_ hE]at hck ⊢
 have HCK:=h_ hck
 have HV:=h_ hV
 obtain ⟨r,er⟩:=gN (ma.rows)
 obtain ⟨c,ec⟩:=gN (ma.cols)
 obtain ⟨r',er'⟩:=gN (mb.rows)
 obtain ⟨c',ec'⟩:=gN (mb.cols)
 obtain ⟨E,hE'⟩:=gN (addE ma mb)
 rw[er,ec]at HXA
 rw[er',ec']at HXB
 rw[er,ec,er',ec']at HCK HV ⊢
 rw[hE']at HCK ⊢
 obtain ⟨d0,d1,d2⟩:=HXA.out.c3
 obtain ⟨y0,y1,y2⟩:=HXB.out.c3
 rw[HV.out]at d0 d1 d2 y0 y1 y2
 clear hck hsa hsb hE hE' hV er ec er' ec'
 go_enter Tryz.func15,Tryz.ntmps15
 go_wp2_with fail
 rw[←HV.out]
 refine HCK.out.mono ?_
 rintro e w1 ⟨rfl,hb1⟩
 have HB1:=h_ (b_ HWV.out hb1)
 clear d0 d1 d2 y0 y1 y2 HCK hb1
 go_wp2
 exact bodyPost_ret (v:=.tuple #[.int .i64 0,.iface 94 (.int .i64 E)]) (by simp[results,Tryz.results15,go_sem]) rfl ⟨rfl,HB1.out⟩
theorem lof_any(va vb:Value)(ma mb:Mx)(w:World)(hva:M_ w va ma)(hvb:M_ w vb mb):Calls Tryz.prog 15 #[va,vb] w fun e w'=>e=.returned (.tuple #[.int .i64 (lossX ma mb),errV (addE ma mb)])∧Below w.heap.size w w':=by
 obtain ⟨sa,rfl,hsa⟩:=hva
 obtain ⟨sb',rfl,hsb⟩:=hvb
 by_cases hE:addE ma mb=0
 ·obtain ⟨R,C,ga,gb⟩:=addE_good hE
  obtain ⟨xa,xk,rfl,_,_,_⟩:=id hsa
  obtain ⟨ya,yk,rfl,_,_,_⟩:=id hsb
  have hla:=ga.l
  have hlb:=gb.l
  rw[hla]at hsa ⊢
  rw[hlb]at hsb ⊢
  have h:=lof_good xa ya (R*C) xk yk ma mb w hsa hsb hla hlb (by have:=Nat.mul_le_mul ga.hR ga.hC;omega) hE
  rw[show lossX ma mb=ml (lossS ma mb (R*C)) 128 by unfold lossX;rw[if_pos hE,hla],hE,e_ rfl]
  exact h
 ·obtain ⟨xa,xn,xk,rfl⟩:=hsa.shape
  obtain ⟨ya,yn,yk,rfl⟩:=hsb.shape
  rw[show lossX ma mb=0 by unfold lossX;rw[if_neg hE]]
  exact lof_bad xa ya xn xk yn yk ma mb w hsa hsb hE
end Go.Proofs.YtniloklglpchfakGreat
