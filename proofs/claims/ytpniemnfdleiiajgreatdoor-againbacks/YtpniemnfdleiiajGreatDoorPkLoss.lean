/- How far a matrix is off another one, as plain numbers: never below 0, 0 at itself, the other way round as far. No program in sight. -/
import Derived.Test.YtpniemnfdleiiajGreatDoorPkLyGood
import Derived.Test.YtpniemnfdleiiajGreatDoorPkLBox
import Derived.RangeFuncNested
import Derived.RangeFuncBound
import Derived.RangeFuncCalls
import Derived.RangeFuncLeaves
import Derived.Shelf.Abstract
import Derived.Shelf.RegionOpen
import Derived.OwnWalkIn
import Derived.TacticsInMore
import Derived.LoopNIn
import Derived.LoopIn
import Derived.Maps.AppendAt
namespace Go.Proofs.YtpniemnfdleiiajGreatDoor
def offAt (a b:Mx) (q:Nat):Int:=sb (A_ a q) (A_ b q)
def lossS (a b:Mx):Nat→Int
 |0=>0
 |n+1=>ad (lossS a b n) (ml (offAt a b n) (offAt a b n))
def offX (a b:Mx):Mx:=if addE a b=0 then ⟨a.rows,a.cols,tab a.cells.length (offAt a b)⟩ else noMx
def lossX (a b:Mx):Int:=if addE a b=0 then ml (lossS a b a.cells.length) 128 else 0
theorem ml_sq(d:Int):0≤ml d d:=by
 have h:0≤cl d*cl d:=by
  rcases Int.le_total 0 (cl d) with h|h
  ·exact Int.mul_nonneg h h
  ·rw[←Int.neg_mul_neg];exact Int.mul_nonneg (by omega) (by omega)
 have h2:0≤cl d*cl d / 256:=Int.ediv_nonneg h (by omega)
 have:=cl_mono _ _ h2
 rw[cl_in 0 (by omega) (by omega)]at this
 exact this
theorem ad_pos(a b:Int)(ha:0≤a)(hb:0≤b):0≤ad a b:=by
 have h1:=cl_mono _ _ ha
 have h2:=cl_mono _ _ hb
 rw[cl_in 0 (by omega) (by omega)]at h1 h2
 have h3:=cl_mono 0 (cl a+cl b) (by omega)
 rw[cl_in 0 (by omega) (by omega)]at h3
 exact h3
theorem lossS_bd(a b:Mx):∀n,0≤lossS a b n∧lossS a b n≤2147483647
 |0=>⟨Int.le_refl _,show (0:Int)≤2147483647 by decide⟩
 |n+1=>⟨ad_pos _ _ (lossS_bd a b n).1 (ml_sq _),(ad_bd _ _).2⟩
theorem half_ml{s:Int}(h0:0≤s)(h1:s≤2147483647):ml s 128=s / 2:=by
 unfold ml
 rw[cl_in s (by omega) h1,cl_in 128 (by omega) (by omega),show s*128 / 256=s / 2 by omega]
 exact cl_in _ (by omega) (by omega)
theorem half_t{s:Int}(h0:0≤s)(h1:s≤2147483647):s.tdiv 2=ml s 128:=by rw[half_ml h0 h1];exact Int.tdiv_eq_ediv_of_nonneg h0
theorem half_wrap{s:Int}(h0:0≤s)(h1:s≤2147483647):Go.RowKit.wrap64 (s.tdiv 2)=s.tdiv 2:=by
 rw[Int.tdiv_eq_ediv_of_nonneg h0];unfold Go.RowKit.wrap64;omega
theorem addE_a{a b:Mx}(h:q_ a≠0):addE a b=q_ a:=by
 have e:faults [a,b]=q_ a:=by unfold faults;rw[if_neg h]
 unfold addE;rw[if_pos (by rw[e];exact h),e]
theorem addE_b{a b:Mx}(ha:q_ a=0)(h:q_ b≠0):addE a b=q_ b:=by
 have e:faults [a,b]=q_ b:=by unfold faults;rw[if_pos ha,faults_one]
 unfold addE;rw[if_pos (by rw[e];exact h),e]
theorem addE_s{a b:Mx}(ha:q_ a=0)(hb:q_ b=0):addE a b=if a.rows≠b.rows∨a.cols≠b.cols then 2 else 0:=by
 have e:faults [a,b]=0:=by unfold faults;rw[if_pos ha,faults_one,hb]
 unfold addE;rw[if_neg (by simp[e])]
theorem addE_good{a b:Mx}(h:addE a b=0):∃R C,Good a R C∧Good b R C:=by
 have ha:q_ a=0:=Classical.byContradiction fun e=>e ((addE_a e).symm.trans h)
 have hb:q_ b=0:=Classical.byContradiction fun e=>e ((addE_b ha e).symm.trans h)
 obtain ⟨R,C,ga⟩:=o__ ha
 obtain ⟨R',C',gb⟩:=o__ hb
 rw[addE_s ha hb]at h
 have hs:¬(a.rows≠b.rows∨a.cols≠b.cols):=fun e=>by rw[if_pos e]at h;cases h
 have:=ga.r
 have:=gb.r
 have:=ga.c
 have:=gb.c
 exact ⟨R,C,ga,gb.same (by omega) (by omega)⟩
end Go.Proofs.YtpniemnfdleiiajGreatDoor
/- What checkBoth of package loss says: what is wrong with two matrices, the first of it. -/
namespace Go.Proofs.YtpniemnfdleiiajGreatDoor
open Go.RowKit
set_option maxHeartbeats 1600000 in
theorem both_any(va vb:Value)(ma mb:Mx)(w:World)(hva:M_ w va ma)(hvb:M_ w vb mb):Calls Tryz.prog 45 #[va,vb] w fun e w'=>e=.returned (errV (addE ma mb))∧Below w.heap.size w w':=by
 obtain ⟨sa,rfl,hsa⟩:=hva
 obtain ⟨sb',rfl,hsb⟩:=hvb
 obtain ⟨xa,xn,xk,rfl⟩:=hsa.shape
 obtain ⟨ya,yn,yk,rfl⟩:=hsb.shape
 obtain ⟨r,er⟩:=gN (ma.rows)
 obtain ⟨c,ec⟩:=gN (ma.cols)
 obtain ⟨r',er'⟩:=gN (mb.rows)
 obtain ⟨c',ec'⟩:=gN (mb.cols)
 have HA:=h_ (fun W (h:Below w.heap.size w W)=>C_ (.agg #[.int .i64 ma.rows,.int .i64 ma.cols,.slice xa xn xk]) ma W ⟨_,rfl,hsa.u_ h⟩)
 have HB:=h_ (fun W (h:Below w.heap.size w W)=>C_ (.agg #[.int .i64 mb.rows,.int .i64 mb.cols,.slice ya yn yk]) mb W ⟨_,rfl,hsb.u_ h⟩)
 rw[er,ec]at HA
 rw[er',ec']at HB
 have HES:=h_ (fun (h1:q_ ma=0) (h2:q_ mb=0)=>addE_s h1 h2)
 rw[er,ec,er',ec']at HES
 rw[er,ec,er',ec']
 obtain ⟨E,hE⟩:=gN (addE ma mb)
 have HE:=h_ hE
 rw[hE]at HES ⊢
 obtain ⟨V,hV⟩:=gM (((w.alloc (.cells #[.int .i64 r,.int .i64 c,.slice xa xn xk] 25)).alloc (.cells #[.int .i64 r',.int .i64 c',.slice ya yn yk] 25)))
 have HV:=h_ hV
 have HWV:Hid (Below w.heap.size w V):=by rw[hV];exact h_ (b_ (o_ _ _) (o_ _ _))
 have HXA:Hid (Box V w.heap.size [.int .i64 r,.int .i64 c,.slice xa xn xk]):=by rw[hV];exact h_ ((Box.new w [.int .i64 r,.int .i64 c,.slice xa xn xk] 25 rfl).u_ (o_ _ _))
 have HXB:Hid (Box V (w.heap.size+1) [.int .i64 r',.int .i64 c',.slice ya yn yk]):=by rw[hV];exact h_ (Box.new _ [.int .i64 r',.int .i64 c',.slice ya yn yk] 25 (by simp))
 clear hsa hsb er ec er' ec' hV hE
 obtain ⟨d0,d1,d2⟩:=HXA.out.c3
 rw[HV.out]at d0 d1 d2
 go_enter Tryz.func45,Tryz.ntmps45
 go_wp2_with fail
 rw[←HV.out]
 refine (HA.out _ HWV.out).mono ?_
 rintro e w1 ⟨rfl,hb1⟩
 have HB1:=h_ hb1
 clear hb1 d0 d1 d2 HA
 by_cases ha:q_ ma=0
 ·rw[e_ ha]
  obtain ⟨y0,y1,y2⟩:=(HXB.out.u_ HB1.out).c3
  have HFA:=h_ ha
  clear ha
  go_wp2_with fail
  refine (HB.out _ (b_ HWV.out HB1.out)).mono ?_
  rintro e w2 ⟨rfl,hb2⟩
  have HB2:=h_ (b_ HB1.out hb2)
  clear hb2 y0 y1 y2 HB
  by_cases hb:q_ mb=0
  ·rw[e_ hb]
   have hes:=HES.out HFA.out hb
   obtain ⟨d0,d1⟩:=(HXA.out.u_ HB2.out).c2
   obtain ⟨y0,y1⟩:=(HXB.out.u_ HB2.out).c2
   clear hb
   by_cases hr:r=r'
   ·by_cases hc:c=c'
    ·have hE0:E=0:=by rw[hes,if_neg (by simp[hr,hc])]
     subst hr hc hE0
     clear hes
     go_wp2
     go_ret
     exact ⟨rfl,b_ HWV.out HB2.out⟩
    ·have hE0:E=2:=by rw[hes,if_pos (.inr hc)]
     have hc1:(c !=c')=true:=by simp[hc]
     subst hr hE0
     clear hes hc
     go_wp2
     go_ret
     exact ⟨rfl,b_ HWV.out HB2.out⟩
   ·have hE0:E=2:=by rw[hes,if_pos (.inl hr)]
    have hr1:(r !=r')=true:=by simp[hr]
    subst hE0
    clear hes hr
    go_wp2
    go_ret
    exact ⟨rfl,b_ HWV.out HB2.out⟩
  ·have hE0:q_ mb=E:=by rw[←HE.out,addE_b HFA.out hb]
   rw[n_ hb]
   have HN:=h_ (err_of hE0 hb)
   clear hb hE0
   go_wp2
   go_ret
   exact ⟨R_ HN.out,b_ HWV.out HB2.out⟩
 ·have hE0:q_ ma=E:=by rw[←HE.out,addE_a ha]
  rw[n_ ha]
  have HN:=h_ (err_of hE0 ha)
  clear ha hE0
  go_wp2
  go_ret
  exact ⟨R_ HN.out,b_ HWV.out HB1.out⟩
end Go.Proofs.YtpniemnfdleiiajGreatDoor
/- What off of package loss comes to: a function that hands on, cell by cell, by how much two matrices are off, to whatever goes through it. -/
namespace Go.Proofs.YtpniemnfdleiiajGreatDoor
open Go.RowKit Go.Shelf
attribute [local go_sem] Oper.semAt_some
set_option maxHeartbeats 400000 in
theorem off_any(r c r' c':Int)(xa ya:Option Addr)(xn xk yn yk:Nat)(w:World):Calls Tryz.prog 46 #[.agg #[.int .i64 r,.int .i64 c,.slice xa xn xk],.agg #[.int .i64 r',.int .i64 c',.slice ya yn yk]] w fun e w'=>
  e=.returned (.func (.func 58) #[] #[.pointer (some ⟨w.heap.size,0,none⟩),.pointer (some ⟨w.heap.size+1,0,none⟩)])∧w'=(w.alloc (.cells #[.int .i64 r,.int .i64 c,.slice xa xn xk] 25)).alloc (.cells #[.int .i64 r',.int .i64 c',.slice ya yn yk] 25):=by
 go_enter Tryz.func46,Tryz.ntmps46
 go_wp2
 go_ret
 exact ⟨rfl,rfl⟩
def KeepB (n B:Nat) (W W':World):Prop:=Below n W W'∧∀cs,Blk W B cs 25→Blk W' B cs 25
theorem KeepB.trans{n B:Nat}{X Y Z:World}(h:KeepB n B X Y)(k:KeepB n B Y Z):KeepB n B X Z:=⟨h.1.trans k.1,fun cs hb=>k.2 cs (h.2 cs hb)⟩
theorem KeepB.put{n B:Nat}{w:World}(hn:n≤w.heap.size)(W:World)(l:Nat)(o o':Obj)(hl:w.heap.size≤l)(h:W.heap[l]?=some o)(hc:o.isCells=false)(hw:o.isWalk=false):KeepB n B W (W.putObj l o'):=
 ⟨belowK_b hn W l o o' hl h hc hw,fun cs hb=>hb.kept (grownBy_putObj' W l o') (fun e=>by cases e;rw[show W.heap[B]?=_ from hb]at h;cases h;cases hc)⟩
set_option maxRecDepth 100000 in
set_option maxHeartbeats 2000000 in
theorem off1_in(n:Nat)(hn:1≤n)(l A B N:Nat)(r' c':Int)(xa ya:Option Addr)(xk yk:Nat)(ma mb:Mx)(w:World)(hsa:I_ w (.slice xa N xk) ma.cells)(hsb:I_ w (.slice ya N yk) mb.cells)(hla:ma.cells.length=N)(hlb:mb.cells.length=N)(hN:N≤576)(J Jx:List Int→World→Prop)
  (hY:∀pre x W,J pre W→pre.length<N→YieldAt Fence.wide (n - 1) Tryz.prog l #[.int .i64 x] W fun e W'=>(e=.returned (.bool true)∧J (pre++[x]) W'∧KeepB w.heap.size B W W')∨(e=.returned (.bool false)∧Jx (pre++[x]) W'))
  (W:World) (hW:Below w.heap.size w W) (hA:W.cell? ⟨A,2,none⟩=some (.slice xa N xk)) (hB:Blk W B #[.int .i64 r',.int .i64 c',.slice ya N yk] 25) (h0:J [] W):
  CallsIn Fence.wide n Tryz.prog 58 #[.func (.yield l) #[] #[],.pointer (some ⟨A,0,none⟩),.pointer (some ⟨B,0,none⟩)] W fun e W'=>(∃v,e=.returned v)∧
   ((∃ys,ys=tab N (offAt ma mb)∧J ys W')∨(∃pre,True∧Jx pre W')):=by
 have HSA:=h_ hsa
 have HSB:=h_ hsb
 have HLA:=h_ hla
 have HLB:=h_ hlb
 have HW:=h_ hW
 have HBK:=h_ hB
 have HJ:=h_ h0
 have HY:=h_ hY
 clear hsa hsb hla hlb hW hB h0 hY
 refine callsIn_of_wp Tryz.func58 rfl trivial ?_ rfl
 simp only[Tryz.ntmps58,List.size_toArray,List.length_cons,List.length_nil,Nat.reduceAdd,Nat.reduceSub,Array.replicate_succ,Array.replicate_zero,List.push_toArray,List.append_toArray,List.nil_append,List.cons_append]
 gi_wp2
 gi_loopw [9] (fun a wr=>∃(i:Nat) (xi:Int),i≤N∧xi=(i:Int)∧a=.int .i64 xi∧J (tab i (offAt ma mb)) wr∧Below w.heap.size w wr∧Blk wr B #[.int .i64 r',.int .i64 c',.slice ya N yk] 25) (fun a _=>N - (intOf a).toNat)
 case atStart=>exact ⟨0,0,Nat.zero_le _,rfl,rfl,HJ.out,HW.out,HBK.out⟩
 case round=>
  obtain ⟨i,xi,hi,hxi,rfl,hj,hbw,hbk⟩:=hrel
  have HJI:=h_ hj
  have HBW:=h_ hbw
  have HBB:=h_ hbk
  have HXI:=h_ hxi
  have hxi0:0≤xi:=by omega
  have hxi1:xi≤576:=by omega
  have q2:=hbk.cell (j:=2) rfl
  clear hj hbw hbk hxi hA
  by_cases hlt:xi<(N:Int)
  ·have hin:i<N:=by have:=HXI.out;omega
   have hxn:xi.toNat=i:=by have:=HXI.out;omega
   obtain ⟨x,hx⟩:∃z,ma.cells[i]?=some z:=⟨ma.cells[i]'(by have:=HLA.out;omega),List.getElem?_eq_getElem _⟩
   obtain ⟨y,hy0⟩:∃z,mb.cells[i]?=some z:=⟨mb.cells[i]'(by have:=HLB.out;omega),List.getElem?_eq_getElem _⟩
   obtain ⟨a1,c1,es1,_,_,h41⟩:=HSA.out
   obtain ⟨a2,c2,es2,_,_,h42⟩:=HSB.out
   injection es1 with s11 s12 s13
   injection es2 with s21 s22 s23
   clear s12 s13 s22 s23
   obtain ⟨bx,ox,rx,hclx⟩:=h41.resolve_left (fun e=>by rw[e]at hx;simp at hx)
   obtain ⟨by',oy,ry,hcly⟩:=h42.resolve_left (fun e=>by rw[e]at hy0;simp at hy0)
   have sx:=s11.trans rx
   have sy:=s21.trans ry
   clear s11 s21 rx ry h41 h42
   subst sx sy
   have cx:wr.cell? ⟨bx,ox+xi.toNat,none⟩=some (.int .i64 x):=by rw[hxn];exact c_ HBW.out (hclx _ _ hx)
   have cy:wr.cell? ⟨by',oy+xi.toNat,none⟩=some (.int .i64 y):=by rw[hxn];exact c_ HBW.out (hcly _ _ hy0)
   have HD:=h_ (show offAt ma mb i=sb x y by unfold offAt A_;rw[hx,hy0];rfl)
   obtain ⟨fn,tmps,assign,body,hy,hR⟩:=HY.out _ (sb x y) wr HJI.out (by simp[tab];omega)
   have HR:=h_ hR
   clear hclx hx hcly hy0 hxn hR
   gi_wp2_with (refine ⟨trivial,?_⟩;gi_at_call 59;refine (callsIn_wide.2 (sub_any _ _ _)).mono ?_;rintro e w' ⟨rfl,rfl⟩)
   refine HR.out.mono ?_
   rintro e W3 (⟨rfl,hJ3,hk3⟩|⟨rfl,hJx3⟩)
   ·have HJ3:=h_ hJ3
    have HK3:=h_ hk3
    clear hJ3 hk3
    gi_wp2
    go_roundw
    case rel=>exact ⟨i+1,_,by omega,by have:=HXI.out;omega,rfl,by rw[tab_succ,HD.out];exact HJ3.out,HBW.out.trans HK3.out.1,HK3.out.2 _ HBB.out⟩
    case measure=>have:=HXI.out;simp[intOf];omega
   ·have HJX:=h_ hJx3
    clear hJx3
    gi_wp2
    refine bodyPost_ret (results_none rfl _ _ _) rfl ?_
    exact ⟨⟨_,rfl⟩,.inr ⟨_,trivial,HJX.out⟩⟩
  ·have hin:i=N:=by have:=HXI.out;omega
   gi_wp2
   go_end0
   exact ⟨⟨_,rfl⟩,.inl (by rw[←hin];exact HJI.out)⟩
theorem off_stops(n:Nat)(hn:1≤n)(A B N:Nat)(r' c':Int)(xa ya:Option Addr)(xk yk:Nat)(ma mb:Mx)(w V:World)(hsa:I_ w (.slice xa N xk) ma.cells)(hsb:I_ w (.slice ya N yk) mb.cells)(hla:ma.cells.length=N)(hlb:mb.cells.length=N)(hN:N≤576)(hV:Below w.heap.size w V)(hA:V.cell? ⟨A,2,none⟩=some (.slice xa N xk))(hB:Blk V B #[.int .i64 r',.int .i64 c',.slice ya N yk] 25):
  SeqStopsK Fence.wide n Tryz.prog 58 #[.pointer (some ⟨A,0,none⟩),.pointer (some ⟨B,0,none⟩)] (fun x:Int=>#[Value.int .i64 x]) (KeepB w.heap.size B) (fun ys=>ys=tab N (offAt ma mb)) (fun _=>True) N V:=fun l J Jx W hW _ _ hY h0=>
 off1_in n hn l A B N r' c' xa ya xk yk ma mb w hsa hsb hla hlb hN J Jx hY W (b_ hV hW) (c_ hW hA) (hB.u_ hW) h0
end Go.Proofs.YtpniemnfdleiiajGreatDoor
