/- What GoOf of the document's answer comes to: what comes of a matrix by a layer that goes with it. -/
import Derived.Test.YtniloklglpchfaeGreatDoorPkLAt
import Derived.Test.YtniloklglpchfaeGreatDoorPkRRows
namespace Go.Proofs.YtniloklglpchfaeGreatDoor
open Go.RowKit
theorem Box.set3{w:World}{B B':Nat}{cs:List Value}(h:Box w B cs)(hne:¬B=B')(x y z:Value):Box (((w.setCell ⟨B',0,none⟩ x).setCell ⟨B',1,none⟩ y).setCell ⟨B',2,none⟩ z) B cs:=fun j u hu=>s_ (h j u hu) hne x y z
theorem Free.set3{w:World}{B:Nat}(h:Free w B)(B':Nat)(x y z:Value):Free (((w.setCell ⟨B',0,none⟩ x).setCell ⟨B',1,none⟩ y).setCell ⟨B',2,none⟩ z) B:=fun j=>by simp[h j]
set_option maxHeartbeats 4000000 in
set_option maxRecDepth 100000 in
theorem rgo_relu(l:Ly){xa:Option Addr}{xn xk:Nat}{ya:Option Addr}{yn yk:Nat}(x:Mx)(vx:Value)(w:World)(hk:l.k=2)(hE:goE l x=0)  (hx:M_ w vx x):
  Calls Tryz.prog 89 #[.agg #[.int .i64 2,.int .i64 l.w.rows,.int .i64 l.w.cols,.slice xa xn xk,.int .i64 l.b.rows,.int .i64 l.b.cols,.slice ya yn yk],vx] w (RefEnd w (goX l x)):=by
 obtain ⟨sx,rfl,hsx⟩:=hx
 obtain ⟨za,zn,zk,rfl⟩:=hsx.shape
 obtain ⟨wr,e1⟩:=gN (l.w.rows)
 obtain ⟨wc,e2⟩:=gN (l.w.cols)
 obtain ⟨br,e3⟩:=gN (l.b.rows)
 obtain ⟨bc,e4⟩:=gN (l.b.cols)
 obtain ⟨r,e5⟩:=gN (x.rows)
 obtain ⟨c,e6⟩:=gN (x.cols)
 obtain ⟨hl,hfx,htk⟩:=goE_zero hE
 obtain ⟨R,C,gx⟩:=o__ hfx
 obtain ⟨n,hn⟩:=gN (R*C)
 have hn576:n<=576:=by have:=Nat.mul_le_mul gx.hR gx.hC;omega
 have HX:=h_ (show goX l x=⟨R,C,tab n (fun q=>max (A_ x q) 0)⟩ by
  unfold goX goG
  rw[if_pos hE,if_neg (by omega),if_pos hk]
  unfold reluX
  rw[each_eq gx,hn])
 have HLM:=h_ (show x.cells.length=n by rw[gx.l,hn])
 have HN:=h_ hn
 rw[e1,e2,e3,e4,e5,e6]
 have hzn:n=zn:=by obtain ⟨_,_,e,_⟩:=hsx;injection e with _ e _;rw[e,gx.l,hn]
 subst hzn
 obtain ⟨V0,hV⟩:=gM (((((w.alloc (.cells #[.int .i64 2,.int .i64 wr,.int .i64 wc,.slice xa xn xk,.int .i64 br,.int .i64 bc,.slice ya yn yk] 58)).alloc (.cells #[.int .i64 r,.int .i64 c,.slice za n zk] 28)).alloc (.cells #[.int .i64 0,.int .i64 0,.slice none 0 0] 28)).alloc (.cells #[.int .i64 r,.int .i64 c,.slice za n zk] 28)))
 have HV:=h_ hV
 have H0W:Hid (Below w.heap.size w V0):=by rw[hV];exact h_ (b_ (b_ (b_ (o_ _ _) (o_ _ _)) (o_ _ _)) (o_ _ _))
 have H0L:Hid (Box V0 w.heap.size [.int .i64 2,.int .i64 wr,.int .i64 wc,.slice xa xn xk,.int .i64 br,.int .i64 bc,.slice ya yn yk]):=by rw[hV];exact h_ ((((Box.new w [.int .i64 2,.int .i64 wr,.int .i64 wc,.slice xa xn xk,.int .i64 br,.int .i64 bc,.slice ya yn yk] 58 rfl).u_ (o_ _ _)).u_ (o_ _ _)).u_ (o_ _ _))
 have H0X:Hid (Box V0 (w.heap.size+1) [.int .i64 r,.int .i64 c,.slice za n zk]):=by rw[hV];exact h_ (((Box.new _ [.int .i64 r,.int .i64 c,.slice za n zk] 28 (by simp)).u_ (o_ _ _)).u_ (o_ _ _))
 have H0Q:Hid (Box V0 (w.heap.size+1+1) [.int .i64 0,.int .i64 0,.slice none 0 0]):=by rw[hV];exact h_ ((Box.new _ [.int .i64 0,.int .i64 0,.slice none 0 0] 28 (by simp)).u_ (o_ _ _))
 have H0F:Hid (Free V0 (w.heap.size+1+1)):=by rw[hV];exact h_ ((Free.new _ _ 28 (by simp)).u_ (o_ _ _) (by simp))
 have H0M:Hid (Mut V0 (w.heap.size+1+1+1) r c (.slice za n zk)):=by rw[hV];exact h_ (Mut.newB _ _ _ _ 28 (by simp))
 clear hV
 have HMR:=h_ (show r=(R:Int)/\c=(C:Int) by rw[<-e5,<-e6];exact ⟨gx.r,gx.c⟩)
 have HWV:=H0W
 have HBL:=H0L
 have HMB:=h_ H0M.out.t
 have HMI:=h_ (hsx.u_ H0W.out)
 have HQ:=H0Q
 have HFR:=H0F
 clear hsx gx hn hk hl hfx htk e1 e2 e3 e4 e5 e6 H0W H0L H0X H0Q H0F H0M hE
 go_enter Tryz.func89,Tryz.ntmps89
 have HBK:=h_ (fun W=>blank_any r c n W (by rw[HMR.out.1,HMR.out.2,<-HN.out];simp) (by have:=hn576;omega))
 have d0:=HBL.out 0 _ rfl
 obtain ⟨m0,m1,m2⟩:=HMB.out
 go_wp2_with fail
 rw[<-HV.out]
 refine (HBK.out _).mono ?_
 rintro e w1 ⟨g,rfl,hg,hrow,hb1⟩
 have hglt:g<w1.heap.size:=hrow.lt
 have HB1:=h_ hb1
 have HG:=h_ hg
 have HR:=h_ (hrow.alloc (.cells #[.int .i64 r,.int .i64 c,.slice (some ⟨g,0,none⟩) n n] 28))
 clear hb1 hg hrow d0 m0 m1 m2 HBK
 go_wp2
 go_loopw [7,8] (fun a _v wr=>∃(i:Nat) (xi:Int),i<=n/\xi=(i:Int)/\a=.int .i64 xi/\RowAt 3 wr g (tab n (fillF (fun q=>max (A_ x q) 0) i))/\(w1.alloc (.cells #[.int .i64 r,.int .i64 c,.slice (some ⟨g,0,none⟩) n n] 28)).grownBy wr (some g)) (fun a _ _=>n - (intOf a).toNat)
 case atStart=>exact ⟨0,0,Nat.zero_le _,rfl,rfl,by rw[<-fillF_zero];exact HR.out,World.grownBy.refl _ _⟩
 case round=>
  obtain ⟨i,xi,hi,hxi,rfl,hro,hgr⟩:=hrel
  have p2:=X_ hglt hgr (j:=2) rfl
  have j0:=k_ HB1.out HG.out hgr (HBL.out 0 _ rfl)
  have j1:=k_ HB1.out HG.out hgr HMB.out.2.1
  have j2:=k_ HB1.out HG.out hgr HMB.out.2.2
  have HRO:=h_ hro
  have HGR:=h_ hgr
  have HXI:=h_ hxi
  have hxi0:0<=xi:=by omega
  have hxi1:xi<=576:=by omega
  clear hro hgr hxi
  by_cases hlt:xi<(n:Int)
  ·have hin:i<n:=by have:=HXI.out;omega
   have hxn:xi.toNat=i:=by have:=HXI.out;omega
   obtain ⟨z,hz⟩:∃z,x.cells[i]?=some z:=⟨x.cells[i]'(by have:=HLM.out;omega),List.getElem?_eq_getElem _⟩
   obtain ⟨am,capm,esm,_,_,h4m⟩:=HMI.out
   injection esm with sm1 sm2 sm3
   clear sm2 sm3
   obtain ⟨bm,om,rm,hclm⟩:=h4m.resolve_left (fun e=>by rw[e]at hz;simp at hz)
   have sm:=sm1.trans rm
   clear sm1 rm h4m
   subst sm
   have cz:wr.cell? ⟨bm,om+xi.toNat,none⟩=some (.int .i64 z):=by
    rw[hxn]
    exact k_ HB1.out HG.out HGR.out (hclm _ _ hz)
   obtain ⟨u,dx⟩:∃u,wr.cell? ⟨g,xi.toNat,none⟩=some (.int .i64 u):=⟨_,by rw[hxn];exact HRO.out.cell (tab_at hin)⟩
   have fx:wr.frozen? ⟨g,xi.toNat,none⟩=false:=HRO.out.frozen _
   have HZ:=h_ (cellAt_some hz)
   have HXN:=h_ hxn
   clear hclm hz hxn
   by_cases hz0:z<0
   ·have HW:=h_ (show fillF_ok (fun q=>max (A_ x q) 0) i 0 by show max (A_ x i) 0=0;rw[HZ.out];omega)
    go_wp2
    go_roundw
    case rel=>exact ⟨i+1,_,by omega,by have:=HXI.out;omega,rfl,by
     rw[HXN.out,<-fillF_step _ i n _ HW.out]
     exact HRO.out.set i _,w_ HGR.out _ _⟩
    case measure=>have:=HXI.out;simp[intOf];omega
   ·have HW:=h_ (show fillF_ok (fun q=>max (A_ x q) 0) i z by show max (A_ x i) 0=z;rw[HZ.out];omega)
    go_wp2
    go_roundw
    case rel=>exact ⟨i+1,_,by omega,by have:=HXI.out;omega,rfl,by
     rw[HXN.out,<-fillF_step _ i n _ HW.out]
     exact HRO.out.set i _,w_ HGR.out _ _⟩
    case measure=>have:=HXI.out;simp[intOf];omega
  ·have hin:i=n:=by have:=HXI.out;omega
   have q0:=k_ HB1.out HG.out HGR.out (HQ.out 0 _ rfl)
   have q1:=k_ HB1.out HG.out HGR.out (HQ.out 1 _ rfl)
   have q2:=k_ HB1.out HG.out HGR.out (HQ.out 2 _ rfl)
   have p0:=X_ hglt HGR.out (j:=0) rfl
   have p1:=X_ hglt HGR.out (j:=1) rfl
   have hql:=HQ.out.lt
   have z0:=z_ HB1.out HG.out HGR.out (p:=⟨w.heap.size+1+1,0,none⟩) hql (HFR.out 0)
   have z1:=z_ HB1.out HG.out HGR.out (p:=⟨w.heap.size+1+1,1,none⟩) hql (HFR.out 1)
   have z2:=z_ HB1.out HG.out HGR.out (p:=⟨w.heap.size+1+1,2,none⟩) hql (HFR.out 2)
   have HIN:=h_ hin
   have HQL:=h_ hql
   clear hin hql
   go_wp2
   have hgw:w.heap.size+1+1≠g:=by have:=HQL.out;have:=HG.out;omega
   refine bodyPost_ret (v:=.agg #[.int .i64 r,.int .i64 c,.slice (some ⟨g,0,none⟩) n n]) (by simp[results,Tryz.results89,go_sem,q0,q1,q2]) rfl ?_
   have hX:goX l x=⟨R,C,tab n (fun q=>max (A_ x q) 0)⟩:=HX.out
   rw[hX]
   refine ⟨some ⟨g,0,none⟩,n,n,by rw[HMR.out.1,HMR.out.2],⟨_,rfl,?_⟩,?_,fresh_at (by have:=HWV.out.size;have:=HG.out;omega) _ _ _⟩
   ·have h:=HRO.out
    rw[HIN.out,fillF_end]at h
    exact (((h.other ⟨w.heap.size+1+1,0,none⟩ _ hgw.symm).other ⟨w.heap.size+1+1,1,none⟩ _ hgw.symm).other ⟨w.heap.size+1+1,2,none⟩ _ hgw.symm).isTab (by unfold maxLen;omega)
   ·exact (((keep_below HWV.out HB1.out HG.out HGR.out).setCell (by simp;omega) _).setCell (by simp;omega) _).setCell (by simp;omega) _
set_option maxHeartbeats 4000000 in
set_option maxRecDepth 100000 in
theorem rgo_shift(l:Ly){xa:Option Addr}{xn xk:Nat}{ya:Option Addr}{yn yk:Nat}(x:Mx)(vx:Value)(w:World)(hk:l.k=4)(hE:goE l x=0)(ht:I_ w (.slice ya yn yk) l.b.cells)(hx:M_ w vx x):
  Calls Tryz.prog 89 #[.agg #[.int .i64 4,.int .i64 l.w.rows,.int .i64 l.w.cols,.slice xa xn xk,.int .i64 l.b.rows,.int .i64 l.b.cols,.slice ya yn yk],vx] w (RefEnd w (goX l x)):=by
 obtain ⟨sx,rfl,hsx⟩:=hx
 obtain ⟨za,zn,zk,rfl⟩:=hsx.shape
 obtain ⟨wr,e1⟩:=gN (l.w.rows)
 obtain ⟨wc,e2⟩:=gN (l.w.cols)
 obtain ⟨br,e3⟩:=gN (l.b.rows)
 obtain ⟨bc,e4⟩:=gN (l.b.cols)
 obtain ⟨r,e5⟩:=gN (x.rows)
 obtain ⟨c,e6⟩:=gN (x.cols)
 obtain ⟨hl,hfx,htk⟩:=goE_zero hE
 obtain ⟨R,C,gx⟩:=o__ hfx
 obtain ⟨Cb,gb,hb1⟩:∃Cb,Good l.b 1 Cb/\1<=Cb:=by
  cases lyG_of hl using LyG.el with
  |lin _ _ hk' _ _ _ _ _=>omega
  |relu hk' _ _=>omega
  |scale hk' _ _=>omega
  |shift Cb _ _ gb h1=>exact ⟨Cb,gb,h1⟩
 have hCb:C=Cb:=by have:=takes_shift hk htk;have:=gb.c;have:=gx.c;omega
 subst hCb
 have HC0:=h_ (show 0<C by omega)
 have HC24:=h_ (show C<=24 by have:=gb.hC;omega)
 have HLB:=h_ (show l.b.cells.length=C by have:=gb.l;omega)
 obtain ⟨n,hn⟩:=gN (R*C)
 have hn576:n<=576:=by have:=Nat.mul_le_mul gx.hR gx.hC;omega
 have HX:=h_ (show goX l x=⟨R,C,tab n (fun q=>ad (A_ x q) (A_ l.b (q % C)))⟩ by
  unfold goX goG
  rw[if_pos hE,if_neg (by omega),if_neg (by omega),if_neg (by omega)]
  unfold addRows
  rw[each_eq gx,hn];rw[gb.c];rfl)
 have HLM:=h_ (show x.cells.length=n by rw[gx.l,hn])
 have HN:=h_ hn
 rw[e1,e2,e3,e4,e5,e6]
 have hzn:n=zn:=by obtain ⟨_,_,e,_⟩:=hsx;injection e with _ e _;rw[e,gx.l,hn]
 subst hzn
 obtain ⟨V0,hV⟩:=gM (((((w.alloc (.cells #[.int .i64 4,.int .i64 wr,.int .i64 wc,.slice xa xn xk,.int .i64 br,.int .i64 bc,.slice ya yn yk] 58)).alloc (.cells #[.int .i64 r,.int .i64 c,.slice za n zk] 28)).alloc (.cells #[.int .i64 0,.int .i64 0,.slice none 0 0] 28)).alloc (.cells #[.int .i64 r,.int .i64 c,.slice za n zk] 28)))
 have HV:=h_ hV
 have H0W:Hid (Below w.heap.size w V0):=by rw[hV];exact h_ (b_ (b_ (b_ (o_ _ _) (o_ _ _)) (o_ _ _)) (o_ _ _))
 have H0L:Hid (Box V0 w.heap.size [.int .i64 4,.int .i64 wr,.int .i64 wc,.slice xa xn xk,.int .i64 br,.int .i64 bc,.slice ya yn yk]):=by rw[hV];exact h_ ((((Box.new w [.int .i64 4,.int .i64 wr,.int .i64 wc,.slice xa xn xk,.int .i64 br,.int .i64 bc,.slice ya yn yk] 58 rfl).u_ (o_ _ _)).u_ (o_ _ _)).u_ (o_ _ _))
 have H0X:Hid (Box V0 (w.heap.size+1) [.int .i64 r,.int .i64 c,.slice za n zk]):=by rw[hV];exact h_ (((Box.new _ [.int .i64 r,.int .i64 c,.slice za n zk] 28 (by simp)).u_ (o_ _ _)).u_ (o_ _ _))
 have H0Q:Hid (Box V0 (w.heap.size+1+1) [.int .i64 0,.int .i64 0,.slice none 0 0]):=by rw[hV];exact h_ ((Box.new _ [.int .i64 0,.int .i64 0,.slice none 0 0] 28 (by simp)).u_ (o_ _ _))
 have H0F:Hid (Free V0 (w.heap.size+1+1)):=by rw[hV];exact h_ ((Free.new _ _ 28 (by simp)).u_ (o_ _ _) (by simp))
 have H0M:Hid (Mut V0 (w.heap.size+1+1+1) r c (.slice za n zk)):=by rw[hV];exact h_ (Mut.newB _ _ _ _ 28 (by simp))
 clear hV
 have HMR:=h_ (show r=(R:Int)/\c=(C:Int) by rw[<-e5,<-e6];exact ⟨gx.r,gx.c⟩)
 have HWV:=H0W
 have HBL:=H0L
 have HMB:=h_ H0M.out.t
 have HMI:=h_ (hsx.u_ H0W.out)
 have HBI:=h_ (ht.u_ H0W.out)
 have HQ:=H0Q
 have HFR:=H0F
 clear hsx ht gb hb1 gx hn hk hl hfx htk e1 e2 e3 e4 e5 e6 H0W H0L H0X H0Q H0F H0M hE
 go_enter Tryz.func89,Tryz.ntmps89
 have HBK:=h_ (fun W=>blank_any r c n W (by rw[HMR.out.1,HMR.out.2,<-HN.out];simp) (by have:=hn576;omega))
 have d0:=HBL.out 0 _ rfl
 obtain ⟨m0,m1,m2⟩:=HMB.out
 go_wp2_with fail
 rw[<-HV.out]
 refine (HBK.out _).mono ?_
 rintro e w1 ⟨g,rfl,hg,hrow,hb1⟩
 have hglt:g<w1.heap.size:=hrow.lt
 have HB1:=h_ hb1
 have HG:=h_ hg
 have HR:=h_ (hrow.alloc (.cells #[.int .i64 r,.int .i64 c,.slice (some ⟨g,0,none⟩) n n] 28))
 clear hb1 hg hrow d0 m0 m1 m2 HBK
 go_wp2
 go_loopw [7,8] (fun a _v wr=>∃(i:Nat) (xi:Int),i<=n/\xi=(i:Int)/\a=.int .i64 xi/\RowAt 3 wr g (tab n (fillF (fun q=>ad (A_ x q) (A_ l.b (q % C))) i))/\(w1.alloc (.cells #[.int .i64 r,.int .i64 c,.slice (some ⟨g,0,none⟩) n n] 28)).grownBy wr (some g)) (fun a _ _=>n - (intOf a).toNat)
 case atStart=>exact ⟨0,0,Nat.zero_le _,rfl,rfl,by rw[<-fillF_zero];exact HR.out,World.grownBy.refl _ _⟩
 case round=>
  obtain ⟨i,xi,hi,hxi,rfl,hro,hgr⟩:=hrel
  have p2:=X_ hglt hgr (j:=2) rfl
  have j0:=k_ HB1.out HG.out hgr (HBL.out 0 _ rfl)
  have j1:=k_ HB1.out HG.out hgr HMB.out.2.1
  have j2:=k_ HB1.out HG.out hgr HMB.out.2.2
  have HRO:=h_ hro
  have HGR:=h_ hgr
  have HXI:=h_ hxi
  have hxi0:0<=xi:=by omega
  have hxi1:xi<=576:=by omega
  clear hro hgr hxi
  by_cases hlt:xi<(n:Int)
  ·have hin:i<n:=by have:=HXI.out;omega
   have hxn:xi.toNat=i:=by have:=HXI.out;omega
   obtain ⟨z,hz⟩:∃z,x.cells[i]?=some z:=⟨x.cells[i]'(by have:=HLM.out;omega),List.getElem?_eq_getElem _⟩
   obtain ⟨am,capm,esm,_,_,h4m⟩:=HMI.out
   injection esm with sm1 sm2 sm3
   clear sm2 sm3
   obtain ⟨bm,om,rm,hclm⟩:=h4m.resolve_left (fun e=>by rw[e]at hz;simp at hz)
   have sm:=sm1.trans rm
   clear sm1 rm h4m
   subst sm
   have cz:wr.cell? ⟨bm,om+xi.toNat,none⟩=some (.int .i64 z):=by
    rw[hxn]
    exact k_ HB1.out HG.out HGR.out (hclm _ _ hz)
   obtain ⟨u,dx⟩:∃u,wr.cell? ⟨g,xi.toNat,none⟩=some (.int .i64 u):=⟨_,by rw[hxn];exact HRO.out.cell (tab_at hin)⟩
   have fx:wr.frozen? ⟨g,xi.toNat,none⟩=false:=HRO.out.frozen _
   have HZ:=h_ (cellAt_some hz)
   have HXN:=h_ hxn
   clear hclm hz hxn
   have hC0:=HC0.out
   have hm:=Nat.mod_lt i hC0
   obtain ⟨y,hy⟩:∃y:Int,xi % c=y:=⟨_,rfl⟩
   have hyi:y=((i % C:Nat):Int):=by rw[<-hy,HXI.out,HMR.out.2];simp
   obtain ⟨t,ht⟩:=gN (A_ l.b (i % C))
   have htc:l.b.cells[i % C]?=some t:=by rw[<-ht];unfold A_;rw[List.getElem?_eq_getElem (by have:=HLB.out;omega)];rfl
   obtain ⟨ab,capb,esb,_,_,h4b⟩:=HBI.out
   injection esb with sb1 sb2 sb3
   obtain ⟨bb,ob,rb,hclb⟩:=h4b.resolve_left (fun e=>by rw[e]at htc;simp at htc)
   have sb:=sb1.trans rb
   have yn':C=yn:=by rw[sb2];exact HLB.out.symm
   clear sb1 sb2 sb3 rb h4b
   subst sb yn'
   have cb:wr.cell? ⟨bb,ob+y.toNat,none⟩=some (.int .i64 t):=by
    rw[show y.toNat=i % C by omega]
    exact k_ HB1.out HG.out HGR.out (hclb _ _ htc)
   have j6:=k_ HB1.out HG.out HGR.out (HBL.out 6 _ rfl)
   have hy0:0<=y:=by omega
   have hyl:y<(C:Int):=by omega
   have hcp:0<c:=by have:=HMR.out.2;omega
   have hc24:c<=24:=by have:=HMR.out.2;have:=HC24.out;omega
   have HW:=h_ (show fillF_ok (fun q=>ad (A_ x q) (A_ l.b (q % C))) i (ad z t) by show ad (A_ x i) (A_ l.b (i % C))=ad z t;rw[HZ.out,ht])
   clear hclb htc ht hyi hm hC0
   go_wp2
   go_quiet ((go_at_call 30;refine Calls.quiet_of_same (radd_any _ _ _)))
   go_wp2
   go_roundw
   case rel=>exact ⟨i+1,_,by omega,by have:=HXI.out;omega,rfl,by
    rw[HXN.out,<-fillF_step _ i n _ HW.out]
    exact (HRO.out.set i _).drewN _,grown_drewN (w_ HGR.out _ _) _⟩
   case measure=>have:=HXI.out;simp[intOf];omega
  ·have hin:i=n:=by have:=HXI.out;omega
   have q0:=k_ HB1.out HG.out HGR.out (HQ.out 0 _ rfl)
   have q1:=k_ HB1.out HG.out HGR.out (HQ.out 1 _ rfl)
   have q2:=k_ HB1.out HG.out HGR.out (HQ.out 2 _ rfl)
   have p0:=X_ hglt HGR.out (j:=0) rfl
   have p1:=X_ hglt HGR.out (j:=1) rfl
   have hql:=HQ.out.lt
   have z0:=z_ HB1.out HG.out HGR.out (p:=⟨w.heap.size+1+1,0,none⟩) hql (HFR.out 0)
   have z1:=z_ HB1.out HG.out HGR.out (p:=⟨w.heap.size+1+1,1,none⟩) hql (HFR.out 1)
   have z2:=z_ HB1.out HG.out HGR.out (p:=⟨w.heap.size+1+1,2,none⟩) hql (HFR.out 2)
   have HIN:=h_ hin
   have HQL:=h_ hql
   clear hin hql
   go_wp2
   have hgw:w.heap.size+1+1≠g:=by have:=HQL.out;have:=HG.out;omega
   refine bodyPost_ret (v:=.agg #[.int .i64 r,.int .i64 c,.slice (some ⟨g,0,none⟩) n n]) (by simp[results,Tryz.results89,go_sem,q0,q1,q2]) rfl ?_
   have hX:goX l x=⟨R,C,tab n (fun q=>ad (A_ x q) (A_ l.b (q % C)))⟩:=HX.out
   rw[hX]
   refine ⟨some ⟨g,0,none⟩,n,n,by rw[HMR.out.1,HMR.out.2],⟨_,rfl,?_⟩,?_,fresh_at (by have:=HWV.out.size;have:=HG.out;omega) _ _ _⟩
   ·have h:=HRO.out
    rw[HIN.out,fillF_end]at h
    exact (((h.other ⟨w.heap.size+1+1,0,none⟩ _ hgw.symm).other ⟨w.heap.size+1+1,1,none⟩ _ hgw.symm).other ⟨w.heap.size+1+1,2,none⟩ _ hgw.symm).isTab (by unfold maxLen;omega)
   ·exact (((keep_below HWV.out HB1.out HG.out HGR.out).setCell (by simp;omega) _).setCell (by simp;omega) _).setCell (by simp;omega) _
set_option maxHeartbeats 4000000 in
set_option maxRecDepth 100000 in
theorem rgo_linear(l:Ly){xa:Option Addr}{xn xk:Nat}{ya:Option Addr}{yn yk:Nat}(x:Mx)(vx:Value)(w:World)(hk:l.k=1)(hE:goE l x=0)(hs:I_ w (.slice xa xn xk) l.w.cells)(ht:I_ w (.slice ya yn yk) l.b.cells)(hx:M_ w vx x):
  Calls Tryz.prog 89 #[.agg #[.int .i64 1,.int .i64 l.w.rows,.int .i64 l.w.cols,.slice xa xn xk,.int .i64 l.b.rows,.int .i64 l.b.cols,.slice ya yn yk],vx] w (RefEnd w (goX l x)):=by
 obtain ⟨sx,rfl,hsx⟩:=hx
 obtain ⟨za,zn,zk,rfl⟩:=hsx.shape
 obtain ⟨wr,e1⟩:=gN (l.w.rows)
 obtain ⟨wc,e2⟩:=gN (l.w.cols)
 obtain ⟨br,e3⟩:=gN (l.b.rows)
 obtain ⟨bc,e4⟩:=gN (l.b.cols)
 obtain ⟨r,e5⟩:=gN (x.rows)
 obtain ⟨c,e6⟩:=gN (x.cols)
 obtain ⟨hl,hfx,htk⟩:=goE_zero hE
 obtain ⟨R,Cx,gx⟩:=o__ hfx
 obtain ⟨Rw,C,gw,gb,h3⟩:∃Rw C,Good l.w Rw C/\Good l.b 1 C/\1<=C:=by
  cases lyG_of hl using LyG.el with
  |lin Rw Cw _ gw gb _ _ h3=>exact ⟨Rw,Cw,gw,gb,h3⟩
  |relu hk' _ _=>omega
  |scale hk' _ _=>omega
  |shift _ hk' _ _ _=>omega
 have hC:Cx=Rw:=by have:=takes_lin hk htk;have:=gw.r;have:=gx.c;omega
 subst hC
 have hmE:=gx.mul0 gw
 have gp:=gx.mul gw
 have HCL:=h_ (fun W (h:Below w.heap.size w W)=>ref_mul W (va:=.agg #[.int .i64 x.rows,.int .i64 x.cols,.slice za zn zk]) (vb:=.agg #[.int .i64 l.w.rows,.int .i64 l.w.cols,.slice xa xn xk]) (a:=x) (b:=l.w) ⟨_,rfl,hsx.u_ h⟩ ⟨_,rfl,hs.u_ h⟩ hmE)
 obtain ⟨pm,hpm⟩:=gN (mulX x l.w)
 rw[hpm]at HCL gp
 have HC0:=h_ (show 0<C by omega)
 have HC24:=h_ (show C<=24 by have:=gb.hC;omega)
 have HLB:=h_ (show l.b.cells.length=C by have:=gb.l;omega)
 rw[e5,e6,e1,e2]at HCL
 obtain ⟨n,hn⟩:=gN (R*C)
 have hn576:n<=576:=by have:=Nat.mul_le_mul gp.hR gp.hC;omega
 have HX:=h_ (show goX l x=⟨R,C,tab n (fun q=>ad (A_ pm q) (A_ l.b (q % C)))⟩ by
  unfold goX goG
  rw[if_pos hE,if_pos hk,hpm]
  unfold addRows
  rw[each_eq gp,hn,gb.c];rfl)
 have HLM:=h_ (show pm.cells.length=n by rw[gp.l,hn])
 have HN:=h_ hn
 rw[e1,e2,e3,e4,e5,e6]
 obtain ⟨V0,hV⟩:=gM (((((w.alloc (.cells #[.int .i64 1,.int .i64 wr,.int .i64 wc,.slice xa xn xk,.int .i64 br,.int .i64 bc,.slice ya yn yk] 58)).alloc (.cells #[.int .i64 r,.int .i64 c,.slice za zn zk] 28)).alloc (.cells #[.int .i64 0,.int .i64 0,.slice none 0 0] 28)).alloc (.cells #[.int .i64 r,.int .i64 c,.slice za zn zk] 28)))
 have HV:=h_ hV
 have H0W:Hid (Below w.heap.size w V0):=by rw[hV];exact h_ (b_ (b_ (b_ (o_ _ _) (o_ _ _)) (o_ _ _)) (o_ _ _))
 have H0L:Hid (Box V0 w.heap.size [.int .i64 1,.int .i64 wr,.int .i64 wc,.slice xa xn xk,.int .i64 br,.int .i64 bc,.slice ya yn yk]):=by rw[hV];exact h_ ((((Box.new w [.int .i64 1,.int .i64 wr,.int .i64 wc,.slice xa xn xk,.int .i64 br,.int .i64 bc,.slice ya yn yk] 58 rfl).u_ (o_ _ _)).u_ (o_ _ _)).u_ (o_ _ _))
 have H0X:Hid (Box V0 (w.heap.size+1) [.int .i64 r,.int .i64 c,.slice za zn zk]):=by rw[hV];exact h_ (((Box.new _ [.int .i64 r,.int .i64 c,.slice za zn zk] 28 (by simp)).u_ (o_ _ _)).u_ (o_ _ _))
 have H0Q:Hid (Box V0 (w.heap.size+1+1) [.int .i64 0,.int .i64 0,.slice none 0 0]):=by rw[hV];exact h_ ((Box.new _ [.int .i64 0,.int .i64 0,.slice none 0 0] 28 (by simp)).u_ (o_ _ _))
 have H0F:Hid (Free V0 (w.heap.size+1+1)):=by rw[hV];exact h_ ((Free.new _ _ 28 (by simp)).u_ (o_ _ _) (by simp))
 have H0M:Hid (Mut V0 (w.heap.size+1+1+1) r c (.slice za zn zk)):=by rw[hV];exact h_ (Mut.newB _ _ _ _ 28 (by simp))
 clear hV
 obtain ⟨mr,emr⟩:=gN (pm.rows)
 obtain ⟨mc,emc⟩:=gN (pm.cols)
 have HMR:=h_ (show mr=(R:Int)/\mc=(C:Int) by rw[<-emr,<-emc];exact ⟨gp.r,gp.c⟩)
 have HPE:=h_ (And.intro emr emc)
 have HTB:=h_ ht
 clear hsx hs ht gw gb h3 hmE gx gp hpm hn hk hl hfx htk e1 e2 e3 e4 e5 e6 emr emc hE
 have d0:=H0L.out 0 _ rfl
 have d1:=H0L.out 1 _ rfl
 have d2:=H0L.out 2 _ rfl
 have d3:=H0L.out 3 _ rfl
 obtain ⟨x0,x1,x2⟩:=H0X.out.c3
 go_enter Tryz.func89,Tryz.ntmps89
 go_wp2_with fail
 rw[<-HV.out]
 refine (HCL.out _ H0W.out).mono ?_
 rintro e u1 ⟨qa,qn,qk,rfl,hm,hb,hf⟩
 have HBU:=h_ hb
 have hqn:n=qn:=by obtain ⟨_,_,e,_⟩:=hm.ints;injection e with _ e _;rw[e];exact HLM.out.symm
 subst hqn
 have hlm:=H0M.out.t.lt
 have M1:=H0M.out.u_ hb
 obtain ⟨y0,y1,y2⟩:=M1.t
 have y3:=M1.f 0
 have y4:=M1.f 1
 have y5:=M1.f 2
 have HMM:=h_ (hm.set3 hf hlm (.int .i64 mr) (.int .i64 mc) (.slice qa n qk))
 have HMS:=h_ (M1.set mr mc (.slice qa n qk))
 obtain ⟨em,ec⟩:=HPE.out
 rw[em,ec]at HMM ⊢
 clear em ec
 obtain ⟨V,hV⟩:=gM ((((u1.setCell ⟨w.heap.size+1+1+1,0,none⟩ (.int .i64 mr)).setCell ⟨w.heap.size+1+1+1,1,none⟩ (.int .i64 mc)).setCell ⟨w.heap.size+1+1+1,2,none⟩ (.slice qa n qk)))
 have HV1:=h_ hV
 have HWV:Hid (Below w.heap.size w V):=by rw[hV];exact h_ (S_ (b_ H0W.out hb) (by omega) _ _ _)
 have HBL:Hid (Box V w.heap.size [.int .i64 1,.int .i64 wr,.int .i64 wc,.slice xa xn xk,.int .i64 br,.int .i64 bc,.slice ya yn yk]):=by rw[hV];exact h_ ((H0L.out.u_ hb).set3 (by omega) _ _ _)
 have HMB:Hid (Three V (w.heap.size+1+1+1) mr mc (.slice qa n qk)):=by rw[hV];exact h_ HMS.out.t
 have HMI:Hid (I_ V (.slice qa n qk) pm.cells):=by rw[hV];exact h_ HMM.out.ints
 have HBI:=h_ (HTB.out.u_ HWV.out)
 have HQ:Hid (Box V (w.heap.size+1+1) [.int .i64 0,.int .i64 0,.slice none 0 0]):=by rw[hV];exact h_ ((H0Q.out.u_ hb).set3 (by omega) _ _ _)
 have HFR:Hid (Free V (w.heap.size+1+1)):=by rw[hV];exact h_ ((H0F.out.u_ hb H0Q.out.lt).set3 _ _ _ _)
 clear hm hb hf M1 HMM HMS hlm hV d0 d1 d2 d3 x0 x1 x2 HCL HBU
 have HBK:=h_ (fun W=>blank_any mr mc n W (by rw[HMR.out.1,HMR.out.2,<-HN.out];simp) (by have:=hn576;omega))
 have d0:=HBL.out 0 _ rfl
 obtain ⟨m0,m1,m2⟩:=HMB.out
 rw[HV1.out]at d0 m0 m1 m2
 go_wp2_with fail
 rw[<-HV1.out]
 clear y0 y1 y2 y3 y4 y5
 refine (HBK.out _).mono ?_
 rintro e w1 ⟨g,rfl,hg,hrow,hb1⟩
 have hglt:g<w1.heap.size:=hrow.lt
 have HB1:=h_ hb1
 have HG:=h_ hg
 have HR:=h_ (hrow.alloc (.cells #[.int .i64 mr,.int .i64 mc,.slice (some ⟨g,0,none⟩) n n] 28))
 clear hb1 hg hrow d0 m0 m1 m2 HBK
 go_wp2
 go_loopw [7,8] (fun a _v wr=>∃(i:Nat) (xi:Int),i<=n/\xi=(i:Int)/\a=.int .i64 xi/\RowAt 3 wr g (tab n (fillF (fun q=>ad (A_ pm q) (A_ l.b (q % C))) i))/\(w1.alloc (.cells #[.int .i64 mr,.int .i64 mc,.slice (some ⟨g,0,none⟩) n n] 28)).grownBy wr (some g)) (fun a _ _=>n - (intOf a).toNat)
 case atStart=>exact ⟨0,0,Nat.zero_le _,rfl,rfl,by rw[<-fillF_zero];exact HR.out,World.grownBy.refl _ _⟩
 case round=>
  obtain ⟨i,xi,hi,hxi,rfl,hro,hgr⟩:=hrel
  have p2:=X_ hglt hgr (j:=2) rfl
  have j0:=k_ HB1.out HG.out hgr (HBL.out 0 _ rfl)
  have j1:=k_ HB1.out HG.out hgr HMB.out.2.1
  have j2:=k_ HB1.out HG.out hgr HMB.out.2.2
  have HRO:=h_ hro
  have HGR:=h_ hgr
  have HXI:=h_ hxi
  have hxi0:0<=xi:=by omega
  have hxi1:xi<=576:=by omega
  clear hro hgr hxi
  by_cases hlt:xi<(n:Int)
  ·have hin:i<n:=by have:=HXI.out;omega
   have hxn:xi.toNat=i:=by have:=HXI.out;omega
   obtain ⟨z,hz⟩:∃z,pm.cells[i]?=some z:=⟨pm.cells[i]'(by have:=HLM.out;omega),List.getElem?_eq_getElem _⟩
   obtain ⟨am,capm,esm,_,_,h4m⟩:=HMI.out
   injection esm with sm1 sm2 sm3
   clear sm2 sm3
   obtain ⟨bm,om,rm,hclm⟩:=h4m.resolve_left (fun e=>by rw[e]at hz;simp at hz)
   have sm:=sm1.trans rm
   clear sm1 rm h4m
   subst sm
   have cz:wr.cell? ⟨bm,om+xi.toNat,none⟩=some (.int .i64 z):=by
    rw[hxn]
    exact k_ HB1.out HG.out HGR.out (hclm _ _ hz)
   obtain ⟨u,dx⟩:∃u,wr.cell? ⟨g,xi.toNat,none⟩=some (.int .i64 u):=⟨_,by rw[hxn];exact HRO.out.cell (tab_at hin)⟩
   have fx:wr.frozen? ⟨g,xi.toNat,none⟩=false:=HRO.out.frozen _
   have HZ:=h_ (cellAt_some hz)
   have HXN:=h_ hxn
   clear hclm hz hxn
   have hC0:=HC0.out
   have hm:=Nat.mod_lt i hC0
   obtain ⟨y,hy⟩:∃y:Int,xi % mc=y:=⟨_,rfl⟩
   have hyi:y=((i % C:Nat):Int):=by rw[<-hy,HXI.out,HMR.out.2];simp
   obtain ⟨t,ht⟩:=gN (A_ l.b (i % C))
   have htc:l.b.cells[i % C]?=some t:=by rw[<-ht];unfold A_;rw[List.getElem?_eq_getElem (by have:=HLB.out;omega)];rfl
   obtain ⟨ab,capb,esb,_,_,h4b⟩:=HBI.out
   injection esb with sb1 sb2 sb3
   obtain ⟨bb,ob,rb,hclb⟩:=h4b.resolve_left (fun e=>by rw[e]at htc;simp at htc)
   have sb:=sb1.trans rb
   have yn':C=yn:=by rw[sb2];exact HLB.out.symm
   clear sb1 sb2 sb3 rb h4b
   subst sb yn'
   have cb:wr.cell? ⟨bb,ob+y.toNat,none⟩=some (.int .i64 t):=by
    rw[show y.toNat=i % C by omega]
    exact k_ HB1.out HG.out HGR.out (hclb _ _ htc)
   have j6:=k_ HB1.out HG.out HGR.out (HBL.out 6 _ rfl)
   have hy0:0<=y:=by omega
   have hyl:y<(C:Int):=by omega
   have hcp:0<mc:=by have:=HMR.out.2;omega
   have hc24:mc<=24:=by have:=HMR.out.2;have:=HC24.out;omega
   have HW:=h_ (show fillF_ok (fun q=>ad (A_ pm q) (A_ l.b (q % C))) i (ad z t) by show ad (A_ pm i) (A_ l.b (i % C))=ad z t;rw[HZ.out,ht])
   clear hclb htc ht hyi hm hC0
   go_wp2
   go_quiet ((go_at_call 30;refine Calls.quiet_of_same (radd_any _ _ _)))
   go_wp2
   go_roundw
   case rel=>exact ⟨i+1,_,by omega,by have:=HXI.out;omega,rfl,by
    rw[HXN.out,<-fillF_step _ i n _ HW.out]
    exact (HRO.out.set i _).drewN _,grown_drewN (w_ HGR.out _ _) _⟩
   case measure=>have:=HXI.out;simp[intOf];omega
  ·have hin:i=n:=by have:=HXI.out;omega
   have q0:=k_ HB1.out HG.out HGR.out (HQ.out 0 _ rfl)
   have q1:=k_ HB1.out HG.out HGR.out (HQ.out 1 _ rfl)
   have q2:=k_ HB1.out HG.out HGR.out (HQ.out 2 _ rfl)
   have p0:=X_ hglt HGR.out (j:=0) rfl
   have p1:=X_ hglt HGR.out (j:=1) rfl
   have hql:=HQ.out.lt
   have z0:=z_ HB1.out HG.out HGR.out (p:=⟨w.heap.size+1+1,0,none⟩) hql (HFR.out 0)
   have z1:=z_ HB1.out HG.out HGR.out (p:=⟨w.heap.size+1+1,1,none⟩) hql (HFR.out 1)
   have z2:=z_ HB1.out HG.out HGR.out (p:=⟨w.heap.size+1+1,2,none⟩) hql (HFR.out 2)
   have HIN:=h_ hin
   have HQL:=h_ hql
   clear hin hql
   go_wp2
   have hgw:w.heap.size+1+1≠g:=by have:=HQL.out;have:=HG.out;omega
   refine bodyPost_ret (v:=.agg #[.int .i64 mr,.int .i64 mc,.slice (some ⟨g,0,none⟩) n n]) (by simp[results,Tryz.results89,go_sem,q0,q1,q2]) rfl ?_
   have hX:goX l x=⟨R,C,tab n (fun q=>ad (A_ pm q) (A_ l.b (q % C)))⟩:=HX.out
   rw[hX]
   refine ⟨some ⟨g,0,none⟩,n,n,by rw[HMR.out.1,HMR.out.2],⟨_,rfl,?_⟩,?_,fresh_at (by have:=HWV.out.size;have:=HG.out;omega) _ _ _⟩
   ·have h:=HRO.out
    rw[HIN.out,fillF_end]at h
    exact (((h.other ⟨w.heap.size+1+1,0,none⟩ _ hgw.symm).other ⟨w.heap.size+1+1,1,none⟩ _ hgw.symm).other ⟨w.heap.size+1+1,2,none⟩ _ hgw.symm).isTab (by unfold maxLen;omega)
   ·exact (((keep_below HWV.out HB1.out HG.out HGR.out).setCell (by simp;omega) _).setCell (by simp;omega) _).setCell (by simp;omega) _
set_option maxHeartbeats 4000000 in
set_option maxRecDepth 100000 in
theorem rgo_scale(l:Ly){xa:Option Addr}{xn xk:Nat}{ya:Option Addr}{yn yk:Nat}(x:Mx)(vx:Value)(w:World)(hk:l.k=3)(hE:goE l x=0)(hs:I_ w (.slice xa xn xk) l.w.cells)(hx:M_ w vx x):
  Calls Tryz.prog 89 #[.agg #[.int .i64 3,.int .i64 l.w.rows,.int .i64 l.w.cols,.slice xa xn xk,.int .i64 l.b.rows,.int .i64 l.b.cols,.slice ya yn yk],vx] w (RefEnd w (goX l x)):=by
 obtain ⟨sx,rfl,hsx⟩:=hx
 obtain ⟨za,zn,zk,rfl⟩:=hsx.shape
 obtain ⟨wr,e1⟩:=gN (l.w.rows)
 obtain ⟨wc,e2⟩:=gN (l.w.cols)
 obtain ⟨br,e3⟩:=gN (l.b.rows)
 obtain ⟨bc,e4⟩:=gN (l.b.cols)
 obtain ⟨r,e5⟩:=gN (x.rows)
 obtain ⟨c,e6⟩:=gN (x.cols)
 obtain ⟨hl,hfx,htk⟩:=goE_zero hE
 obtain ⟨R,Cx,gx⟩:=o__ hfx
 obtain ⟨gw⟩:Nonempty (PLift (Good l.w 1 1)):=by
  cases lyG_of hl using LyG.el with
  |lin _ _ hk' _ _ _ _ _=>omega
  |relu hk' _ _=>omega
  |scale _ gw _=>exact ⟨⟨gw⟩⟩
  |shift _ hk' _ _ _=>omega
 have gw:=gw.down
 obtain ⟨y,hy⟩:=gN (A_ l.w 0)
 have gp:=gx.times y
 have HCL:=h_ (fun W (h:Below w.heap.size w W)=>ref_times y W (va:=.agg #[.int .i64 x.rows,.int .i64 x.cols,.slice za zn zk]) (a:=x) ⟨_,rfl,hsx.u_ h⟩ hfx)
 obtain ⟨pm,hpm⟩:=gN (timesX x y)
 rw[hpm]at HCL gp
 rw[e5,e6]at HCL
 obtain ⟨C,hCC⟩:=gM (Cx)
 subst hCC
 have hw0:l.w.cells[0]?=some y:=by rw[<-hy];unfold A_;rw[List.getElem?_eq_getElem (by have:=gw.l;omega)];rfl
 have hwl:=gw.l
 obtain ⟨aa,cap,esv,h2,h3,h4⟩:=hs
 injection esv with q1 q2 q3
 obtain ⟨b,off,rfl,hcl⟩:=h4.resolve_left (fun e=>by rw[e]at hw0;simp at hw0)
 have h0:w.cell? ⟨b,off,none⟩=some (.int .i64 y):=hcl 0 y hw0
 have q2':xn=1:=by omega
 subst q1 q2'
 clear q2 q3 h2 h3 h4 hcl hw0 hwl
 obtain ⟨n,hn⟩:=gN (R*C)
 have hn576:n<=576:=by have:=Nat.mul_le_mul gp.hR gp.hC;omega
 have HX:=h_ (show goX l x=⟨R,C,tab n (fun q=>A_ pm q)⟩ by
  unfold goX goG
  rw[if_pos hE,if_neg (by omega),if_neg (by omega),if_pos hk,hy,hpm]
  have e:=each_self gp
  rw[each_eq gp,hn]at e
  exact e.symm)
 have HLM:=h_ (show pm.cells.length=n by rw[gp.l,hn])
 have HN:=h_ hn
 rw[e1,e2,e3,e4,e5,e6]
 obtain ⟨V0,hV⟩:=gM (((((w.alloc (.cells #[.int .i64 3,.int .i64 wr,.int .i64 wc,.slice (some ⟨b,off,none⟩) 1 xk,.int .i64 br,.int .i64 bc,.slice ya yn yk] 58)).alloc (.cells #[.int .i64 r,.int .i64 c,.slice za zn zk] 28)).alloc (.cells #[.int .i64 0,.int .i64 0,.slice none 0 0] 28)).alloc (.cells #[.int .i64 r,.int .i64 c,.slice za zn zk] 28)))
 have HV:=h_ hV
 have H0W:Hid (Below w.heap.size w V0):=by rw[hV];exact h_ (b_ (b_ (b_ (o_ _ _) (o_ _ _)) (o_ _ _)) (o_ _ _))
 have H0L:Hid (Box V0 w.heap.size [.int .i64 3,.int .i64 wr,.int .i64 wc,.slice (some ⟨b,off,none⟩) 1 xk,.int .i64 br,.int .i64 bc,.slice ya yn yk]):=by rw[hV];exact h_ ((((Box.new w [.int .i64 3,.int .i64 wr,.int .i64 wc,.slice (some ⟨b,off,none⟩) 1 xk,.int .i64 br,.int .i64 bc,.slice ya yn yk] 58 rfl).u_ (o_ _ _)).u_ (o_ _ _)).u_ (o_ _ _))
 have H0X:Hid (Box V0 (w.heap.size+1) [.int .i64 r,.int .i64 c,.slice za zn zk]):=by rw[hV];exact h_ (((Box.new _ [.int .i64 r,.int .i64 c,.slice za zn zk] 28 (by simp)).u_ (o_ _ _)).u_ (o_ _ _))
 have H0Q:Hid (Box V0 (w.heap.size+1+1) [.int .i64 0,.int .i64 0,.slice none 0 0]):=by rw[hV];exact h_ ((Box.new _ [.int .i64 0,.int .i64 0,.slice none 0 0] 28 (by simp)).u_ (o_ _ _))
 have H0F:Hid (Free V0 (w.heap.size+1+1)):=by rw[hV];exact h_ ((Free.new _ _ 28 (by simp)).u_ (o_ _ _) (by simp))
 have H0M:Hid (Mut V0 (w.heap.size+1+1+1) r c (.slice za zn zk)):=by rw[hV];exact h_ (Mut.newB _ _ _ _ 28 (by simp))
 clear hV
 obtain ⟨mr,emr⟩:=gN (pm.rows)
 obtain ⟨mc,emc⟩:=gN (pm.cols)
 have HMR:=h_ (show mr=(R:Int)/\mc=(C:Int) by rw[<-emr,<-emc];exact ⟨gp.r,gp.c⟩)
 have HPE:=h_ (And.intro emr emc)
 have g0:=c_ H0W.out h0
 have HBD:=h_ (r_ H0W.out)
 clear hsx gw hy h0 gx gp hpm hn hk hl hfx htk e1 e2 e3 e4 e5 e6 emr emc hE
 have d0:=H0L.out 0 _ rfl
 have d1:=H0L.out 1 _ rfl
 have d2:=H0L.out 2 _ rfl
 have d3:=H0L.out 3 _ rfl
 obtain ⟨x0,x1,x2⟩:=H0X.out.c3
 go_enter Tryz.func89,Tryz.ntmps89
 go_wp2
 rw[<-HV.out]
 refine region_tail 6 (by kernel_rfl) (by kernel_rfl) ?_
 simp only[List.take_succ_cons,List.take_zero,List.drop_succ_cons,List.drop_zero]
 repeat still_step
 refine wpStill_nil ?_
 go_wp2_with fail
 refine (HCL.out _ HBD.out).mono ?_
 rintro e u1 ⟨qa,qn,qk,rfl,hm,hb0,hf⟩
 have hb:=b_ (r_ (Below.refl V0.heap.size V0)) hb0
 have HBU:=h_ hb
 clear hb0 g0
 have hqn:n=qn:=by obtain ⟨_,_,e,_⟩:=hm.ints;injection e with _ e _;rw[e];exact HLM.out.symm
 subst hqn
 have hlm:=H0M.out.t.lt
 have M1:=H0M.out.u_ hb
 obtain ⟨y0,y1,y2⟩:=M1.t
 have y3:=M1.f 0
 have y4:=M1.f 1
 have y5:=M1.f 2
 have HMM:=h_ (hm.set3 hf hlm (.int .i64 mr) (.int .i64 mc) (.slice qa n qk))
 have HMS:=h_ (M1.set mr mc (.slice qa n qk))
 obtain ⟨em,ec⟩:=HPE.out
 rw[em,ec]at HMM ⊢
 clear em ec
 obtain ⟨V,hV⟩:=gM ((((u1.setCell ⟨w.heap.size+1+1+1,0,none⟩ (.int .i64 mr)).setCell ⟨w.heap.size+1+1+1,1,none⟩ (.int .i64 mc)).setCell ⟨w.heap.size+1+1+1,2,none⟩ (.slice qa n qk)))
 have HV1:=h_ hV
 have HWV:Hid (Below w.heap.size w V):=by rw[hV];exact h_ (S_ (b_ H0W.out hb) (by omega) _ _ _)
 have HBL:Hid (Box V w.heap.size [.int .i64 3,.int .i64 wr,.int .i64 wc,.slice (some ⟨b,off,none⟩) 1 xk,.int .i64 br,.int .i64 bc,.slice ya yn yk]):=by rw[hV];exact h_ ((H0L.out.u_ hb).set3 (by omega) _ _ _)
 have HMB:Hid (Three V (w.heap.size+1+1+1) mr mc (.slice qa n qk)):=by rw[hV];exact h_ HMS.out.t
 have HMI:Hid (I_ V (.slice qa n qk) pm.cells):=by rw[hV];exact h_ HMM.out.ints
 have HQ:Hid (Box V (w.heap.size+1+1) [.int .i64 0,.int .i64 0,.slice none 0 0]):=by rw[hV];exact h_ ((H0Q.out.u_ hb).set3 (by omega) _ _ _)
 have HFR:Hid (Free V (w.heap.size+1+1)):=by rw[hV];exact h_ ((H0F.out.u_ hb H0Q.out.lt).set3 _ _ _ _)
 clear hm hb hf M1 HMM HMS hlm hV d0 d1 d2 d3 x0 x1 x2 HCL HBU
 have HBK:=h_ (fun W=>blank_any mr mc n W (by rw[HMR.out.1,HMR.out.2,<-HN.out];simp) (by have:=hn576;omega))
 have d0:=HBL.out 0 _ rfl
 obtain ⟨m0,m1,m2⟩:=HMB.out
 rw[HV1.out]at d0 m0 m1 m2
 go_wp2_with fail
 rw[<-HV1.out]
 clear y0 y1 y2 y3 y4 y5
 refine (HBK.out _).mono ?_
 rintro e w1 ⟨g,rfl,hg,hrow,hb1⟩
 have hglt:g<w1.heap.size:=hrow.lt
 have HB1:=h_ hb1
 have HG:=h_ hg
 have HR:=h_ (hrow.alloc (.cells #[.int .i64 mr,.int .i64 mc,.slice (some ⟨g,0,none⟩) n n] 28))
 clear hb1 hg hrow d0 m0 m1 m2 HBK
 go_wp2
 go_loopw [7,8] (fun a _v wr=>∃(i:Nat) (xi:Int),i<=n/\xi=(i:Int)/\a=.int .i64 xi/\RowAt 3 wr g (tab n (fillF (fun q=>A_ pm q) i))/\(w1.alloc (.cells #[.int .i64 mr,.int .i64 mc,.slice (some ⟨g,0,none⟩) n n] 28)).grownBy wr (some g)) (fun a _ _=>n - (intOf a).toNat)
 case atStart=>exact ⟨0,0,Nat.zero_le _,rfl,rfl,by rw[<-fillF_zero];exact HR.out,World.grownBy.refl _ _⟩
 case round=>
  obtain ⟨i,xi,hi,hxi,rfl,hro,hgr⟩:=hrel
  have p2:=X_ hglt hgr (j:=2) rfl
  have j0:=k_ HB1.out HG.out hgr (HBL.out 0 _ rfl)
  have j1:=k_ HB1.out HG.out hgr HMB.out.2.1
  have j2:=k_ HB1.out HG.out hgr HMB.out.2.2
  have HRO:=h_ hro
  have HGR:=h_ hgr
  have HXI:=h_ hxi
  have hxi0:0<=xi:=by omega
  have hxi1:xi<=576:=by omega
  clear hro hgr hxi
  by_cases hlt:xi<(n:Int)
  ·have hin:i<n:=by have:=HXI.out;omega
   have hxn:xi.toNat=i:=by have:=HXI.out;omega
   obtain ⟨z,hz⟩:∃z,pm.cells[i]?=some z:=⟨pm.cells[i]'(by have:=HLM.out;omega),List.getElem?_eq_getElem _⟩
   obtain ⟨am,capm,esm,_,_,h4m⟩:=HMI.out
   injection esm with sm1 sm2 sm3
   clear sm2 sm3
   obtain ⟨bm,om,rm,hclm⟩:=h4m.resolve_left (fun e=>by rw[e]at hz;simp at hz)
   have sm:=sm1.trans rm
   clear sm1 rm h4m
   subst sm
   have cz:wr.cell? ⟨bm,om+xi.toNat,none⟩=some (.int .i64 z):=by
    rw[hxn]
    exact k_ HB1.out HG.out HGR.out (hclm _ _ hz)
   obtain ⟨u,dx⟩:∃u,wr.cell? ⟨g,xi.toNat,none⟩=some (.int .i64 u):=⟨_,by rw[hxn];exact HRO.out.cell (tab_at hin)⟩
   have fx:wr.frozen? ⟨g,xi.toNat,none⟩=false:=HRO.out.frozen _
   have HZ:=h_ (cellAt_some hz)
   have HXN:=h_ hxn
   clear hclm hz hxn
   have HW:=h_ (show fillF_ok (fun q=>A_ pm q) i z by show A_ pm i=z;exact HZ.out)
   go_wp2
   go_roundw
   case rel=>exact ⟨i+1,_,by omega,by have:=HXI.out;omega,rfl,by
    rw[HXN.out,<-fillF_step _ i n _ HW.out]
    exact HRO.out.set i _,w_ HGR.out _ _⟩
   case measure=>have:=HXI.out;simp[intOf];omega
  ·have hin:i=n:=by have:=HXI.out;omega
   have q0:=k_ HB1.out HG.out HGR.out (HQ.out 0 _ rfl)
   have q1:=k_ HB1.out HG.out HGR.out (HQ.out 1 _ rfl)
   have q2:=k_ HB1.out HG.out HGR.out (HQ.out 2 _ rfl)
   have p0:=X_ hglt HGR.out (j:=0) rfl
   have p1:=X_ hglt HGR.out (j:=1) rfl
   have hql:=HQ.out.lt
   have z0:=z_ HB1.out HG.out HGR.out (p:=⟨w.heap.size+1+1,0,none⟩) hql (HFR.out 0)
   have z1:=z_ HB1.out HG.out HGR.out (p:=⟨w.heap.size+1+1,1,none⟩) hql (HFR.out 1)
   have z2:=z_ HB1.out HG.out HGR.out (p:=⟨w.heap.size+1+1,2,none⟩) hql (HFR.out 2)
   have HIN:=h_ hin
   have HQL:=h_ hql
   clear hin hql
   go_wp2
   have hgw:w.heap.size+1+1≠g:=by have:=HQL.out;have:=HG.out;omega
   refine bodyPost_ret (v:=.agg #[.int .i64 mr,.int .i64 mc,.slice (some ⟨g,0,none⟩) n n]) (by simp[results,Tryz.results89,go_sem,q0,q1,q2]) rfl ?_
   have hX:goX l x=⟨R,C,tab n (fun q=>A_ pm q)⟩:=HX.out
   rw[hX]
   refine ⟨some ⟨g,0,none⟩,n,n,by rw[HMR.out.1,HMR.out.2],⟨_,rfl,?_⟩,?_,fresh_at (by have:=HWV.out.size;have:=HG.out;omega) _ _ _⟩
   ·have h:=HRO.out
    rw[HIN.out,fillF_end]at h
    exact (((h.other ⟨w.heap.size+1+1,0,none⟩ _ hgw.symm).other ⟨w.heap.size+1+1,1,none⟩ _ hgw.symm).other ⟨w.heap.size+1+1,2,none⟩ _ hgw.symm).isTab (by unfold maxLen;omega)
   ·exact (((keep_below HWV.out HB1.out HG.out HGR.out).setCell (by simp;omega) _).setCell (by simp;omega) _).setCell (by simp;omega) _
end Go.Proofs.YtniloklglpchfaeGreatDoor
