/- What BackOf of the document's answer comes to at the kinds Relu and Shift: what goes back, and the Grad. -/
import Derived.Test.YtniloklglpchfaeGreatDoorRLGo
import Derived.Test.YtniloklglpchfaeGreatDoorLBack
namespace Go.Proofs.YtniloklglpchfaeGreatDoor
open Go.RowKit
def RefBack (w:World) (m a b:Mx) (e:Ending) (w':World):Prop:=∃v d,e=.returned (.tuple #[v,d])/\M_ w' v m/\IsTwo w' d a b/\Below w.heap.size w w'/\F_ w.heap.size v/\Fresh2 w.heap.size d
theorem fillF_skip(h:Nat->Int)(i n:Nat)(hz:h i=0):tab n (fillF h i)=tab n (fillF h (i+1)):=tab_congr (fun q _=>by
 unfold fillF
 by_cases hq:q<i
 ·rw[if_pos hq,if_pos (by omega)]
 ·rw[if_neg hq]
  by_cases hq':q=i
  ·subst hq';rw[if_pos (by omega),hz]
  ·rw[if_neg (by omega)])
theorem I_.keep{V w1 wr:World}{o:Obj}{g:Nat}(hb:Below V.heap.size V w1)(hg:V.heap.size<=g)(hgr:(w1.alloc o).grownBy wr (some g)){s:Value}{zs:List Int}(h:I_ V s zs):I_ wr s zs:=by
 obtain ⟨a,cap,h1,h2,h3,h4⟩:=h
 exact ⟨a,cap,h1,h2,h3,h4.imp id (fun ⟨b,off,e,hc⟩=>⟨b,off,e,fun i x hx=>k_ hb hg hgr (hc i x hx)⟩)⟩
theorem two_set{w:World}{B:Nat}{a0 a1 a2 a3 a4 a5:Value}(h:Box w B [a0,a1,a2,a3,a4,a5])(x y z:Value):Box (((w.setCell ⟨B,3,none⟩ x).setCell ⟨B,4,none⟩ y).setCell ⟨B,5,none⟩ z) B [a0,a1,a2,x,y,z]:=by
 have o:∀(u:World) (i j:Nat) (v:Value),i≠j->(u.setCell ⟨B,i,none⟩ v).cell? ⟨B,j,none⟩=u.cell? ⟨B,j,none⟩:=fun u i j v hij=>cell_at_other u B i j v hij
 intro j v hv
 match j,hv with
 |0,hv=>simp at hv;subst hv;rw[o _ 5 0 _ (by decide),o _ 4 0 _ (by decide),o _ 3 0 _ (by decide)];exact h 0 _ rfl
 |1,hv=>simp at hv;subst hv;rw[o _ 5 1 _ (by decide),o _ 4 1 _ (by decide),o _ 3 1 _ (by decide)];exact h 1 _ rfl
 |2,hv=>simp at hv;subst hv;rw[o _ 5 2 _ (by decide),o _ 4 2 _ (by decide),o _ 3 2 _ (by decide)];exact h 2 _ rfl
 |3,hv=>simp at hv;subst hv;rw[o _ 5 3 _ (by decide),o _ 4 3 _ (by decide)];exact World.cell?_setCell_same _ _ _ (h 3 _ rfl)
 |4,hv=>simp at hv;subst hv;rw[o _ 5 4 _ (by decide)];exact World.cell?_setCell_same _ _ _ ((o _ 3 4 _ (by decide)).trans (h 4 _ rfl))
 |5,hv=>simp at hv;subst hv;exact World.cell?_setCell_same _ _ _ ((o _ 4 5 _ (by decide)).trans ((o _ 3 5 _ (by decide)).trans (h 5 _ rfl)))
theorem Box.set345{w:World}{B B':Nat}{cs:List Value}(h:Box w B cs)(hne:B≠B')(x y z:Value):Box (((w.setCell ⟨B',3,none⟩ x).setCell ⟨B',4,none⟩ y).setCell ⟨B',5,none⟩ z) B cs:=((h.other hne x).other hne y).other hne z
theorem Free.set345{w:World}{B:Nat}(h:Free w B)(B':Nat)(x y z:Value):Free (((w.setCell ⟨B',3,none⟩ x).setCell ⟨B',4,none⟩ y).setCell ⟨B',5,none⟩ z) B:=fun j=>by simp[h j]
set_option maxHeartbeats 8000000 in
set_option maxRecDepth 100000 in
theorem rback_relu(l:Ly){xa:Option Addr}{xn xk:Nat}{ya:Option Addr}{yn yk:Nat}(x g:Mx)(vx vg:Value)(w:World)(hk:l.k=2)(hE:backE l x g=0)(hx:M_ w vx x)(hg:M_ w vg g):
  Calls Tryz.prog 93 #[.agg #[.int .i64 2,.int .i64 l.w.rows,.int .i64 l.w.cols,.slice xa xn xk,.int .i64 l.b.rows,.int .i64 l.b.cols,.slice ya yn yk],vx,vg] w (RefBack w (backX l x g) (gradW l x g) (gradB l x g)):=by
 obtain ⟨sx,rfl,hsx⟩:=hx
 obtain ⟨za,zn,zk,rfl⟩:=hsx.shape
 obtain ⟨sg,rfl,hsg⟩:=hg
 obtain ⟨ga,gn,gk,rfl⟩:=hsg.shape
 obtain ⟨wr,e1⟩:=gN (l.w.rows)
 obtain ⟨wc,e2⟩:=gN (l.w.cols)
 obtain ⟨br,e3⟩:=gN (l.b.rows)
 obtain ⟨bc,e4⟩:=gN (l.b.cols)
 obtain ⟨r,e5⟩:=gN (x.rows)
 obtain ⟨c,e6⟩:=gN (x.cols)
 obtain ⟨r',e7⟩:=gN (g.rows)
 obtain ⟨c',e8⟩:=gN (g.cols)
 obtain ⟨hgo,hfg,s1,s2,_⟩:=backE_zero hE
 obtain ⟨_,hfx,_⟩:=goE_zero hgo
 obtain ⟨R,C,gx⟩:=o__ hfx
 obtain ⟨Rg,Cg,gg⟩:=o__ hfg
 have eg:g_ l x.cols=x.cols:=by unfold g_;rw[if_neg (by omega)]
 have gg:=gg.same (R':=R) (C':=C) (by have:=gg.r;have:=gx.r;omega) (by have:=gg.c;have:=gx.c;omega)
 obtain ⟨n,hn⟩:=gN (R*C)
 have hn576:n<=576:=by have:=Nat.mul_le_mul gx.hR gx.hC;omega
 have hX:backX l x g=⟨R,C,tab n (fun q=>if 0<A_ x q then A_ g q else 0)⟩:=by
  unfold backX backG
  rw[if_pos hE,if_neg (by omega),if_pos hk]
  unfold reluB
  rw[each_eq gg,hn]
 have hW:gradW l x g=noMx:=by unfold gradW;rw[if_pos hE,if_neg (by omega),if_neg (by omega)]
 have hB:gradB l x g=noMx:=by unfold gradB;rw[if_pos hE,if_neg (by omega)]
 rw[hX,hW,hB]
 have hzn:n=zn:=by obtain ⟨_,_,e,_⟩:=hsx;injection e with _ e _;rw[e,gx.l,hn]
 have hgn:n=gn:=by obtain ⟨_,_,e,_⟩:=hsg;injection e with _ e _;rw[e,gg.l,hn]
 subst hzn hgn
 have HLX:=h_ (show x.cells.length=n by rw[gx.l,hn])
 have HLG:=h_ (show g.cells.length=n by rw[gg.l,hn])
 have HN:=h_ hn
 have HMR:=h_ (show r=(R:Int)/\c=(C:Int) by rw[<-e5,<-e6];exact ⟨gx.r,gx.c⟩)
 have HSX:=h_ hsx
 have HSG:=h_ hsg
 rw[e1,e2,e3,e4,e5,e6,e7,e8]
 obtain ⟨V0,hV⟩:=gM (((((((w.alloc (.cells #[.int .i64 2,.int .i64 wr,.int .i64 wc,.slice xa xn xk,.int .i64 br,.int .i64 bc,.slice ya yn yk] 58)).alloc (.cells #[.int .i64 r,.int .i64 c,.slice za n zk] 28)).alloc (.cells #[.int .i64 r',.int .i64 c',.slice ga n gk] 28)).alloc (.cells #[.int .i64 0,.int .i64 0,.slice none 0 0] 28)).alloc (.cells #[.int .i64 0,.int .i64 0,.slice none 0 0,.int .i64 0,.int .i64 0,.slice none 0 0] 61)).alloc (.cells #[.int .i64 0,.int .i64 0,.slice none 0 0,.int .i64 0,.int .i64 0,.slice none 0 0] 61)))
 have HV:=h_ hV
 have H0W:Hid (Below w.heap.size w V0):=by rw[hV];exact h_ (b_ (b_ (b_ (b_ (b_ (o_ _ _) (o_ _ _)) (o_ _ _)) (o_ _ _)) (o_ _ _)) (o_ _ _))
 have H0L:Hid (Box V0 w.heap.size [.int .i64 2,.int .i64 wr,.int .i64 wc,.slice xa xn xk,.int .i64 br,.int .i64 bc,.slice ya yn yk]):=by rw[hV];exact h_ ((((((Box.new w [.int .i64 2,.int .i64 wr,.int .i64 wc,.slice xa xn xk,.int .i64 br,.int .i64 bc,.slice ya yn yk] 58 rfl).u_ (o_ _ _)).u_ (o_ _ _)).u_ (o_ _ _)).u_ (o_ _ _)).u_ (o_ _ _))
 have H0X:Hid (Box V0 (w.heap.size+1) [.int .i64 r,.int .i64 c,.slice za n zk]):=by rw[hV];exact h_ (((((Box.new _ [.int .i64 r,.int .i64 c,.slice za n zk] 28 (by simp)).u_ (o_ _ _)).u_ (o_ _ _)).u_ (o_ _ _)).u_ (o_ _ _))
 have H0G:Hid (Box V0 (w.heap.size+1+1) [.int .i64 r',.int .i64 c',.slice ga n gk]):=by rw[hV];exact h_ ((((Box.new _ [.int .i64 r',.int .i64 c',.slice ga n gk] 28 (by simp)).u_ (o_ _ _)).u_ (o_ _ _)).u_ (o_ _ _))
 have H0Q:Hid (Box V0 (w.heap.size+1+1+1) [.int .i64 0,.int .i64 0,.slice none 0 0]):=by rw[hV];exact h_ (((Box.new _ [.int .i64 0,.int .i64 0,.slice none 0 0] 28 (by simp)).u_ (o_ _ _)).u_ (o_ _ _))
 have H0F:Hid (Free V0 (w.heap.size+1+1+1)):=by rw[hV];exact h_ (((Free.new _ _ 28 (by simp)).u_ (o_ _ _) (by simp)).u_ (o_ _ _) (by simp))
 have H0P:Hid (Box V0 (w.heap.size+1+1+1+1) [.int .i64 0,.int .i64 0,.slice none 0 0,.int .i64 0,.int .i64 0,.slice none 0 0]):=by rw[hV];exact h_ ((Box.new _ [.int .i64 0,.int .i64 0,.slice none 0 0,.int .i64 0,.int .i64 0,.slice none 0 0] 61 (by simp)).u_ (o_ _ _))
 have H0E:Hid (Free V0 (w.heap.size+1+1+1+1)):=by rw[hV];exact h_ ((Free.new _ _ 61 (by simp)).u_ (o_ _ _) (by simp))
 have H0D:Hid (Box V0 (w.heap.size+1+1+1+1+1) [.int .i64 0,.int .i64 0,.slice none 0 0,.int .i64 0,.int .i64 0,.slice none 0 0]):=by rw[hV];exact h_ (Box.new _ [.int .i64 0,.int .i64 0,.slice none 0 0,.int .i64 0,.int .i64 0,.slice none 0 0] 61 (by simp))
 have H0I:Hid (Free V0 (w.heap.size+1+1+1+1+1)):=by rw[hV];exact h_ (Free.new _ _ 61 (by simp))
 clear hV
 clear hsx hsg gx gg hn hk hE hgo hfg hfx eg s1 s2 hX hW hB e1 e2 e3 e4 e5 e6 e7 e8
 have HBK:=h_ (fun W=>blank_any r c n W (by rw[HMR.out.1,HMR.out.2,<-HN.out];simp) (by omega))
 have HWV:=H0W
 have HBL:=H0L
 have HBX:=H0X
 have HBG:=H0G
 have HQ:=H0Q
 have HFR:=H0F
 have HP:=H0P
 have HFP:=H0E
 have HD:=H0D
 go_enter Tryz.func93,Tryz.ntmps93
 go_wp2_with fail
 rw[<-HV.out]
 obtain ⟨V,hVV⟩:=gM (V0)
 rw[<-hVV]at HWV HBL HBX HBG HQ HFR HP HFP HD ⊢
 clear hVV
 refine (HBK.out _).mono ?_
 rintro e w1 ⟨h,rfl,hh,hrow,hb1⟩
 have hglt:h<w1.heap.size:=hrow.lt
 have HB1:=h_ hb1
 have HG:=h_ hh
 have HR:=h_ (hrow.alloc (.cells #[.int .i64 r,.int .i64 c,.slice (some ⟨h,0,none⟩) n n] 28))
 have HXI:=h_ (HSX.out.u_ HWV.out)
 have HGI:=h_ (HSG.out.u_ HWV.out)
 clear hb1 hh hrow HBK
 go_wp2
 go_loopw [17] (fun a wr=>∃(i:Nat) (xi:Int),i<=n/\xi=(i:Int)/\a=.int .i64 xi/\RowAt 3 wr h (tab n (fillF (fun q=>if 0<A_ x q then A_ g q else 0) i))/\(w1.alloc (.cells #[.int .i64 r,.int .i64 c,.slice (some ⟨h,0,none⟩) n n] 28)).grownBy wr (some h)) (fun a _=>n - (intOf a).toNat)
 case atStart=>exact ⟨0,0,Nat.zero_le _,rfl,rfl,by rw[<-fillF_zero];exact HR.out,World.grownBy.refl _ _⟩
 case round=>
  obtain ⟨i,xi,hi,hxi,rfl,hro,hgr⟩:=hrel
  have p2:=X_ hglt hgr (j:=2) rfl
  have j0:=k_ HB1.out HG.out hgr (HBL.out 0 _ rfl)
  have jx:=k_ HB1.out HG.out hgr (HBX.out 2 _ rfl)
  have jg:=k_ HB1.out HG.out hgr (HBG.out 2 _ rfl)
  have HRO:=h_ hro
  have HGR:=h_ hgr
  have HXJ:=h_ hxi
  have hxi0:0<=xi:=by omega
  have hxi1:xi<=576:=by omega
  clear hro hgr hxi
  by_cases hlt:xi<(n:Int)
  ·have hin:i<n:=by have:=HXJ.out;omega
   have hxn:xi.toNat=i:=by have:=HXJ.out;omega
   obtain ⟨z,hz⟩:∃z,g.cells[i]?=some z:=⟨g.cells[i]'(by have:=HLG.out;omega),List.getElem?_eq_getElem _⟩
   obtain ⟨am,capm,esm,_,_,h4m⟩:=HGI.out
   injection esm with sm1 sm2 sm3
   clear sm2 sm3
   obtain ⟨bm,om,rm,hclm⟩:=h4m.resolve_left (fun e=>by rw[e]at hz;simp at hz)
   have sm:=sm1.trans rm
   clear sm1 rm h4m
   subst sm
   have cz:wr.cell? ⟨bm,om+xi.toNat,none⟩=some (.int .i64 z):=by
    rw[hxn]
    exact k_ HB1.out HG.out HGR.out (hclm _ _ hz)
   obtain ⟨u,dx⟩:∃u,wr.cell? ⟨h,xi.toNat,none⟩=some (.int .i64 u):=⟨_,by rw[hxn];exact HRO.out.cell (tab_at hin)⟩
   have fx:wr.frozen? ⟨h,xi.toNat,none⟩=false:=HRO.out.frozen _
   have HZ:=h_ (cellAt_some hz)
   have HXN:=h_ hxn
   clear hclm hz
   obtain ⟨y,hy⟩:∃z,x.cells[i]?=some z:=⟨x.cells[i]'(by have:=HLX.out;omega),List.getElem?_eq_getElem _⟩
   obtain ⟨am',capm',esm',_,_,h4m'⟩:=HXI.out
   injection esm' with sm1' sm2' sm3'
   clear sm2' sm3'
   obtain ⟨bx,ox,rx,hclx⟩:=h4m'.resolve_left (fun e=>by rw[e]at hy;simp at hy)
   have sx':=sm1'.trans rx
   clear sm1' rx h4m'
   subst sx'
   have cy:wr.cell? ⟨bx,ox+xi.toNat,none⟩=some (.int .i64 y):=by
    rw[hxn]
    exact k_ HB1.out HG.out HGR.out (hclx _ _ hy)
   have HY:=h_ (cellAt_some hy)
   clear hclx hy
   by_cases hy0:0<y
   ·have HW:=h_ (show fillF_ok (fun q=>if 0<A_ x q then A_ g q else 0) i z by show (if 0<A_ x i then A_ g i else 0)=z;rw[HY.out,HZ.out,if_pos hy0])
    clear hxn
    go_wp2
    refine region_tail 9 (by kernel_rfl) (by kernel_rfl) ?_
    simp only[List.take_succ_cons,List.take_zero,List.drop_succ_cons,List.drop_zero]
    repeat still_step
    refine wpStill_nil ?_
    go_wp2
    exact ⟨⟨i+1,_,by omega,by have:=HXJ.out;omega,rfl,by
     rw[HXN.out,<-fillF_step _ i n _ HW.out]
     exact HRO.out.set i _,grown_drew (w_ HGR.out _ _)⟩,by have:=HXJ.out;simp[intOf];omega⟩
   ·have HW:=h_ (show (fun q=>if 0<A_ x q then A_ g q else 0) i=0 by show (if 0<A_ x i then A_ g i else 0)=0;rw[HY.out,if_neg hy0])
    clear hxn
    go_wp2
    go_roundw
    case rel=>exact ⟨i+1,_,by omega,by have:=HXJ.out;omega,rfl,by rw[<-fillF_skip _ i n HW.out];exact HRO.out,HGR.out⟩
    case measure=>have:=HXJ.out;simp[intOf];omega
  ·have hin:i=n:=by have:=HXJ.out;omega
   have p0:=X_ hglt HGR.out (j:=0) rfl
   have p1:=X_ hglt HGR.out (j:=1) rfl
   have q0:=k_ HB1.out HG.out HGR.out (HQ.out 0 _ rfl)
   have f0:=z_ HB1.out HG.out HGR.out (p:=⟨w.heap.size+1+1+1,0,none⟩) HQ.out.lt (HFR.out 0)
   have q1:=k_ HB1.out HG.out HGR.out (HQ.out 1 _ rfl)
   have f1:=z_ HB1.out HG.out HGR.out (p:=⟨w.heap.size+1+1+1,1,none⟩) HQ.out.lt (HFR.out 1)
   have q2:=k_ HB1.out HG.out HGR.out (HQ.out 2 _ rfl)
   have f2:=z_ HB1.out HG.out HGR.out (p:=⟨w.heap.size+1+1+1,2,none⟩) HQ.out.lt (HFR.out 2)
   have t0:=k_ HB1.out HG.out HGR.out (HP.out 0 _ rfl)
   have v0:=z_ HB1.out HG.out HGR.out (p:=⟨w.heap.size+1+1+1+1,0,none⟩) HP.out.lt (HFP.out 0)
   have d0:=k_ HB1.out HG.out HGR.out (HD.out 0 _ rfl)
   have t1:=k_ HB1.out HG.out HGR.out (HP.out 1 _ rfl)
   have v1:=z_ HB1.out HG.out HGR.out (p:=⟨w.heap.size+1+1+1+1,1,none⟩) HP.out.lt (HFP.out 1)
   have d1:=k_ HB1.out HG.out HGR.out (HD.out 1 _ rfl)
   have t2:=k_ HB1.out HG.out HGR.out (HP.out 2 _ rfl)
   have v2:=z_ HB1.out HG.out HGR.out (p:=⟨w.heap.size+1+1+1+1,2,none⟩) HP.out.lt (HFP.out 2)
   have d2:=k_ HB1.out HG.out HGR.out (HD.out 2 _ rfl)
   have t3:=k_ HB1.out HG.out HGR.out (HP.out 3 _ rfl)
   have v3:=z_ HB1.out HG.out HGR.out (p:=⟨w.heap.size+1+1+1+1,3,none⟩) HP.out.lt (HFP.out 3)
   have d3:=k_ HB1.out HG.out HGR.out (HD.out 3 _ rfl)
   have t4:=k_ HB1.out HG.out HGR.out (HP.out 4 _ rfl)
   have v4:=z_ HB1.out HG.out HGR.out (p:=⟨w.heap.size+1+1+1+1,4,none⟩) HP.out.lt (HFP.out 4)
   have d4:=k_ HB1.out HG.out HGR.out (HD.out 4 _ rfl)
   have t5:=k_ HB1.out HG.out HGR.out (HP.out 5 _ rfl)
   have v5:=z_ HB1.out HG.out HGR.out (p:=⟨w.heap.size+1+1+1+1,5,none⟩) HP.out.lt (HFP.out 5)
   have d5:=k_ HB1.out HG.out HGR.out (HD.out 5 _ rfl)
   have hql:=HQ.out.lt
   have hpl:=HP.out.lt
   have hdl:=HD.out.lt
   have nd:¬w.heap.size+1+1+1+1+1=w.heap.size+1+1+1:=by omega
   have k0:=s_ d0 (B:=w.heap.size+1+1+1) nd (.int .i64 r) (.int .i64 c) (.slice (some ⟨h,0,none⟩) n n)
   have k1:=s_ d1 (B:=w.heap.size+1+1+1) nd (.int .i64 r) (.int .i64 c) (.slice (some ⟨h,0,none⟩) n n)
   have k2:=s_ d2 (B:=w.heap.size+1+1+1) nd (.int .i64 r) (.int .i64 c) (.slice (some ⟨h,0,none⟩) n n)
   have k3:=s_ d3 (B:=w.heap.size+1+1+1) nd (.int .i64 r) (.int .i64 c) (.slice (some ⟨h,0,none⟩) n n)
   have k4:=s_ d4 (B:=w.heap.size+1+1+1) nd (.int .i64 r) (.int .i64 c) (.slice (some ⟨h,0,none⟩) n n)
   have k5:=s_ d5 (B:=w.heap.size+1+1+1) nd (.int .i64 r) (.int .i64 c) (.slice (some ⟨h,0,none⟩) n n)
   have HIN:=h_ hin
   have HQL:=h_ (And.intro hql (And.intro hpl hdl))
   clear hin hql hpl hdl
   go_wp2
   clear jx jg j0 hi hxi0 hxi1 hlt
   go_region
   all_goals go_wp2
   all_goals
    have n3:w.heap.size+1+1+1≠h:=by have:=HQL.out.1;have:=HG.out;omega
    have n6:w.heap.size+1+1+1+1≠h:=by have:=HQL.out.2.1;have:=HG.out;omega
    have hrw:=HRO.out
    rw[HIN.out,fillF_end]at hrw
    refine bodyPost_ret (v:=.tuple #[.agg #[.int .i64 r,.int .i64 c,.slice (some ⟨h,0,none⟩) n n],.agg #[.int .i64 0,.int .i64 0,.slice none 0 0,.int .i64 0,.int .i64 0,.slice none 0 0]]) (by simp[results,Tryz.results93,go_sem,q0,q1,q2,t0,t1,t2,t3,t4,t5]) rfl ⟨_,_,rfl,⟨_,by rw[HMR.out.1,HMR.out.2],?_⟩,?_,?_,fresh_at (by have:=HWV.out.size;have:=HG.out;omega) _ _ _,?_⟩
    ·exact RowAt.isTab (e:=3) (RowAt.drew ((((((((((hrw.other ⟨w.heap.size+1+1+1,0,none⟩ _ n3.symm).other ⟨w.heap.size+1+1+1,1,none⟩ _ n3.symm).other ⟨w.heap.size+1+1+1,2,none⟩ _ n3.symm).other ⟨w.heap.size+1+1+1+1,0,none⟩ _ n6.symm).other ⟨w.heap.size+1+1+1+1,1,none⟩ _ n6.symm).other ⟨w.heap.size+1+1+1+1,2,none⟩ _ n6.symm).other ⟨w.heap.size+1+1+1+1,3,none⟩ _ n6.symm).other ⟨w.heap.size+1+1+1+1,4,none⟩ _ n6.symm).other ⟨w.heap.size+1+1+1+1,5,none⟩ _ n6.symm))) (by unfold maxLen;omega)
    ·exact isTwo_no _
    ·exact r_ (below9 (keep_below HWV.out HB1.out HG.out HGR.out) (B:=w.heap.size+1+1+1) (C:=w.heap.size+1+1+1+1) (by omega) (by omega) _ _ _ _ _ _ _ _ _)
    ·exact fresh2_no _ _ _ _ _
set_option maxHeartbeats 8000000 in
set_option maxRecDepth 100000 in
theorem rback_shift(l:Ly){xa:Option Addr}{xn xk:Nat}{ya:Option Addr}{yn yk:Nat}(x g:Mx)(vx vg:Value)(w:World)(hk:l.k=4)(hE:backE l x g=0)(hx:M_ w vx x)(hg:M_ w vg g):
  Calls Tryz.prog 93 #[.agg #[.int .i64 4,.int .i64 l.w.rows,.int .i64 l.w.cols,.slice xa xn xk,.int .i64 l.b.rows,.int .i64 l.b.cols,.slice ya yn yk],vx,vg] w (RefBack w (backX l x g) (gradW l x g) (gradB l x g)):=by
 obtain ⟨sx,rfl,hsx⟩:=hx
 obtain ⟨za,zn,zk,rfl⟩:=hsx.shape
 obtain ⟨sg,rfl,hsg⟩:=hg
 obtain ⟨ga,gn,gk,rfl⟩:=hsg.shape
 obtain ⟨wr,e1⟩:=gN (l.w.rows)
 obtain ⟨wc,e2⟩:=gN (l.w.cols)
 obtain ⟨br,e3⟩:=gN (l.b.rows)
 obtain ⟨bc,e4⟩:=gN (l.b.cols)
 obtain ⟨r,e5⟩:=gN (x.rows)
 obtain ⟨c,e6⟩:=gN (x.cols)
 obtain ⟨r',e7⟩:=gN (g.rows)
 obtain ⟨c',e8⟩:=gN (g.cols)
 obtain ⟨hgo,hfg,s1,s2,_⟩:=backE_zero hE
 obtain ⟨_,hfx,_⟩:=goE_zero hgo
 obtain ⟨R,C,gx⟩:=o__ hfx
 obtain ⟨Rg,Cg,gg⟩:=o__ hfg
 have eg:g_ l x.cols=x.cols:=by unfold g_;rw[if_neg (by omega)]
 have gg:=gg.same (R':=R) (C':=C) (by have:=gg.r;have:=gx.r;omega) (by have:=gg.c;have:=gx.c;omega)
 obtain ⟨n,hn⟩:=gN (R*C)
 have hn576:n<=576:=by have:=Nat.mul_le_mul gx.hR gx.hC;omega
 have hX:backX l x g=⟨R,C,tab n (fun q=>A_ g q)⟩:=by
  unfold backX backG
  rw[if_pos hE,if_neg (by omega),if_neg (by omega),if_neg (by omega)]
  skip
  rw[each_eq gg,hn]
 have hW:gradW l x g=noMx:=by unfold gradW;rw[if_pos hE,if_neg (by omega),if_neg (by omega)]
 have hB:gradB l x g=sumsX g:=by unfold gradB;rw[if_pos hE,if_pos (.inr hk)]
 rw[hX,hW,hB]
 have hzn:n=zn:=by obtain ⟨_,_,e,_⟩:=hsx;injection e with _ e _;rw[e,gx.l,hn]
 have hgn:n=gn:=by obtain ⟨_,_,e,_⟩:=hsg;injection e with _ e _;rw[e,gg.l,hn]
 subst hzn hgn
 have HLX:=h_ (show x.cells.length=n by rw[gx.l,hn])
 have HLG:=h_ (show g.cells.length=n by rw[gg.l,hn])
 have HN:=h_ hn
 have HCL:=h_ (fun W (h:Below w.heap.size w W)=>ref_sums W (va:=.agg #[.int .i64 g.rows,.int .i64 g.cols,.slice ga n gk]) (a:=g) ⟨_,rfl,hsg.u_ h⟩ hfg)
 obtain ⟨q,hq⟩:=gN (sumsX g)
 rw[hq]at HCL ⊢
 rw[e7,e8]at HCL
 have HMR:=h_ (show r=(R:Int)/\c=(C:Int) by rw[<-e5,<-e6];exact ⟨gx.r,gx.c⟩)
 have HSX:=h_ hsx
 have HSG:=h_ hsg
 rw[e1,e2,e3,e4,e5,e6,e7,e8]
 obtain ⟨V0,hV⟩:=gM (((((((w.alloc (.cells #[.int .i64 4,.int .i64 wr,.int .i64 wc,.slice xa xn xk,.int .i64 br,.int .i64 bc,.slice ya yn yk] 58)).alloc (.cells #[.int .i64 r,.int .i64 c,.slice za n zk] 28)).alloc (.cells #[.int .i64 r',.int .i64 c',.slice ga n gk] 28)).alloc (.cells #[.int .i64 0,.int .i64 0,.slice none 0 0] 28)).alloc (.cells #[.int .i64 0,.int .i64 0,.slice none 0 0,.int .i64 0,.int .i64 0,.slice none 0 0] 61)).alloc (.cells #[.int .i64 0,.int .i64 0,.slice none 0 0,.int .i64 0,.int .i64 0,.slice none 0 0] 61)))
 have HV:=h_ hV
 have H0W:Hid (Below w.heap.size w V0):=by rw[hV];exact h_ (b_ (b_ (b_ (b_ (b_ (o_ _ _) (o_ _ _)) (o_ _ _)) (o_ _ _)) (o_ _ _)) (o_ _ _))
 have H0L:Hid (Box V0 w.heap.size [.int .i64 4,.int .i64 wr,.int .i64 wc,.slice xa xn xk,.int .i64 br,.int .i64 bc,.slice ya yn yk]):=by rw[hV];exact h_ ((((((Box.new w [.int .i64 4,.int .i64 wr,.int .i64 wc,.slice xa xn xk,.int .i64 br,.int .i64 bc,.slice ya yn yk] 58 rfl).u_ (o_ _ _)).u_ (o_ _ _)).u_ (o_ _ _)).u_ (o_ _ _)).u_ (o_ _ _))
 have H0X:Hid (Box V0 (w.heap.size+1) [.int .i64 r,.int .i64 c,.slice za n zk]):=by rw[hV];exact h_ (((((Box.new _ [.int .i64 r,.int .i64 c,.slice za n zk] 28 (by simp)).u_ (o_ _ _)).u_ (o_ _ _)).u_ (o_ _ _)).u_ (o_ _ _))
 have H0G:Hid (Box V0 (w.heap.size+1+1) [.int .i64 r',.int .i64 c',.slice ga n gk]):=by rw[hV];exact h_ ((((Box.new _ [.int .i64 r',.int .i64 c',.slice ga n gk] 28 (by simp)).u_ (o_ _ _)).u_ (o_ _ _)).u_ (o_ _ _))
 have H0Q:Hid (Box V0 (w.heap.size+1+1+1) [.int .i64 0,.int .i64 0,.slice none 0 0]):=by rw[hV];exact h_ (((Box.new _ [.int .i64 0,.int .i64 0,.slice none 0 0] 28 (by simp)).u_ (o_ _ _)).u_ (o_ _ _))
 have H0F:Hid (Free V0 (w.heap.size+1+1+1)):=by rw[hV];exact h_ (((Free.new _ _ 28 (by simp)).u_ (o_ _ _) (by simp)).u_ (o_ _ _) (by simp))
 have H0P:Hid (Box V0 (w.heap.size+1+1+1+1) [.int .i64 0,.int .i64 0,.slice none 0 0,.int .i64 0,.int .i64 0,.slice none 0 0]):=by rw[hV];exact h_ ((Box.new _ [.int .i64 0,.int .i64 0,.slice none 0 0,.int .i64 0,.int .i64 0,.slice none 0 0] 61 (by simp)).u_ (o_ _ _))
 have H0E:Hid (Free V0 (w.heap.size+1+1+1+1)):=by rw[hV];exact h_ ((Free.new _ _ 61 (by simp)).u_ (o_ _ _) (by simp))
 have H0D:Hid (Box V0 (w.heap.size+1+1+1+1+1) [.int .i64 0,.int .i64 0,.slice none 0 0,.int .i64 0,.int .i64 0,.slice none 0 0]):=by rw[hV];exact h_ (Box.new _ [.int .i64 0,.int .i64 0,.slice none 0 0,.int .i64 0,.int .i64 0,.slice none 0 0] 61 (by simp))
 have H0I:Hid (Free V0 (w.heap.size+1+1+1+1+1)):=by rw[hV];exact h_ (Free.new _ _ 61 (by simp))
 clear hV
 clear hsx hsg gx gg hn hk hE hgo hfg hfx eg s1 s2 hX hW hB e1 e2 e3 e4 e5 e6 e7 e8 hq
 have HBK:=h_ (fun W=>blank_any r c n W (by rw[HMR.out.1,HMR.out.2,<-HN.out];simp) (by omega))
 obtain ⟨y0,y1,y2⟩:=H0G.out.c3
 go_enter Tryz.func93,Tryz.ntmps93
 go_wp2_with fail
 rw[<-HV.out]
 refine (HCL.out _ H0W.out).mono ?_
 rintro e u1 ⟨qa,qn,qk,rfl,hm,hb,hf⟩
 obtain ⟨t3,t4,t5⟩:=(H0D.out.u_ hb).c35
 have v3:=(H0I.out.u_ hb H0D.out.lt) 3
 have v4:=(H0I.out.u_ hb H0D.out.lt) 4
 have v5:=(H0I.out.u_ hb H0D.out.lt) 5
 obtain ⟨V,hV⟩:=gM ((((u1.setCell ⟨w.heap.size+1+1+1+1+1,3,none⟩ (.int .i64 q.rows)).setCell ⟨w.heap.size+1+1+1+1+1,4,none⟩ (.int .i64 q.cols)).setCell ⟨w.heap.size+1+1+1+1+1,5,none⟩ (.slice qa qn qk)))
 have HV1:=h_ hV
 have HWV:Hid (Below w.heap.size w V):=by rw[hV];exact h_ ((((b_ H0W.out hb).setCell (show w.heap.size<=w.heap.size+1+1+1+1+1 by omega) _).setCell (show w.heap.size<=w.heap.size+1+1+1+1+1 by omega) _).setCell (show w.heap.size<=w.heap.size+1+1+1+1+1 by omega) _)
 have HBL:Hid (Box V w.heap.size [.int .i64 4,.int .i64 wr,.int .i64 wc,.slice xa xn xk,.int .i64 br,.int .i64 bc,.slice ya yn yk]):=by rw[hV];exact h_ ((H0L.out.u_ hb).set345 (by omega) _ _ _)
 have HBX:Hid (Box V (w.heap.size+1) [.int .i64 r,.int .i64 c,.slice za n zk]):=by rw[hV];exact h_ ((H0X.out.u_ hb).set345 (by omega) _ _ _)
 have HBG:Hid (Box V (w.heap.size+1+1) [.int .i64 r',.int .i64 c',.slice ga n gk]):=by rw[hV];exact h_ ((H0G.out.u_ hb).set345 (by omega) _ _ _)
 have HQ:Hid (Box V (w.heap.size+1+1+1) [.int .i64 0,.int .i64 0,.slice none 0 0]):=by rw[hV];exact h_ ((H0Q.out.u_ hb).set345 (by omega) _ _ _)
 have HFR:Hid (Free V (w.heap.size+1+1+1)):=by rw[hV];exact h_ ((H0F.out.u_ hb H0Q.out.lt).set345 _ _ _ _)
 have HP:Hid (Box V (w.heap.size+1+1+1+1) [.int .i64 0,.int .i64 0,.slice none 0 0,.int .i64 0,.int .i64 0,.slice none 0 0]):=by rw[hV];exact h_ ((H0P.out.u_ hb).set345 (by omega) _ _ _)
 have HFP:Hid (Free V (w.heap.size+1+1+1+1)):=by rw[hV];exact h_ ((H0E.out.u_ hb H0P.out.lt).set345 _ _ _ _)
 have HD:Hid (Box V (w.heap.size+1+1+1+1+1) [.int .i64 0,.int .i64 0,.slice none 0 0,.int .i64 q.rows,.int .i64 q.cols,.slice qa qn qk]):=by rw[hV];exact h_ (two_set (H0D.out.u_ hb) _ _ _)
 have HSI:Hid (I_ V (.slice qa qn qk) q.cells):=by rw[hV];exact h_ (((hm.ints.freshSet hf H0D.out.lt 3 _).freshSet hf H0D.out.lt 4 _).freshSet hf H0D.out.lt 5 _)
 have HSF:=h_ hf
 have HN0:=h_ H0W.out.size
 have HQ0:=h_ H0Q.out.lt
 have HP0:=h_ H0P.out.lt
 obtain ⟨x0,x1⟩:=HBX.out.c2
 rw[hV]at x0 x1
 clear hm hb hf hV y0 y1 y2 HCL
 go_wp2_with fail
 rw[<-HV1.out]
 clear t3 t4 t5 v3 v4 v5 x0 x1
 refine (HBK.out _).mono ?_
 rintro e w1 ⟨h,rfl,hh,hrow,hb1⟩
 have hglt:h<w1.heap.size:=hrow.lt
 have HB1:=h_ hb1
 have HG:=h_ hh
 have HR:=h_ (hrow.alloc (.cells #[.int .i64 r,.int .i64 c,.slice (some ⟨h,0,none⟩) n n] 28))
 have HXI:=h_ (HSX.out.u_ HWV.out)
 have HGI:=h_ (HSG.out.u_ HWV.out)
 clear hb1 hh hrow HBK
 go_wp2
 go_loopw [17] (fun a wr=>∃(i:Nat) (xi:Int),i<=n/\xi=(i:Int)/\a=.int .i64 xi/\RowAt 3 wr h (tab n (fillF (fun q=>A_ g q) i))/\(w1.alloc (.cells #[.int .i64 r,.int .i64 c,.slice (some ⟨h,0,none⟩) n n] 28)).grownBy wr (some h)) (fun a _=>n - (intOf a).toNat)
 case atStart=>exact ⟨0,0,Nat.zero_le _,rfl,rfl,by rw[<-fillF_zero];exact HR.out,World.grownBy.refl _ _⟩
 case round=>
  obtain ⟨i,xi,hi,hxi,rfl,hro,hgr⟩:=hrel
  have p2:=X_ hglt hgr (j:=2) rfl
  have j0:=k_ HB1.out HG.out hgr (HBL.out 0 _ rfl)
  have jx:=k_ HB1.out HG.out hgr (HBX.out 2 _ rfl)
  have jg:=k_ HB1.out HG.out hgr (HBG.out 2 _ rfl)
  have HRO:=h_ hro
  have HGR:=h_ hgr
  have HXJ:=h_ hxi
  have hxi0:0<=xi:=by omega
  have hxi1:xi<=576:=by omega
  clear hro hgr hxi
  by_cases hlt:xi<(n:Int)
  ·have hin:i<n:=by have:=HXJ.out;omega
   have hxn:xi.toNat=i:=by have:=HXJ.out;omega
   obtain ⟨z,hz⟩:∃z,g.cells[i]?=some z:=⟨g.cells[i]'(by have:=HLG.out;omega),List.getElem?_eq_getElem _⟩
   obtain ⟨am,capm,esm,_,_,h4m⟩:=HGI.out
   injection esm with sm1 sm2 sm3
   clear sm2 sm3
   obtain ⟨bm,om,rm,hclm⟩:=h4m.resolve_left (fun e=>by rw[e]at hz;simp at hz)
   have sm:=sm1.trans rm
   clear sm1 rm h4m
   subst sm
   have cz:wr.cell? ⟨bm,om+xi.toNat,none⟩=some (.int .i64 z):=by
    rw[hxn]
    exact k_ HB1.out HG.out HGR.out (hclm _ _ hz)
   obtain ⟨u,dx⟩:∃u,wr.cell? ⟨h,xi.toNat,none⟩=some (.int .i64 u):=⟨_,by rw[hxn];exact HRO.out.cell (tab_at hin)⟩
   have fx:wr.frozen? ⟨h,xi.toNat,none⟩=false:=HRO.out.frozen _
   have HZ:=h_ (cellAt_some hz)
   have HXN:=h_ hxn
   clear hclm hz
   have HW:=h_ (show fillF_ok (fun q=>A_ g q) i z by show A_ g i=z;exact HZ.out)
   clear hxn
   go_wp2
   refine region_tail 9 (by kernel_rfl) (by kernel_rfl) ?_
   simp only[List.take_succ_cons,List.take_zero,List.drop_succ_cons,List.drop_zero]
   repeat still_step
   refine wpStill_nil ?_
   go_wp2
   exact ⟨⟨i+1,_,by omega,by have:=HXJ.out;omega,rfl,by
    rw[HXN.out,<-fillF_step _ i n _ HW.out]
    exact HRO.out.set i _,grown_drew (w_ HGR.out _ _)⟩,by have:=HXJ.out;simp[intOf];omega⟩
  ·have hin:i=n:=by have:=HXJ.out;omega
   have p0:=X_ hglt HGR.out (j:=0) rfl
   have p1:=X_ hglt HGR.out (j:=1) rfl
   have q0:=k_ HB1.out HG.out HGR.out (HQ.out 0 _ rfl)
   have f0:=z_ HB1.out HG.out HGR.out (p:=⟨w.heap.size+1+1+1,0,none⟩) HQ.out.lt (HFR.out 0)
   have q1:=k_ HB1.out HG.out HGR.out (HQ.out 1 _ rfl)
   have f1:=z_ HB1.out HG.out HGR.out (p:=⟨w.heap.size+1+1+1,1,none⟩) HQ.out.lt (HFR.out 1)
   have q2:=k_ HB1.out HG.out HGR.out (HQ.out 2 _ rfl)
   have f2:=z_ HB1.out HG.out HGR.out (p:=⟨w.heap.size+1+1+1,2,none⟩) HQ.out.lt (HFR.out 2)
   have t0:=k_ HB1.out HG.out HGR.out (HP.out 0 _ rfl)
   have v0:=z_ HB1.out HG.out HGR.out (p:=⟨w.heap.size+1+1+1+1,0,none⟩) HP.out.lt (HFP.out 0)
   have d0:=k_ HB1.out HG.out HGR.out (HD.out 0 _ rfl)
   have t1:=k_ HB1.out HG.out HGR.out (HP.out 1 _ rfl)
   have v1:=z_ HB1.out HG.out HGR.out (p:=⟨w.heap.size+1+1+1+1,1,none⟩) HP.out.lt (HFP.out 1)
   have d1:=k_ HB1.out HG.out HGR.out (HD.out 1 _ rfl)
   have t2:=k_ HB1.out HG.out HGR.out (HP.out 2 _ rfl)
   have v2:=z_ HB1.out HG.out HGR.out (p:=⟨w.heap.size+1+1+1+1,2,none⟩) HP.out.lt (HFP.out 2)
   have d2:=k_ HB1.out HG.out HGR.out (HD.out 2 _ rfl)
   have t3:=k_ HB1.out HG.out HGR.out (HP.out 3 _ rfl)
   have v3:=z_ HB1.out HG.out HGR.out (p:=⟨w.heap.size+1+1+1+1,3,none⟩) HP.out.lt (HFP.out 3)
   have d3:=k_ HB1.out HG.out HGR.out (HD.out 3 _ rfl)
   have t4:=k_ HB1.out HG.out HGR.out (HP.out 4 _ rfl)
   have v4:=z_ HB1.out HG.out HGR.out (p:=⟨w.heap.size+1+1+1+1,4,none⟩) HP.out.lt (HFP.out 4)
   have d4:=k_ HB1.out HG.out HGR.out (HD.out 4 _ rfl)
   have t5:=k_ HB1.out HG.out HGR.out (HP.out 5 _ rfl)
   have v5:=z_ HB1.out HG.out HGR.out (p:=⟨w.heap.size+1+1+1+1,5,none⟩) HP.out.lt (HFP.out 5)
   have d5:=k_ HB1.out HG.out HGR.out (HD.out 5 _ rfl)
   have hql:=HQ.out.lt
   have hpl:=HP.out.lt
   have hdl:=HD.out.lt
   have nd:¬w.heap.size+1+1+1+1+1=w.heap.size+1+1+1:=by omega
   have k0:=s_ d0 (B:=w.heap.size+1+1+1) nd (.int .i64 r) (.int .i64 c) (.slice (some ⟨h,0,none⟩) n n)
   have k1:=s_ d1 (B:=w.heap.size+1+1+1) nd (.int .i64 r) (.int .i64 c) (.slice (some ⟨h,0,none⟩) n n)
   have k2:=s_ d2 (B:=w.heap.size+1+1+1) nd (.int .i64 r) (.int .i64 c) (.slice (some ⟨h,0,none⟩) n n)
   have k3:=s_ d3 (B:=w.heap.size+1+1+1) nd (.int .i64 r) (.int .i64 c) (.slice (some ⟨h,0,none⟩) n n)
   have k4:=s_ d4 (B:=w.heap.size+1+1+1) nd (.int .i64 r) (.int .i64 c) (.slice (some ⟨h,0,none⟩) n n)
   have k5:=s_ d5 (B:=w.heap.size+1+1+1) nd (.int .i64 r) (.int .i64 c) (.slice (some ⟨h,0,none⟩) n n)
   have HIN:=h_ hin
   have HQL:=h_ (And.intro hql (And.intro hpl hdl))
   clear hin hql hpl hdl
   go_wp2
   clear jx jg j0 hi hxi0 hxi1 hlt
   go_region
   all_goals go_wp2
   all_goals
    have n3:w.heap.size+1+1+1≠h:=by have:=HQL.out.1;have:=HG.out;omega
    have n6:w.heap.size+1+1+1+1≠h:=by have:=HQL.out.2.1;have:=HG.out;omega
    have hrw:=HRO.out
    rw[HIN.out,fillF_end]at hrw
    refine bodyPost_ret (v:=.tuple #[.agg #[.int .i64 r,.int .i64 c,.slice (some ⟨h,0,none⟩) n n],.agg #[.int .i64 0,.int .i64 0,.slice none 0 0,.int .i64 q.rows,.int .i64 q.cols,.slice qa qn qk]]) (by simp[results,Tryz.results93,go_sem,q0,q1,q2,t0,t1,t2,t3,t4,t5]) rfl ⟨_,_,rfl,⟨_,by rw[HMR.out.1,HMR.out.2],?_⟩,?_,?_,fresh_at (by have:=HWV.out.size;have:=HG.out;omega) _ _ _,?_⟩
    ·exact RowAt.isTab (e:=3) (RowAt.drew ((((((((((hrw.other ⟨w.heap.size+1+1+1,0,none⟩ _ n3.symm).other ⟨w.heap.size+1+1+1,1,none⟩ _ n3.symm).other ⟨w.heap.size+1+1+1,2,none⟩ _ n3.symm).other ⟨w.heap.size+1+1+1+1,0,none⟩ _ n6.symm).other ⟨w.heap.size+1+1+1+1,1,none⟩ _ n6.symm).other ⟨w.heap.size+1+1+1+1,2,none⟩ _ n6.symm).other ⟨w.heap.size+1+1+1+1,3,none⟩ _ n6.symm).other ⟨w.heap.size+1+1+1+1,4,none⟩ _ n6.symm).other ⟨w.heap.size+1+1+1+1,5,none⟩ _ n6.symm))) (by unfold maxLen;omega)
    ·refine ⟨_,_,rfl,I_.nil _,?_⟩
     exact (HSI.out.keep HB1.out HG.out HGR.out).above HSF.out (above9 (B:=w.heap.size+1+1+1) (C:=w.heap.size+1+1+1+1) HQ0.out HP0.out wr (.int .i64 r) (.int .i64 c) (.slice (some ⟨h,0,none⟩) n n) (.int .i64 0) (.int .i64 0) (.slice none 0 0) (.int .i64 q.rows) (.int .i64 q.cols) (.slice qa qn qk)).drew
    ·exact r_ (below9 (keep_below HWV.out HB1.out HG.out HGR.out) (B:=w.heap.size+1+1+1) (C:=w.heap.size+1+1+1+1) (by omega) (by omega) _ _ _ _ _ _ _ _ _)
    ·exact fresh2_of (y_ _ _ _) (f_ HSF.out HN0.out)
end Go.Proofs.YtniloklglpchfaeGreatDoor
