/- What BackOf of the document's answer comes to at the kind Linear: what goes back, and the Grad. -/
import Derived.Test.YtniloklglpchfaeGreatDoorRLBack
import Derived.Test.YtniloklglpchfaeGreatDoorLScale
namespace Go.Proofs.YtniloklglpchfaeGreatDoor
open Go.RowKit
theorem two_set0{w:World}{B:Nat}{a0 a1 a2 a3 a4 a5:Value}(h:Box w B [a0,a1,a2,a3,a4,a5])(x y z:Value):Box (((w.setCell ⟨B,0,none⟩ x).setCell ⟨B,1,none⟩ y).setCell ⟨B,2,none⟩ z) B [x,y,z,a3,a4,a5]:=by
 have o:∀(u:World) (i j:Nat) (v:Value),i≠j->(u.setCell ⟨B,i,none⟩ v).cell? ⟨B,j,none⟩=u.cell? ⟨B,j,none⟩:=fun u i j v hij=>cell_at_other u B i j v hij
 intro j v hv
 match j,hv with
 |3,hv=>simp at hv;subst hv;rw[o _ 2 3 _ (by decide),o _ 1 3 _ (by decide),o _ 0 3 _ (by decide)];exact h 3 _ rfl
 |4,hv=>simp at hv;subst hv;rw[o _ 2 4 _ (by decide),o _ 1 4 _ (by decide),o _ 0 4 _ (by decide)];exact h 4 _ rfl
 |5,hv=>simp at hv;subst hv;rw[o _ 2 5 _ (by decide),o _ 1 5 _ (by decide),o _ 0 5 _ (by decide)];exact h 5 _ rfl
 |0,hv=>simp at hv;subst hv;rw[o _ 2 0 _ (by decide),o _ 1 0 _ (by decide)];exact World.cell?_setCell_same _ _ _ (h 0 _ rfl)
 |1,hv=>simp at hv;subst hv;rw[o _ 2 1 _ (by decide)];exact World.cell?_setCell_same _ _ _ ((o _ 0 1 _ (by decide)).trans (h 1 _ rfl))
 |2,hv=>simp at hv;subst hv;exact World.cell?_setCell_same _ _ _ ((o _ 1 2 _ (by decide)).trans ((o _ 0 2 _ (by decide)).trans (h 2 _ rfl)))
theorem above345{n B:Nat}(hB:B<n)(u:World)(x0 x1 x2:Value):Above n u (((u.setCell ⟨B,3,none⟩ x0).setCell ⟨B,4,none⟩ x1).setCell ⟨B,5,none⟩ x2):=(((Above.refl n u).set hB 3 x0).set hB 4 x1).set hB 5 x2
theorem below_set345{V u:World}{B:Nat}(h:Below V.heap.size V u)(hB:V.heap.size<=B)(x y z:Value):Below V.heap.size V (((u.setCell ⟨B,3,none⟩ x).setCell ⟨B,4,none⟩ y).setCell ⟨B,5,none⟩ z):=((h.setCell hB _).setCell hB _).setCell hB _
set_option maxHeartbeats 8000000 in
set_option maxRecDepth 100000 in
theorem rback_linear(l:Ly){xa:Option Addr}{xn xk:Nat}{ya:Option Addr}{yn yk:Nat}(x g:Mx)(vx vg:Value)(w:World)(hk:l.k=1)(hE:backE l x g=0)(hs:I_ w (.slice xa xn xk) l.w.cells)(hx:M_ w vx x)(hg:M_ w vg g):
  Calls Tryz.prog 93 #[.agg #[.int .i64 1,.int .i64 l.w.rows,.int .i64 l.w.cols,.slice xa xn xk,.int .i64 l.b.rows,.int .i64 l.b.cols,.slice ya yn yk],vx,vg] w (RefBack w (backX l x g) (gradW l x g) (gradB l x g)):=by
 obtain ⟨sx,rfl,hsx⟩:=hx
 obtain ⟨za,zn,zk,rfl⟩:=hsx.shape
 obtain ⟨sg,rfl,hsg⟩:=hg
 obtain ⟨ga,gn,gk,rfl⟩:=hsg.shape
 obtain ⟨wr,e1⟩:=gN (l.w.rows)
 obtain ⟨wc,e2⟩:=gN (l.w.cols)
 obtain ⟨br,e3⟩:=gN (l.b.rows)
 obtain ⟨bc,e4⟩:=gN (l.b.cols)
 obtain ⟨r,e5⟩:=gN (x.rows)
 obtain ⟨c,e6⟩:=gN (x.cols)
 obtain ⟨r',e7⟩:=gN (g.rows)
 obtain ⟨c',e8⟩:=gN (g.cols)
 obtain ⟨hgo,hfg,s1,s2,s3⟩:=backE_zero hE
 obtain ⟨hl,hfx,htk⟩:=goE_zero hgo
 obtain ⟨R,Cx,gx⟩:=o__ hfx
 obtain ⟨Rg,Cg,gg⟩:=o__ hfg
 obtain ⟨Rw,C,gw,h2⟩:∃Rw C,Good l.w Rw C/\Rw<=12:=by
  cases lyG_of hl using LyG.el with
  |lin Rw Cw _ gw _ _ h2 _=>exact ⟨Rw,Cw,gw,h2⟩
  |relu hk' _ _=>omega
  |scale hk' _ _=>omega
  |shift _ hk' _ _ _=>omega
 have hC:Cx=Rw:=by have:=takes_lin hk htk;have:=gw.r;have:=gx.c;omega
 subst hC
 have eg:g_ l x.cols=l.w.cols:=by unfold g_;rw[if_pos hk]
 have gg:=gg.same (R':=R) (C':=C) (by have:=gg.r;have:=gx.r;omega) (by have:=gg.c;have:=gw.c;omega)
 have hR:R<=12:=by have:=gx.r;omega
 have hX:backX l x g=mulX g (turnX l.w):=by unfold backX backG;rw[if_pos hE,if_pos hk]
 have hW:gradW l x g=mulX (turnX x) g:=by unfold gradW;rw[if_pos hE,if_pos hk]
 have hB:gradB l x g=sumsX g:=by unfold gradB;rw[if_pos hE,if_pos (.inl hk)]
 rw[hX,hW,hB]
 have HC1:=h_ (fun W (h:Below w.heap.size w W)=>ref_turn W (va:=.agg #[.int .i64 l.w.rows,.int .i64 l.w.cols,.slice xa xn xk]) (a:=l.w) ⟨_,rfl,hs.u_ h⟩ (gw.turn0 h2) gw.fault)
 have HC2:=h_ (fun W (h:Below w.heap.size w W)=>ref_turn W (va:=.agg #[.int .i64 x.rows,.int .i64 x.cols,.slice za zn zk]) (a:=x) ⟨_,rfl,hsx.u_ h⟩ (gx.turn0 hR) hfx)
 have HC3:=h_ (fun W v (h:Below w.heap.size w W) (ht:M_ W v (turnX x))=>ref_mul W (va:=v) (vb:=.agg #[.int .i64 g.rows,.int .i64 g.cols,.slice ga gn gk]) (a:=turnX x) (b:=g) ht ⟨_,rfl,hsg.u_ h⟩ ((gx.turn hR).mul0 gg))
 have HC4:=h_ (fun W (h:Below w.heap.size w W)=>ref_sums W (va:=.agg #[.int .i64 g.rows,.int .i64 g.cols,.slice ga gn gk]) (a:=g) ⟨_,rfl,hsg.u_ h⟩ hfg)
 have HC5:=h_ (fun W v (h:Below w.heap.size w W) (ht:M_ W v (turnX l.w))=>ref_mul W (va:=.agg #[.int .i64 g.rows,.int .i64 g.cols,.slice ga gn gk]) (vb:=v) (a:=g) (b:=turnX l.w) ⟨_,rfl,hsg.u_ h⟩ ht (gg.mul0 (gw.turn h2)))
 obtain ⟨tw,htw⟩:=gN (turnX l.w)
 obtain ⟨tx,htx⟩:=gN (turnX x)
 rw[htw]at HC1 HC5 ⊢
 rw[htx]at HC2 HC3 ⊢
 obtain ⟨p,hp⟩:=gN (mulX tx g)
 obtain ⟨q,hq⟩:=gN (sumsX g)
 obtain ⟨t,ht⟩:=gN (mulX g tw)
 rw[hp]at HC3 ⊢
 rw[hq]at HC4 ⊢
 rw[ht]at HC5 ⊢
 rw[e1,e2]at HC1
 rw[e5,e6]at HC2
 rw[e7,e8]at HC3 HC4 HC5
 rw[e1,e2,e3,e4,e5,e6,e7,e8]
 obtain ⟨V0,hV⟩:=gM (((((((w.alloc (.cells #[.int .i64 1,.int .i64 wr,.int .i64 wc,.slice xa xn xk,.int .i64 br,.int .i64 bc,.slice ya yn yk] 58)).alloc (.cells #[.int .i64 r,.int .i64 c,.slice za zn zk] 28)).alloc (.cells #[.int .i64 r',.int .i64 c',.slice ga gn gk] 28)).alloc (.cells #[.int .i64 0,.int .i64 0,.slice none 0 0] 28)).alloc (.cells #[.int .i64 0,.int .i64 0,.slice none 0 0,.int .i64 0,.int .i64 0,.slice none 0 0] 61)).alloc (.cells #[.int .i64 0,.int .i64 0,.slice none 0 0,.int .i64 0,.int .i64 0,.slice none 0 0] 61)))
 have HV:=h_ hV
 have H0W:Hid (Below w.heap.size w V0):=by rw[hV];exact h_ (b_ (b_ (b_ (b_ (b_ (o_ _ _) (o_ _ _)) (o_ _ _)) (o_ _ _)) (o_ _ _)) (o_ _ _))
 have H0L:Hid (Box V0 w.heap.size [.int .i64 1,.int .i64 wr,.int .i64 wc,.slice xa xn xk,.int .i64 br,.int .i64 bc,.slice ya yn yk]):=by rw[hV];exact h_ ((((((Box.new w [.int .i64 1,.int .i64 wr,.int .i64 wc,.slice xa xn xk,.int .i64 br,.int .i64 bc,.slice ya yn yk] 58 rfl).u_ (o_ _ _)).u_ (o_ _ _)).u_ (o_ _ _)).u_ (o_ _ _)).u_ (o_ _ _))
 have H0X:Hid (Box V0 (w.heap.size+1) [.int .i64 r,.int .i64 c,.slice za zn zk]):=by rw[hV];exact h_ (((((Box.new _ [.int .i64 r,.int .i64 c,.slice za zn zk] 28 (by simp)).u_ (o_ _ _)).u_ (o_ _ _)).u_ (o_ _ _)).u_ (o_ _ _))
 have H0G:Hid (Box V0 (w.heap.size+1+1) [.int .i64 r',.int .i64 c',.slice ga gn gk]):=by rw[hV];exact h_ ((((Box.new _ [.int .i64 r',.int .i64 c',.slice ga gn gk] 28 (by simp)).u_ (o_ _ _)).u_ (o_ _ _)).u_ (o_ _ _))
 have H0Q:Hid (Box V0 (w.heap.size+1+1+1) [.int .i64 0,.int .i64 0,.slice none 0 0]):=by rw[hV];exact h_ (((Box.new _ [.int .i64 0,.int .i64 0,.slice none 0 0] 28 (by simp)).u_ (o_ _ _)).u_ (o_ _ _))
 have H0F:Hid (Free V0 (w.heap.size+1+1+1)):=by rw[hV];exact h_ (((Free.new _ _ 28 (by simp)).u_ (o_ _ _) (by simp)).u_ (o_ _ _) (by simp))
 have H0P:Hid (Box V0 (w.heap.size+1+1+1+1) [.int .i64 0,.int .i64 0,.slice none 0 0,.int .i64 0,.int .i64 0,.slice none 0 0]):=by rw[hV];exact h_ ((Box.new _ [.int .i64 0,.int .i64 0,.slice none 0 0,.int .i64 0,.int .i64 0,.slice none 0 0] 61 (by simp)).u_ (o_ _ _))
 have H0E:Hid (Free V0 (w.heap.size+1+1+1+1)):=by rw[hV];exact h_ ((Free.new _ _ 61 (by simp)).u_ (o_ _ _) (by simp))
 have H0D:Hid (Box V0 (w.heap.size+1+1+1+1+1) [.int .i64 0,.int .i64 0,.slice none 0 0,.int .i64 0,.int .i64 0,.slice none 0 0]):=by rw[hV];exact h_ (Box.new _ [.int .i64 0,.int .i64 0,.slice none 0 0,.int .i64 0,.int .i64 0,.slice none 0 0] 61 (by simp))
 have H0I:Hid (Free V0 (w.heap.size+1+1+1+1+1)):=by rw[hV];exact h_ (Free.new _ _ 61 (by simp))
 clear hV
 clear hs hsx hsg gx gg gw hk hE hgo hl hfg hfx htk eg s1 s2 s3 h2 hR hX hW hB htw htx hp hq ht e1 e2 e3 e4 e5 e6 e7 e8
 have d1:=H0L.out 1 _ rfl
 have d2:=H0L.out 2 _ rfl
 have d3:=H0L.out 3 _ rfl
 go_enter Tryz.func93,Tryz.ntmps93
 go_wp2_with fail
 rw[<-HV.out]
 refine (HC1.out _ H0W.out).mono ?_
 rintro e u1 ⟨wa,wn,wk,rfl,hm,hb,hf⟩
 have D1:=b_ hb (o_ u1 (.cells #[.int .i64 tw.rows,.int .i64 tw.cols,.slice wa wn wk] 28))
 have HU1:=h_ (b_ H0W.out D1)
 have HBW:=h_ (Box.new u1 [.int .i64 tw.rows,.int .i64 tw.cols,.slice wa wn wk] 28 rfl)
 have HMW:=h_ (hm.u_ (o_ u1 (.cells #[.int .i64 tw.rows,.int .i64 tw.cols,.slice wa wn wk] 28)))
 have HFW:=h_ hf
 have HNW:=h_ hb.size
 have HD1:=h_ D1
 obtain ⟨x0,x1,x2⟩:=(H0X.out.u_ D1).c3
 clear hm hb hf D1 d1 d2 d3 HC1
 go_wp2_with fail
 refine (HC2.out _ HU1.out).mono ?_
 rintro e u2 ⟨ta,tn,tk,rfl,hm,hb,hf⟩
 have D:=b_ hb (o_ u2 (.cells #[.int .i64 tx.rows,.int .i64 tx.cols,.slice ta tn tk] 28))
 have HU2:=h_ (b_ HU1.out D)
 have HD2:=h_ (b_ HD1.out D)
 replace HBW:=h_ (HBW.out.u_ D)
 replace HMW:=h_ (HMW.out.u_ D)
 have HBT:=h_ (Box.new u2 [.int .i64 tx.rows,.int .i64 tx.cols,.slice ta tn tk] 28 rfl)
 have HMT:=h_ (hm.u_ (o_ u2 (.cells #[.int .i64 tx.rows,.int .i64 tx.cols,.slice ta tn tk] 28)))
 clear hm hb hf D x0 x1 x2 HC2 HU1 HD1
 obtain ⟨a0,a1,a2⟩:=HBT.out.c3
 obtain ⟨y0,y1,y2⟩:=(H0G.out.u_ HD2.out).c3
 go_wp2_with fail
 refine (HC3.out _ _ HU2.out HMT.out).mono ?_
 rintro e u3 ⟨pa,pn,pk,rfl,hm,hb,hf⟩
 have HF3:=h_ (f_ hf HD2.out.size)
 have D:=b_ HD2.out hb
 obtain ⟨t0,t1,t2⟩:=(H0D.out.u_ D).c3
 obtain ⟨v0,v1,v2⟩:=(H0I.out.u_ D H0D.out.lt).f3
 obtain ⟨V3,hV⟩:=gM ((((u3.setCell ⟨w.heap.size+1+1+1+1+1,0,none⟩ (.int .i64 p.rows)).setCell ⟨w.heap.size+1+1+1+1+1,1,none⟩ (.int .i64 p.cols)).setCell ⟨w.heap.size+1+1+1+1+1,2,none⟩ (.slice pa pn pk)))
 have HV3:=h_ hV
 have HNZ:=h_ H0D.out.lt
 have hne:¬u1.heap.size=w.heap.size+1+1+1+1+1:=by have:=HNW.out;have:=HNZ.out;omega
 have HA:=above3 (B:=w.heap.size+1+1+1+1+1) HNZ.out u3 (.int .i64 p.rows) (.int .i64 p.cols) (.slice pa pn pk)
 rw[<-hV]at HA
 have HW3:Hid (Below w.heap.size w V3):=by rw[hV];exact h_ (S_ (b_ HU2.out hb) (by omega) _ _ _)
 have HG3:Hid (Box V3 (w.heap.size+1+1) [.int .i64 r',.int .i64 c',.slice ga gn gk]):=by rw[hV];exact h_ ((H0G.out.u_ D).set3 (by omega) _ _ _)
 have HQ3:Hid (Box V3 (w.heap.size+1+1+1) [.int .i64 0,.int .i64 0,.slice none 0 0]):=by rw[hV];exact h_ ((H0Q.out.u_ D).set3 (by omega) _ _ _)
 have HFQ3:Hid (Free V3 (w.heap.size+1+1+1)):=by rw[hV];exact h_ ((H0F.out.u_ D H0Q.out.lt).set3 _ _ _ _)
 have HP3:Hid (Box V3 (w.heap.size+1+1+1+1) [.int .i64 0,.int .i64 0,.slice none 0 0,.int .i64 0,.int .i64 0,.slice none 0 0]):=by rw[hV];exact h_ ((H0P.out.u_ D).set3 (by omega) _ _ _)
 have HFP3:Hid (Free V3 (w.heap.size+1+1+1+1)):=by rw[hV];exact h_ ((H0E.out.u_ D H0P.out.lt).set3 _ _ _ _)
 have HD3:Hid (Box V3 (w.heap.size+1+1+1+1+1) [.int .i64 p.rows,.int .i64 p.cols,.slice pa pn pk,.int .i64 0,.int .i64 0,.slice none 0 0]):=by rw[hV];exact h_ (two_set0 (H0D.out.u_ D) _ _ _)
 have HFD3:Hid (Free V3 (w.heap.size+1+1+1+1+1)):=by rw[hV];exact h_ ((H0I.out.u_ D H0D.out.lt).set3 _ _ _ _)
 have HBW3:Hid (Box V3 u1.heap.size [.int .i64 tw.rows,.int .i64 tw.cols,.slice wa wn wk]):=by rw[hV];exact h_ ((HBW.out.u_ hb).set3 hne _ _ _)
 have HMW3:=h_ ((HMW.out.u_ hb).above HFW.out HA)
 have HMP3:=h_ (hm.ints.above HF3.out HA)
 have HZ3:Hid (V0.heap.size<=V3.heap.size):=by rw[hV];exact h_ (by simpa using D.size)
 obtain ⟨m0,m1,m2⟩:=HG3.out.c3
 rw[hV]at m0 m1 m2
 clear hm hb hf D HA hV hne a0 a1 a2 y0 y1 y2 HC3 HBT HMT HBW HMW HU2 HD2
 go_wp2_with fail
 rw[<-HV3.out]
 clear t0 t1 t2 v0 v1 v2 m0 m1 m2
 refine (HC4.out _ HW3.out).mono ?_
 rintro e u4 ⟨qa,qn,qk,rfl,hm,hb,hf⟩
 have HF4:=h_ (f_ hf HZ3.out)
 obtain ⟨t3,t4,t5⟩:=(HD3.out.u_ hb).c35
 have v3:=(HFD3.out.u_ hb HD3.out.lt) 3
 have v4:=(HFD3.out.u_ hb HD3.out.lt) 4
 have v5:=(HFD3.out.u_ hb HD3.out.lt) 5
 obtain ⟨V4,hV⟩:=gM ((((u4.setCell ⟨w.heap.size+1+1+1+1+1,3,none⟩ (.int .i64 q.rows)).setCell ⟨w.heap.size+1+1+1+1+1,4,none⟩ (.int .i64 q.cols)).setCell ⟨w.heap.size+1+1+1+1+1,5,none⟩ (.slice qa qn qk)))
 have HV4:=h_ hV
 have hne:u1.heap.size≠w.heap.size+1+1+1+1+1:=by have:=HNW.out;have:=HNZ.out;omega
 have HA:=above345 (B:=w.heap.size+1+1+1+1+1) HNZ.out u4 (.int .i64 q.rows) (.int .i64 q.cols) (.slice qa qn qk)
 rw[<-hV]at HA
 have HW4:Hid (Below w.heap.size w V4):=by rw[hV];exact h_ (below_set345 (b_ HW3.out hb) (by omega) _ _ _)
 have HG4:Hid (Box V4 (w.heap.size+1+1) [.int .i64 r',.int .i64 c',.slice ga gn gk]):=by rw[hV];exact h_ ((HG3.out.u_ hb).set345 (by omega) _ _ _)
 have HQ4:Hid (Box V4 (w.heap.size+1+1+1) [.int .i64 0,.int .i64 0,.slice none 0 0]):=by rw[hV];exact h_ ((HQ3.out.u_ hb).set345 (by omega) _ _ _)
 have HFQ4:Hid (Free V4 (w.heap.size+1+1+1)):=by rw[hV];exact h_ ((HFQ3.out.u_ hb HQ3.out.lt).set345 _ _ _ _)
 have HP4:Hid (Box V4 (w.heap.size+1+1+1+1) [.int .i64 0,.int .i64 0,.slice none 0 0,.int .i64 0,.int .i64 0,.slice none 0 0]):=by rw[hV];exact h_ ((HP3.out.u_ hb).set345 (by omega) _ _ _)
 have HFP4:Hid (Free V4 (w.heap.size+1+1+1+1)):=by rw[hV];exact h_ ((HFP3.out.u_ hb HP3.out.lt).set345 _ _ _ _)
 have HD4:Hid (Box V4 (w.heap.size+1+1+1+1+1) [.int .i64 p.rows,.int .i64 p.cols,.slice pa pn pk,.int .i64 q.rows,.int .i64 q.cols,.slice qa qn qk]):=by rw[hV];exact h_ (two_set (HD3.out.u_ hb) _ _ _)
 have HBW4:Hid (Box V4 u1.heap.size [.int .i64 tw.rows,.int .i64 tw.cols,.slice wa wn wk]):=by rw[hV];exact h_ ((HBW3.out.u_ hb).set345 hne _ _ _)
 have HMW4:=h_ ((HMW3.out.u_ hb).above HFW.out HA)
 have HMP4:=h_ ((HMP3.out.u_ hb).above HF3.out HA)
 have HMQ4:=h_ (hm.ints.above HF4.out HA)
 have HZ4:Hid (V0.heap.size<=V4.heap.size):=by rw[hV];exact h_ (by simpa using Nat.le_trans HZ3.out hb.size)
 obtain ⟨m0,m1,m2⟩:=HG4.out.c3
 obtain ⟨a0,a1,a2⟩:=HBW4.out.c3
 rw[hV]at m0 m1 m2 a0 a1 a2
 clear hm hb hf HA hV hne HC4 HG3 HQ3 HFQ3 HP3 HFP3 HD3 HFD3 HBW3 HMW3 HMP3 HZ3 HW3
 go_wp2_with fail
 rw[<-HV4.out]
 clear t3 t4 t5 v3 v4 v5 m0 m1 m2 a0 a1 a2
 refine (HC5.out _ _ HW4.out HMW4.out).mono ?_
 rintro e u5 ⟨ja,jn,jk,rfl,hm,hb,hf⟩
 have HF5:=h_ (f_ hf HZ4.out)
 have D:=b_ hb (o_ u5 (.cells #[.int .i64 t.rows,.int .i64 t.cols,.slice ja jn jk] 28))
 obtain ⟨U,hU⟩:=gM (u5.alloc (.cells #[.int .i64 t.rows,.int .i64 t.cols,.slice ja jn jk] 28))
 have HUS:=h_ hU
 have HWU:Hid (Below w.heap.size w U):=by rw[hU];exact h_ (b_ HW4.out D)
 have HTO:Hid (Box U u5.heap.size [.int .i64 t.rows,.int .i64 t.cols,.slice ja jn jk]):=by rw[hU];exact h_ (Box.new u5 _ 28 rfl)
 have HMO:Hid (M_ U (.agg #[.int .i64 t.rows,.int .i64 t.cols,.slice ja jn jk]) t):=by rw[hU];exact h_ (hm.u_ (o_ _ _))
 have HMPU:Hid (I_ U (.slice pa pn pk) p.cells):=by rw[hU];exact h_ (HMP4.out.u_ D)
 have HMQU:Hid (I_ U (.slice qa qn qk) q.cells):=by rw[hU];exact h_ (HMQ4.out.u_ D)
 have HQU:Hid (Box U (w.heap.size+1+1+1) [.int .i64 0,.int .i64 0,.slice none 0 0]):=by rw[hU];exact h_ (HQ4.out.u_ D)
 have HFQU:Hid (Free U (w.heap.size+1+1+1)):=by rw[hU];exact h_ (HFQ4.out.u_ D HQ4.out.lt)
 have HPU:Hid (Box U (w.heap.size+1+1+1+1) [.int .i64 0,.int .i64 0,.slice none 0 0,.int .i64 0,.int .i64 0,.slice none 0 0]):=by rw[hU];exact h_ (HP4.out.u_ D)
 have HFPU:Hid (Free U (w.heap.size+1+1+1+1)):=by rw[hU];exact h_ (HFP4.out.u_ D HP4.out.lt)
 have HDU:Hid (Box U (w.heap.size+1+1+1+1+1) [.int .i64 p.rows,.int .i64 p.cols,.slice pa pn pk,.int .i64 q.rows,.int .i64 q.cols,.slice qa qn qk]):=by rw[hU];exact h_ (HD4.out.u_ D)
 have HLQ:=h_ H0Q.out.lt
 have HLP:=h_ H0P.out.lt
 clear hm hb hf D hU HC5
 obtain ⟨p0,p1,p2⟩:=HTO.out.c3
 obtain ⟨q0,q1,q2⟩:=HQU.out.c3
 obtain ⟨t0,t1,t2,t3,t4,t5⟩:=HPU.out.c6
 obtain ⟨d0,d1,d2,d3,d4,d5⟩:=HDU.out.c6
 obtain ⟨f0,f1,f2⟩:=HFQU.out.f3
 obtain ⟨v0,v1,v2,v3,v4,v5⟩:=HFPU.out.f6
 have nd:¬w.heap.size+1+1+1+1+1=w.heap.size+1+1+1:=by omega
 have k0:=s_ d0 (B:=w.heap.size+1+1+1) nd (.int .i64 t.rows) (.int .i64 t.cols) (.slice ja jn jk)
 have k1:=s_ d1 (B:=w.heap.size+1+1+1) nd (.int .i64 t.rows) (.int .i64 t.cols) (.slice ja jn jk)
 have k2:=s_ d2 (B:=w.heap.size+1+1+1) nd (.int .i64 t.rows) (.int .i64 t.cols) (.slice ja jn jk)
 have k3:=s_ d3 (B:=w.heap.size+1+1+1) nd (.int .i64 t.rows) (.int .i64 t.cols) (.slice ja jn jk)
 have k4:=s_ d4 (B:=w.heap.size+1+1+1) nd (.int .i64 t.rows) (.int .i64 t.cols) (.slice ja jn jk)
 have k5:=s_ d5 (B:=w.heap.size+1+1+1) nd (.int .i64 t.rows) (.int .i64 t.cols) (.slice ja jn jk)
 go_wp2
 rw[<-HUS.out]
 go_region
 all_goals go_wp2
 all_goals
  have HA:=above9 (B:=w.heap.size+1+1+1) (C:=w.heap.size+1+1+1+1) HLQ.out HLP.out U (.int .i64 t.rows) (.int .i64 t.cols) (.slice ja jn jk) (.int .i64 p.rows) (.int .i64 p.cols) (.slice pa pn pk) (.int .i64 q.rows) (.int .i64 q.cols) (.slice qa qn qk)
  refine bodyPost_ret (v:=.tuple #[.agg #[.int .i64 t.rows,.int .i64 t.cols,.slice ja jn jk],.agg #[.int .i64 p.rows,.int .i64 p.cols,.slice pa pn pk,.int .i64 q.rows,.int .i64 q.cols,.slice qa qn qk]]) (by simp[results,Tryz.results93,go_sem,q0,q1,q2,t0,t1,t2,t3,t4,t5]) rfl ⟨_,_,rfl,HMO.out.above HF5.out HA.drew,two_of (HMPU.out.above HF3.out HA.drew) (HMQU.out.above HF4.out HA.drew),?_,f_ HF5.out H0W.out.size,fresh2_of (f_ HF3.out H0W.out.size) (f_ HF4.out H0W.out.size)⟩
  exact r_ (below9 HWU.out (B:=w.heap.size+1+1+1) (C:=w.heap.size+1+1+1+1) (by omega) (by omega) _ _ _ _ _ _ _ _ _)
theorem below_drN{n:Nat}{w u:World}(h:Below n w u)(k:Nat):Below n w (u.drewN k):=⟨h.os,h.tape,h.output,h.size,h.block⟩
set_option maxHeartbeats 8000000 in
set_option maxRecDepth 100000 in
theorem rback_scale(l:Ly){xa:Option Addr}{xn xk:Nat}{ya:Option Addr}{yn yk:Nat}(x g:Mx)(vx vg:Value)(w:World)(hk:l.k=3)(hE:backE l x g=0)(hs:I_ w (.slice xa xn xk) l.w.cells)(hx:M_ w vx x)(hg:M_ w vg g):
  Calls Tryz.prog 93 #[.agg #[.int .i64 3,.int .i64 l.w.rows,.int .i64 l.w.cols,.slice xa xn xk,.int .i64 l.b.rows,.int .i64 l.b.cols,.slice ya yn yk],vx,vg] w (RefBack w (backX l x g) (gradW l x g) (gradB l x g)):=by
 obtain ⟨sx,rfl,hsx⟩:=hx
 obtain ⟨za,zn,zk,rfl⟩:=hsx.shape
 obtain ⟨sg,rfl,hsg⟩:=hg
 obtain ⟨ga,gn,gk,rfl⟩:=hsg.shape
 obtain ⟨wr,e1⟩:=gN (l.w.rows)
 obtain ⟨wc,e2⟩:=gN (l.w.cols)
 obtain ⟨br,e3⟩:=gN (l.b.rows)
 obtain ⟨bc,e4⟩:=gN (l.b.cols)
 obtain ⟨r,e5⟩:=gN (x.rows)
 obtain ⟨c,e6⟩:=gN (x.cols)
 obtain ⟨r',e7⟩:=gN (g.rows)
 obtain ⟨c',e8⟩:=gN (g.cols)
 obtain ⟨hgo,hfg,s1,s2,_⟩:=backE_zero hE
 obtain ⟨hl,hfx,_⟩:=goE_zero hgo
 obtain ⟨R,C,gx⟩:=o__ hfx
 obtain ⟨Rg,Cg,gg⟩:=o__ hfg
 obtain ⟨gw⟩:Nonempty (PLift (Good l.w 1 1)):=by
  cases lyG_of hl using LyG.el with
  |lin _ _ hk' _ _ _ _ _=>omega
  |relu hk' _ _=>omega
  |scale _ gw _=>exact ⟨⟨gw⟩⟩
  |shift _ hk' _ _ _=>omega
 have gw:=gw.down
 have eg:g_ l x.cols=x.cols:=by unfold g_;rw[if_neg (by omega)]
 have gg:=gg.same (R':=R) (C':=C) (by have:=gg.r;have:=gx.r;omega) (by have:=gg.c;have:=gx.c;omega)
 obtain ⟨y,hy⟩:=gN (A_ l.w 0)
 obtain ⟨N,eN⟩:=gN (x.cells.length)
 have hX:backX l x g=timesX g y:=by unfold backX backG;rw[if_pos hE,if_neg (by omega),if_neg (by omega),if_pos hk,hy]
 have hW:gradW l x g=⟨1,1,[sumP x g N]⟩:=by unfold gradW;rw[if_pos hE,if_neg (by omega),if_pos hk,eN]
 have hB:gradB l x g=noMx:=by unfold gradB;rw[if_pos hE,if_neg (by omega)]
 have HT:=h_ (fun W (h:Below w.heap.size w W)=>ref_times y W (va:=.agg #[.int .i64 g.rows,.int .i64 g.cols,.slice ga gn gk]) (a:=g) ⟨_,rfl,hsg.u_ h⟩ hfg)
 obtain ⟨t,ht⟩:=gN (timesX g y)
 rw[hX,hW,hB,ht]
 rw[ht,e7,e8]at HT
 have hN:N<=576:=by rw[<-eN];have:=gx.l;have:=Nat.mul_le_mul gx.hR gx.hC;omega
 have egN:g.cells.length=N:=by rw[<-eN,gx.l,gg.l]
 have hw0:l.w.cells[0]?=some y:=by rw[<-hy];unfold A_;rw[List.getElem?_eq_getElem (by have:=gw.l;omega)];rfl
 have hwl:=gw.l
 obtain ⟨aa,cap,esv,h2,h3,h4⟩:=hs
 injection esv with q1 q2 q3
 obtain ⟨b,off,rfl,hcl⟩:=h4.resolve_left (fun e=>by rw[e]at hw0;simp at hw0)
 have h0:w.cell? ⟨b,off,none⟩=some (.int .i64 y):=hcl 0 y hw0
 have q2':xn=1:=by omega
 subst q1 q2'
 have HBL:=h_ (World.block_lt_of_cell? w _ h0)
 have HB0:=h_ h0
 have HSX:=h_ hsx
 have HSG:=h_ hsg
 have hzn:N=zn:=by obtain ⟨_,_,e,_⟩:=hsx;injection e with _ e _;omega
 have hgn:N=gn:=by obtain ⟨_,_,e,_⟩:=hsg;injection e with _ e _;omega
 subst hzn hgn
 rw[e1,e2,e3,e4,e5,e6,e7,e8]
 obtain ⟨V0,hV⟩:=gM (((((((w.alloc (.cells #[.int .i64 3,.int .i64 wr,.int .i64 wc,.slice (some ⟨b,off,none⟩) 1 xk,.int .i64 br,.int .i64 bc,.slice ya yn yk] 58)).alloc (.cells #[.int .i64 r,.int .i64 c,.slice za N zk] 28)).alloc (.cells #[.int .i64 r',.int .i64 c',.slice ga N gk] 28)).alloc (.cells #[.int .i64 0,.int .i64 0,.slice none 0 0] 28)).alloc (.cells #[.int .i64 0,.int .i64 0,.slice none 0 0,.int .i64 0,.int .i64 0,.slice none 0 0] 61)).alloc (.cells #[.int .i64 0,.int .i64 0,.slice none 0 0,.int .i64 0,.int .i64 0,.slice none 0 0] 61)))
 have HV:=h_ hV
 have H0W:Hid (Below w.heap.size w V0):=by rw[hV];exact h_ (b_ (b_ (b_ (b_ (b_ (o_ _ _) (o_ _ _)) (o_ _ _)) (o_ _ _)) (o_ _ _)) (o_ _ _))
 have H0L:Hid (Box V0 w.heap.size [.int .i64 3,.int .i64 wr,.int .i64 wc,.slice (some ⟨b,off,none⟩) 1 xk,.int .i64 br,.int .i64 bc,.slice ya yn yk]):=by rw[hV];exact h_ ((((((Box.new w [.int .i64 3,.int .i64 wr,.int .i64 wc,.slice (some ⟨b,off,none⟩) 1 xk,.int .i64 br,.int .i64 bc,.slice ya yn yk] 58 rfl).u_ (o_ _ _)).u_ (o_ _ _)).u_ (o_ _ _)).u_ (o_ _ _)).u_ (o_ _ _))
 have H0X:Hid (Box V0 (w.heap.size+1) [.int .i64 r,.int .i64 c,.slice za N zk]):=by rw[hV];exact h_ (((((Box.new _ [.int .i64 r,.int .i64 c,.slice za N zk] 28 (by simp)).u_ (o_ _ _)).u_ (o_ _ _)).u_ (o_ _ _)).u_ (o_ _ _))
 have H0G:Hid (Box V0 (w.heap.size+1+1) [.int .i64 r',.int .i64 c',.slice ga N gk]):=by rw[hV];exact h_ ((((Box.new _ [.int .i64 r',.int .i64 c',.slice ga N gk] 28 (by simp)).u_ (o_ _ _)).u_ (o_ _ _)).u_ (o_ _ _))
 have H0Q:Hid (Box V0 (w.heap.size+1+1+1) [.int .i64 0,.int .i64 0,.slice none 0 0]):=by rw[hV];exact h_ (((Box.new _ [.int .i64 0,.int .i64 0,.slice none 0 0] 28 (by simp)).u_ (o_ _ _)).u_ (o_ _ _))
 have H0F:Hid (Free V0 (w.heap.size+1+1+1)):=by rw[hV];exact h_ (((Free.new _ _ 28 (by simp)).u_ (o_ _ _) (by simp)).u_ (o_ _ _) (by simp))
 have H0P:Hid (Box V0 (w.heap.size+1+1+1+1) [.int .i64 0,.int .i64 0,.slice none 0 0,.int .i64 0,.int .i64 0,.slice none 0 0]):=by rw[hV];exact h_ ((Box.new _ [.int .i64 0,.int .i64 0,.slice none 0 0,.int .i64 0,.int .i64 0,.slice none 0 0] 61 (by simp)).u_ (o_ _ _))
 have H0E:Hid (Free V0 (w.heap.size+1+1+1+1)):=by rw[hV];exact h_ ((Free.new _ _ 61 (by simp)).u_ (o_ _ _) (by simp))
 have H0D:Hid (Box V0 (w.heap.size+1+1+1+1+1) [.int .i64 0,.int .i64 0,.slice none 0 0,.int .i64 0,.int .i64 0,.slice none 0 0]):=by rw[hV];exact h_ (Box.new _ [.int .i64 0,.int .i64 0,.slice none 0 0,.int .i64 0,.int .i64 0,.slice none 0 0] 61 (by simp))
 have H0I:Hid (Free V0 (w.heap.size+1+1+1+1+1)):=by rw[hV];exact h_ (Free.new _ _ 61 (by simp))
 clear hV
 have HEN:=h_ (And.intro eN egN)
 clear hsx hsg e1 e2 e3 e4 e5 e6 e7 e8 ht hy gx gg gw hw0 hwl h2 h3 h4 hcl h0 q2 q3 eN egN hk hE hgo hl hfg hfx eg s1 s2 hX hW hB
 have d0:=H0L.out 0 _ rfl
 go_enter Tryz.func93,Tryz.ntmps93
 go_wp2
 rw[<-HV.out]
 clear d0
 go_loopw [12,13] (fun s a wr=>∃(i:Nat) (xi:Int),i<=N/\xi=(i:Int)/\a=.int .i64 xi/\s=.int .i64 (sumP x g i)/\Below V0.heap.size V0 wr) (fun _ a _=>N - (intOf a).toNat)
 case atStart=>exact ⟨0,0,Nat.zero_le _,rfl,rfl,rfl,Below.refl _ _⟩
 case round=>
  obtain ⟨i,xi,hi,hxi,rfl,rfl,hbw⟩:=hrel
  have HXI:=h_ hxi
  have HBR:=h_ hbw
  have hxi0:0<=xi:=by omega
  have hxi1:xi<=576:=by omega
  have x2:=(H0X.out.u_ hbw) 2 _ rfl
  have y2:=(H0G.out.u_ hbw) 2 _ rfl
  clear hxi hbw
  by_cases hlt:xi<(N:Int)
  ·have HXX:=h_ (HSX.out.u_ (b_ H0W.out HBR.out))
   have HGG:=h_ (HSG.out.u_ (b_ H0W.out HBR.out))
   have hin:i<N:=by have:=HXI.out;omega
   have hxn:xi.toNat=i:=by have:=HXI.out;omega
   obtain ⟨ex,hex⟩:∃e,x.cells[i]?=some e:=⟨x.cells[i]'(by have:=HEN.out.1;omega),List.getElem?_eq_getElem _⟩
   obtain ⟨ey,hey⟩:∃e,g.cells[i]?=some e:=⟨g.cells[i]'(by have:=HEN.out.2;omega),List.getElem?_eq_getElem _⟩
   obtain ⟨ax,cx,esx,_,_,h4x⟩:=HXX.out
   obtain ⟨ag,cg,esg,_,_,h4g⟩:=HGG.out
   injection esx with sx1 sx2 sx3
   injection esg with sg1 sg2 sg3
   clear sx2 sx3 sg2 sg3
   obtain ⟨bx,ox,rfl,hclx⟩:=h4x.resolve_left (fun e=>by rw[e]at hex;simp at hex)
   obtain ⟨bg,og,rfl,hclg⟩:=h4g.resolve_left (fun e=>by rw[e]at hey;simp at hey)
   subst sx1 sg1
   have c0:wr.cell? ⟨bx,ox+xi.toNat,none⟩=some (.int .i64 ex):=by rw[hxn];exact hclx i ex hex
   have c1:wr.cell? ⟨bg,og+xi.toNat,none⟩=some (.int .i64 ey):=by rw[hxn];exact hclg i ey hey
   have HS:=h_ (sumP_step hex hey)
   clear hclx hclg h4x h4g hex hey hxn HXX HGG
   go_wp2
   go_quiet ((go_at_call 91;refine Calls.quiet_of_same (rmul_any _ _ _)))
   go_wp2_with (first|(go_at_call 30;refine (radd_any _ _ _).mono ?_;rintro e w' ⟨rfl,rfl⟩))
   go_roundw
   case rel=>exact ⟨i+1,_,by omega,by have:=HXI.out;omega,rfl,by rw[<-HS.out],below_drN HBR.out _⟩
   case measure=>have:=HXI.out;simp[intOf];omega
  ·have hiN:i=N:=by have:=HXI.out;omega
   obtain ⟨z,hz⟩:=gN (sumP x g N)
   rw[hiN,hz]
   have HZ:=h_ hz
   have D:=b_ HBR.out (o_ wr (.cells #[.int .i64 z] 3))
   obtain ⟨t0,t1,t2⟩:=(H0D.out.u_ D).c3
   obtain ⟨v0,v1,v2⟩:=(H0I.out.u_ D H0D.out.lt).f3
   obtain ⟨V,hV⟩:=gM (((((wr.alloc (.cells #[.int .i64 z] 3)).setCell ⟨w.heap.size+1+1+1+1+1,0,none⟩ (.int .i64 1)).setCell ⟨w.heap.size+1+1+1+1+1,1,none⟩ (.int .i64 1)).setCell ⟨w.heap.size+1+1+1+1+1,2,none⟩ (.slice (some ⟨wr.heap.size,0,none⟩) 1 1)))
   have HV1:=h_ hV
   have HA:=above3 (B:=w.heap.size+1+1+1+1+1) H0D.out.lt (wr.alloc (.cells #[.int .i64 z] 3)) (.int .i64 1) (.int .i64 1) (.slice (some ⟨wr.heap.size,0,none⟩) 1 1)
   rw[<-hV]at HA
   have HOF:=h_ (show F_ V0.heap.size (.agg #[.int .i64 1,.int .i64 1,.slice (some ⟨wr.heap.size,0,none⟩) 1 1]) from fresh_at HBR.out.size _ _ _)
   have HON:=h_ ((one_ints wr z).above HOF.out HA)
   have HWV:Hid (Below w.heap.size w V):=by rw[hV];exact h_ (S_ (b_ H0W.out D) (by omega) _ _ _)
   have HLV:=h_ ((H0L.out.u_ D).set3 (B':=w.heap.size+1+1+1+1+1) (by omega) (.int .i64 1) (.int .i64 1) (.slice (some ⟨wr.heap.size,0,none⟩) 1 1))
   rw[<-hV]at HLV
   have HGV:Hid (Box V (w.heap.size+1+1) [.int .i64 r',.int .i64 c',.slice ga N gk]):=by rw[hV];exact h_ ((H0G.out.u_ D).set3 (by omega) _ _ _)
   have HQV:Hid (Box V (w.heap.size+1+1+1) [.int .i64 0,.int .i64 0,.slice none 0 0]):=by rw[hV];exact h_ ((H0Q.out.u_ D).set3 (by omega) _ _ _)
   have HFQ:Hid (Free V (w.heap.size+1+1+1)):=by rw[hV];exact h_ ((H0F.out.u_ D H0Q.out.lt).set3 _ _ _ _)
   have HPV:Hid (Box V (w.heap.size+1+1+1+1) [.int .i64 0,.int .i64 0,.slice none 0 0,.int .i64 0,.int .i64 0,.slice none 0 0]):=by rw[hV];exact h_ ((H0P.out.u_ D).set3 (by omega) _ _ _)
   have HFP:Hid (Free V (w.heap.size+1+1+1+1)):=by rw[hV];exact h_ ((H0E.out.u_ D H0P.out.lt).set3 _ _ _ _)
   have HDV:Hid (Box V (w.heap.size+1+1+1+1+1) [.int .i64 1,.int .i64 1,.slice (some ⟨wr.heap.size,0,none⟩) 1 1,.int .i64 0,.int .i64 0,.slice none 0 0]):=by rw[hV];exact h_ (two_set0 (H0D.out.u_ D) _ _ _)
   have HZV:Hid (V0.heap.size<=V.heap.size):=by rw[hV];exact h_ (by simpa using D.size)
   have HLQ:=h_ H0Q.out.lt
   have HLP:=h_ H0P.out.lt
   clear hz hiN D HA hV hi y2
   go_wp2
   rw[<-HV1.out]
   clear t0 t1 t2 v0 v1 v2 x2 hlt hxi0 hxi1
   have g0:=c_ HWV.out HB0.out
   have d3:=HLV.out 3 _ rfl
   obtain ⟨y0,y1,y2⟩:=HGV.out.c3
   have hv0:¬w.heap.size=V.heap.size:=by have:=HLV.out.lt;omega
   have hv2:¬w.heap.size+1+1=V.heap.size:=by have:=HGV.out.lt;omega
   have hvb:¬b=V.heap.size:=by have:=HLV.out.lt;have:=HBL.out;omega
   have HBD:=h_ (r_ HWV.out)
   have HBE:=h_ (r_ (b_ HWV.out (o_ V (.cells #[.int .i64 0,.int .i64 0,.slice none 0 0] 28))))
   go_region_held3 (fun W'=>W'.cell? ⟨w.heap.size+1+1,0,none⟩=some (.int .i64 r')/\W'.cell? ⟨w.heap.size+1+1,1,none⟩=some (.int .i64 c')/\W'.cell? ⟨w.heap.size+1+1,2,none⟩=some (.slice ga N gk)/\W'.cell? ⟨w.heap.size,3,none⟩=some (.slice (some ⟨b,off,none⟩) 1 xk)/\W'.cell? ⟨b,off,none⟩=some (.int .i64 y)) ((first|go_keep|(refine ⟨?_,?_,?_,?_,?_⟩<;>first|assumption|go_keep)))
    (first
     |(go_at_call 94;refine (HT.out _ HBE.out).mono ?_;rintro e w2 ⟨ta,tn,tk,rfl,hm,hb2,hf⟩;have HN:=h_ hm;have hc2:=b_ (r_ (Below.refl _ (V.alloc (.cells #[.int .i64 0,.int .i64 0,.slice none 0 0] 28)))) hb2;have HB2:=h_ (b_ (o_ V (.cells #[.int .i64 0,.int .i64 0,.slice none 0 0] 28)) hc2);have HTF:=h_ (show F_ V.heap.size (.agg #[.int .i64 t.rows,.int .i64 t.cols,.slice ta tn tk]) from f_ hf (o_ V (.cells #[.int .i64 0,.int .i64 0,.slice none 0 0] 28)).size);have HTG:=h_ (show F_ (V.heap.size+1) (.agg #[.int .i64 t.rows,.int .i64 t.cols,.slice ta tn tk]) from f_ hf (Nat.le_of_eq (World.size_alloc V (.cells #[.int .i64 0,.int .i64 0,.slice none 0 0] 28)).symm));have HZB:=h_ ((Box.new V [.int .i64 0,.int .i64 0,.slice none 0 0] 28 rfl).u_ hc2);have HZF:=h_ ((Free.new V #[.int .i64 0,.int .i64 0,.slice none 0 0] 28 rfl).u_ hc2 (Nat.lt_of_lt_of_eq (Nat.lt_succ_self _) (World.size_alloc _ _).symm));clear hc2;have z0:=HZB.out 0 _ rfl;have z1:=HZB.out 1 _ rfl;have z2:=HZB.out 2 _ rfl;have z3:=HZF.out 0;have z4:=HZF.out 1;have z5:=HZF.out 2;have i0:=c_ HB2.out y0;have j0:=s_ i0 (B:=V.heap.size) hv2 (.int .i64 t.rows) (.int .i64 t.cols) (.slice ta tn tk);have i1:=c_ HB2.out y1;have j1:=s_ i1 (B:=V.heap.size) hv2 (.int .i64 t.rows) (.int .i64 t.cols) (.slice ta tn tk);have i2:=c_ HB2.out y2;have j2:=s_ i2 (B:=V.heap.size) hv2 (.int .i64 t.rows) (.int .i64 t.cols) (.slice ta tn tk);have i3:=c_ HB2.out d3;have j3:=s_ i3 (B:=V.heap.size) hv0 (.int .i64 t.rows) (.int .i64 t.cols) (.slice ta tn tk);have i4:=c_ HB2.out g0;have j4:=s_ i4 (B:=V.heap.size) hvb (.int .i64 t.rows) (.int .i64 t.cols) (.slice ta tn tk);clear hb2 hm hf)
     |(go_at_call 94;refine (HT.out _ HBD.out).mono ?_;rintro e w2 ⟨ta,tn,tk,rfl,hm,hb2,hf⟩;have HN:=h_ hm;have HTF:=h_ (show F_ V.heap.size (.agg #[.int .i64 t.rows,.int .i64 t.cols,.slice ta tn tk]) from hf);have HB2:=h_ (show Below V.heap.size V w2 from (show Below V.heap.size V V.drew from ⟨rfl,rfl,rfl,Nat.le_refl _,fun _ _=>rfl⟩).trans hb2);have i0:=c_ HB2.out y0;have j0:=fun o=>p_ i0 o;have i1:=c_ HB2.out y1;have j1:=fun o=>p_ i1 o;have i2:=c_ HB2.out y2;have j2:=fun o=>p_ i2 o;have i3:=c_ HB2.out d3;have j3:=fun o=>p_ i3 o;have i4:=c_ HB2.out g0;have j4:=fun o=>p_ i4 o;clear hb2 hm hf))
   ·obtain ⟨U,hU⟩:=gM (w2.alloc (.cells #[.int .i64 t.rows,.int .i64 t.cols,.slice ta tn tk] 28))
    rw[<-hU]
    have HUB:Hid (Below V.heap.size V U):=by rw[hU];exact h_ (b_ HB2.out (o_ _ _))
    have HTB:Hid (Box U w2.heap.size [.int .i64 t.rows,.int .i64 t.cols,.slice ta tn tk]):=by rw[hU];exact h_ (Box.new w2 _ 28 rfl)
    obtain ⟨p0,p1,p2⟩:=HTB.out.c3
    have HTI:Hid (I_ U (.slice ta tn tk) t.cells):=by rw[hU];exact h_ (HN.out.u_ (o_ _ _)).ints
    clear hU HTB i0 i1 i2 i3 i4 j0 j1 j2 j3 j4 d3 y0 y1 y2 g0 hv0 hv2 hvb HT
    have HWU:=h_ (b_ HWV.out HUB.out)
    have HOI:=h_ (HON.out.u_ HUB.out)
    obtain ⟨q0,q1,q2⟩:=(HQV.out.u_ HUB.out).c3
    obtain ⟨t0,t1,t2,t3,t4,t5⟩:=(HPV.out.u_ HUB.out).c6
    obtain ⟨d0,d1,d2,d3,d4,d5⟩:=(HDV.out.u_ HUB.out).c6
    obtain ⟨f0,f1,f2⟩:=(HFQ.out.u_ HUB.out HQV.out.lt).f3
    obtain ⟨v0,v1,v2,v3,v4,v5⟩:=(HFP.out.u_ HUB.out HPV.out.lt).f6
    have nd:¬w.heap.size+1+1+1+1+1=w.heap.size+1+1+1:=by omega
    have k0:=s_ d0 (B:=w.heap.size+1+1+1) nd (.int .i64 t.rows) (.int .i64 t.cols) (.slice ta tn tk)
    have k1:=s_ d1 (B:=w.heap.size+1+1+1) nd (.int .i64 t.rows) (.int .i64 t.cols) (.slice ta tn tk)
    have k2:=s_ d2 (B:=w.heap.size+1+1+1) nd (.int .i64 t.rows) (.int .i64 t.cols) (.slice ta tn tk)
    have k3:=s_ d3 (B:=w.heap.size+1+1+1) nd (.int .i64 t.rows) (.int .i64 t.cols) (.slice ta tn tk)
    have k4:=s_ d4 (B:=w.heap.size+1+1+1) nd (.int .i64 t.rows) (.int .i64 t.cols) (.slice ta tn tk)
    have k5:=s_ d5 (B:=w.heap.size+1+1+1) nd (.int .i64 t.rows) (.int .i64 t.cols) (.slice ta tn tk)
    go_wp2
    go_region
    all_goals go_wp2
    all_goals
     have HA:=above9 (B:=w.heap.size+1+1+1) (C:=w.heap.size+1+1+1+1) HLQ.out HLP.out U (.int .i64 t.rows) (.int .i64 t.cols) (.slice ta tn tk) (.int .i64 1) (.int .i64 1) (.slice (some ⟨wr.heap.size,0,none⟩) 1 1) (.int .i64 0) (.int .i64 0) (.slice none 0 0)
     refine bodyPost_ret (v:=.tuple #[.agg #[.int .i64 t.rows,.int .i64 t.cols,.slice ta tn tk],.agg #[.int .i64 1,.int .i64 1,.slice (some ⟨wr.heap.size,0,none⟩) 1 1,.int .i64 0,.int .i64 0,.slice none 0 0]]) (by simp[results,Tryz.results93,go_sem,q0,q1,q2,t0,t1,t2,t3,t4,t5]) rfl ⟨_,_,rfl,⟨_,rfl,HTI.out.above (f_ HTF.out HZV.out) HA.drew⟩,⟨_,_,rfl,?_,I_.nil _⟩,?_,f_ HTF.out HWV.out.size,fresh2_of (f_ HOF.out H0W.out.size) (y_ _ _ _)⟩
     ·show I_ _ _ [sumP x g N]
      rw[HZ.out]
      exact HOI.out.above HOF.out HA.drew
     ·exact r_ (below9 HWU.out (B:=w.heap.size+1+1+1) (C:=w.heap.size+1+1+1+1) (by omega) (by omega) _ _ _ _ _ _ _ _ _)
   ·obtain ⟨U,hU⟩:=gM ((((w2.setCell ⟨V.heap.size,0,none⟩ (.int .i64 t.rows)).setCell ⟨V.heap.size,1,none⟩ (.int .i64 t.cols)).setCell ⟨V.heap.size,2,none⟩ (.slice ta tn tk)))
    rw[<-hU]
    have HUB:Hid (Below V.heap.size V U):=by rw[hU];exact h_ (S_ HB2.out (Nat.le_refl _) _ _ _)
    have hmt:=(Mut.set (w:=w2) (B:=V.heap.size) ⟨⟨z0,z1,z2⟩,HZF.out⟩ t.rows t.cols (.slice ta tn tk)).t
    rw[<-hU]at hmt
    obtain ⟨p0,p1,p2⟩:=hmt
    have HTI:Hid (I_ U (.slice ta tn tk) t.cells):=by rw[hU];exact h_ (HN.out.set3 HTG.out (Nat.lt_succ_self _) _ _ _).ints
    clear hU z0 z1 z2 z3 z4 z5 HZB HZF HTG i0 i1 i2 i3 i4 j0 j1 j2 j3 j4 d3 y0 y1 y2 g0 hv0 hv2 hvb HT
    have HWU:=h_ (b_ HWV.out HUB.out)
    have HOI:=h_ (HON.out.u_ HUB.out)
    obtain ⟨q0,q1,q2⟩:=(HQV.out.u_ HUB.out).c3
    obtain ⟨t0,t1,t2,t3,t4,t5⟩:=(HPV.out.u_ HUB.out).c6
    obtain ⟨d0,d1,d2,d3,d4,d5⟩:=(HDV.out.u_ HUB.out).c6
    obtain ⟨f0,f1,f2⟩:=(HFQ.out.u_ HUB.out HQV.out.lt).f3
    obtain ⟨v0,v1,v2,v3,v4,v5⟩:=(HFP.out.u_ HUB.out HPV.out.lt).f6
    have nd:¬w.heap.size+1+1+1+1+1=w.heap.size+1+1+1:=by omega
    have k0:=s_ d0 (B:=w.heap.size+1+1+1) nd (.int .i64 t.rows) (.int .i64 t.cols) (.slice ta tn tk)
    have k1:=s_ d1 (B:=w.heap.size+1+1+1) nd (.int .i64 t.rows) (.int .i64 t.cols) (.slice ta tn tk)
    have k2:=s_ d2 (B:=w.heap.size+1+1+1) nd (.int .i64 t.rows) (.int .i64 t.cols) (.slice ta tn tk)
    have k3:=s_ d3 (B:=w.heap.size+1+1+1) nd (.int .i64 t.rows) (.int .i64 t.cols) (.slice ta tn tk)
    have k4:=s_ d4 (B:=w.heap.size+1+1+1) nd (.int .i64 t.rows) (.int .i64 t.cols) (.slice ta tn tk)
    have k5:=s_ d5 (B:=w.heap.size+1+1+1) nd (.int .i64 t.rows) (.int .i64 t.cols) (.slice ta tn tk)
    go_wp2
    go_region
    all_goals go_wp2
    all_goals
     have HA:=above9 (B:=w.heap.size+1+1+1) (C:=w.heap.size+1+1+1+1) HLQ.out HLP.out U (.int .i64 t.rows) (.int .i64 t.cols) (.slice ta tn tk) (.int .i64 1) (.int .i64 1) (.slice (some ⟨wr.heap.size,0,none⟩) 1 1) (.int .i64 0) (.int .i64 0) (.slice none 0 0)
     refine bodyPost_ret (v:=.tuple #[.agg #[.int .i64 t.rows,.int .i64 t.cols,.slice ta tn tk],.agg #[.int .i64 1,.int .i64 1,.slice (some ⟨wr.heap.size,0,none⟩) 1 1,.int .i64 0,.int .i64 0,.slice none 0 0]]) (by simp[results,Tryz.results93,go_sem,q0,q1,q2,t0,t1,t2,t3,t4,t5]) rfl ⟨_,_,rfl,⟨_,rfl,HTI.out.above (f_ HTF.out HZV.out) HA.drew⟩,⟨_,_,rfl,?_,I_.nil _⟩,?_,f_ HTF.out HWV.out.size,fresh2_of (f_ HOF.out H0W.out.size) (y_ _ _ _)⟩
     ·show I_ _ _ [sumP x g N]
      rw[HZ.out]
      exact HOI.out.above HOF.out HA.drew
     ·exact r_ (below9 HWU.out (B:=w.heap.size+1+1+1) (C:=w.heap.size+1+1+1+1) (by omega) (by omega) _ _ _ _ _ _ _ _ _)
theorem rback_any(v vx vg:Value)(l:Ly)(x g:Mx)(w:World)(hv:IsLy w v l)(hx:M_ w vx x)(hg:M_ w vg g)(hE:backE l x g=0):Calls Tryz.prog 93 #[v,vx,vg] w (RefBack w (backX l x g) (gradW l x g) (gradB l x g)):=by
 obtain ⟨s,t,rfl,hs,ht⟩:=hv
 obtain ⟨xa,xn,xk,rfl⟩:=hs.shape
 obtain ⟨ya,yn,yk,rfl⟩:=ht.shape
 cases lyG_of (goE_zero (backE_zero hE).1).1 using LyG.el with
 |lin _ _ hk _ _ _ _ _=>rw[hk];exact rback_linear l x g vx vg w hk hE hs hx hg
 |relu hk _ _=>rw[hk];exact rback_relu l x g vx vg w hk hE hx hg
 |scale hk _ _=>rw[hk];exact rback_scale l x g vx vg w hk hE hs hx hg
 |shift _ hk _ _ _=>rw[hk];exact rback_shift l x g vx vg w hk hE hx hg
end Go.Proofs.YtniloklglpchfaeGreatDoor
