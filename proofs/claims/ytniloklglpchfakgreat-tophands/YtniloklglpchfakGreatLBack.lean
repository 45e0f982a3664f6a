/- What back of the kinds Linear, Relu and Shift of package layer comes to. -/
import Derived.Test.YtniloklglpchfakGreatPkLForth
namespace Go.Proofs.YtniloklglpchfakGreat
open Go.RowKit
theorem Above.drew{n:Nat}{w u:World}(h:Above n w u):Above n w u.drew:=h
theorem above9{n B C:Nat}(hB:B<n)(hC:C<n)(u:World)(x0 x1 x2 y0 y1 y2 y3 y4 y5:Value):Above n u (((((((((u.setCell ⟨B,0,none⟩ x0).setCell ⟨B,1,none⟩ x1).setCell ⟨B,2,none⟩ x2).setCell ⟨C,0,none⟩ y0).setCell ⟨C,1,none⟩ y1).setCell ⟨C,2,none⟩ y2).setCell ⟨C,3,none⟩ y3).setCell ⟨C,4,none⟩ y4).setCell ⟨C,5,none⟩ y5):=above6 hC (above3 hB u x0 x1 x2) y0 y1 y2 y3 y4 y5
theorem below9{V u:World}{B C:Nat}(h:Below V.heap.size V u)(hB:V.heap.size≤B)(hC:V.heap.size≤C)(x0 x1 x2 y0 y1 y2 y3 y4 y5:Value):Below V.heap.size V (((((((((u.setCell ⟨B,0,none⟩ x0).setCell ⟨B,1,none⟩ x1).setCell ⟨B,2,none⟩ x2).setCell ⟨C,0,none⟩ y0).setCell ⟨C,1,none⟩ y1).setCell ⟨C,2,none⟩ y2).setCell ⟨C,3,none⟩ y3).setCell ⟨C,4,none⟩ y4).setCell ⟨C,5,none⟩ y5):=below6 (S_ h hB x0 x1 x2) hC y0 y1 y2 y3 y4 y5
set_option maxHeartbeats 1600000 in
theorem back_linear(l:Ly){xa:Option Addr}{xn xk:Nat}{ya:Option Addr}{yn yk:Nat}(x g:Mx)(vx vg:Value)(w:World)(R Rw Cw:Nat)(gx:Good x R Rw)(gw:Good l.w Rw Cw)(gg:Good g R Cw)(hw:Rw≤12)(hR:R≤12)(hs:I_ w (.slice xa xn xk) l.w.cells)(hx:M_ w vx x)(hg:M_ w vg g):
  Calls Tryz.prog 146 #[.agg #[.int .i64 l.w.rows,.int .i64 l.w.cols,.slice xa xn xk,.int .i64 l.b.rows,.int .i64 l.b.cols,.slice ya yn yk],vx,vg] w (BackErr w (mulX g (turnX l.w)) (mulX (turnX x) g) (sumsX g) 0):=by
 obtain ⟨sx,rfl,hsx⟩:=hx
 obtain ⟨sg,rfl,hsg⟩:=hg
 obtain ⟨za,zn,zk,rfl⟩:=hsx.shape
 obtain ⟨ga,gn,gk,rfl⟩:=hsg.shape
 obtain ⟨wr,e1⟩:=gN (l.w.rows)
 obtain ⟨wc,e2⟩:=gN (l.w.cols)
 obtain ⟨br,e3⟩:=gN (l.b.rows)
 obtain ⟨bc,e4⟩:=gN (l.b.cols)
 obtain ⟨r,e5⟩:=gN (x.rows)
 obtain ⟨c,e6⟩:=gN (x.cols)
 obtain ⟨r',e7⟩:=gN (g.rows)
 obtain ⟨c',e8⟩:=gN (g.cols)
 have HMT:=h_ (fun W (h:Below w.heap.size w W)=>multurned_any _ _ g l.w W R Rw Cw gg gw hw ⟨_,rfl,hsg.u_ h⟩ ⟨_,rfl,hs.u_ h⟩)
 obtain ⟨t,ht⟩:=gN (mulX g (turnX l.w))
 have HGR:=h_ (fun W (h:Below w.heap.size w W)=>grad_any _ _ x g W R Rw Cw gx gg hR ⟨_,rfl,hsx.u_ h⟩ ⟨_,rfl,hsg.u_ h⟩)
 obtain ⟨p,hp⟩:=gN (mulX (turnX x) g)
 obtain ⟨q,hq⟩:=gN (sumsX g)
 rw[ht]at HMT ⊢
 rw[hp,hq]at HGR ⊢
 rw[e7,e8,e1,e2]at HMT
 rw[e5,e6,e7,e8]at HGR
 rw[e1,e2,e3,e4,e5,e6,e7,e8]
 obtain ⟨V,hV⟩:=gM ((((((w.alloc (.cells #[.int .i64 wr,.int .i64 wc,.slice xa xn xk,.int .i64 br,.int .i64 bc,.slice ya yn yk] 202)).alloc (.cells #[.int .i64 r,.int .i64 c,.slice za zn zk] 28)).alloc (.cells #[.int .i64 r',.int .i64 c',.slice ga gn gk] 28)).alloc (.cells #[.int .i64 0,.int .i64 0,.slice none 0 0] 28)).alloc (.cells #[.int .i64 0,.int .i64 0,.slice none 0 0,.int .i64 0,.int .i64 0,.slice none 0 0] 109)))
 have HV:=h_ hV
 have HBW:Hid (Below w.heap.size w V):=by rw[hV];exact h_ (b_ (b_ (b_ (b_ (o_ _ _) (o_ _ _)) (o_ _ _)) (o_ _ _)) (o_ _ _))
 have HBK:Hid (Box V w.heap.size [.int .i64 wr,.int .i64 wc,.slice xa xn xk,.int .i64 br,.int .i64 bc,.slice ya yn yk]):=by rw[hV];exact h_ (((((Box.new w [.int .i64 wr,.int .i64 wc,.slice xa xn xk,.int .i64 br,.int .i64 bc,.slice ya yn yk] 202 rfl).u_ (o_ _ _)).u_ (o_ _ _)).u_ (o_ _ _)).u_ (o_ _ _))
 have HBX:Hid (Box V (w.heap.size+1) [.int .i64 r,.int .i64 c,.slice za zn zk]):=by rw[hV];exact h_ ((((Box.new _ [.int .i64 r,.int .i64 c,.slice za zn zk] 28 (by simp)).u_ (o_ _ _)).u_ (o_ _ _)).u_ (o_ _ _))
 have HBG:Hid (Box V (w.heap.size+1+1) [.int .i64 r',.int .i64 c',.slice ga gn gk]):=by rw[hV];exact h_ (((Box.new _ [.int .i64 r',.int .i64 c',.slice ga gn gk] 28 (by simp)).u_ (o_ _ _)).u_ (o_ _ _))
 have HQ:Hid (Box V (w.heap.size+1+1+1) [.int .i64 0,.int .i64 0,.slice none 0 0]):=by rw[hV];exact h_ ((Box.new _ [.int .i64 0,.int .i64 0,.slice none 0 0] 28 (by simp)).u_ (o_ _ _))
 have HFR:Hid (Free V (w.heap.size+1+1+1)):=by rw[hV];exact h_ ((Free.new _ _ 28 (by simp)).u_ (o_ _ _) (by simp))
 have HP:Hid (Box V (w.heap.size+1+1+1+1) [.int .i64 0,.int .i64 0,.slice none 0 0,.int .i64 0,.int .i64 0,.slice none 0 0]):=by rw[hV];exact h_ (Box.new _ [.int .i64 0,.int .i64 0,.slice none 0 0,.int .i64 0,.int .i64 0,.slice none 0 0] 109 (by simp))
 have HFP:Hid (Free V (w.heap.size+1+1+1+1)):=by rw[hV];exact h_ (Free.new _ _ 109 (by simp))
 have HL:=h_ HQ.out.lt
 have HM2:=h_ HP.out.lt
 clear hV
 clear hs hsx hsg e1 e2 e3 e4 e5 e6 e7 e8 ht hp hq gx gw gg hw hR
 obtain ⟨d0,d1,d2⟩:=HBK.out.c3
 obtain ⟨y0,y1,y2⟩:=HBG.out.c3
 go_enter Tryz.func146,Tryz.ntmps146
 go_wp2_with fail
 rw[←HV.out]
 refine (HMT.out _ HBW.out).mono ?_
 intro e w1 h
 have HF:=h_ h.fresh_any
 obtain ⟨ta,tn,tk,rfl,htm,hb1⟩:=h.good rfl
 have HTF:=h_ (HF.out _ _ rfl)
 have HD:=h_ (b_ hb1 (o_ w1 (.cells #[.int .i64 t.rows,.int .i64 t.cols,.slice ta tn tk] 28)))
 have HTM:=h_ (htm.u_ (o_ w1 (.cells #[.int .i64 t.rows,.int .i64 t.cols,.slice ta tn tk] 28)))
 have HTB:=h_ (Box.new w1 [.int .i64 t.rows,.int .i64 t.cols,.slice ta tn tk] 28 rfl)
 clear h htm hb1 HMT HF d0 d1 d2 y0 y1 y2
 obtain ⟨d0,d1,d2⟩:=(HBX.out.u_ HD.out).c3
 obtain ⟨y0,y1,y2⟩:=(HBG.out.u_ HD.out).c3
 go_wp2_with fail
 refine (HGR.out _ (b_ HBW.out HD.out)).mono ?_
 rintro e w2 ⟨dv,rfl,hd,hb2,hf2⟩
 obtain ⟨s1,s2,rfl,hs1,hs2⟩:=hd
 obtain ⟨ua,un,uk,rfl⟩:=hs1.shape
 obtain ⟨va,vn,vk,rfl⟩:=hs2.shape
 rw[e_ rfl]
 have D2:=b_ hb2 (o_ w2 (.cells #[.int .i64 p.rows,.int .i64 p.cols,.slice ua un uk,.int .i64 q.rows,.int .i64 q.cols,.slice va vn vk] 109))
 have HD2:=h_ (b_ HD.out D2)
 have HTB2:=h_ (HTB.out.u_ D2)
 have HTM2:=h_ (HTM.out.u_ D2)
 have HU:=h_ (hs1.u_ (o_ w2 (.cells #[.int .i64 p.rows,.int .i64 p.cols,.slice ua un uk,.int .i64 q.rows,.int .i64 q.cols,.slice va vn vk] 109)))
 have HVV:=h_ (hs2.u_ (o_ w2 (.cells #[.int .i64 p.rows,.int .i64 p.cols,.slice ua un uk,.int .i64 q.rows,.int .i64 q.cols,.slice va vn vk] 109)))
 have hfr:=hf2 _ _ _ _ _ _ _ _ _ _ rfl
 have HUF:=h_ (f_ hfr.1 HD.out.size)
 have HVF:=h_ (f_ hfr.2 HD.out.size)
 clear hb2 hf2 hs1 hs2 HGR d0 d1 d2 y0 y1 y2 D2 hfr HTB HTM
 obtain ⟨d0,d1,d2⟩:=HTB2.out.c3
 obtain ⟨U,hU⟩:=gM (w2.alloc (.cells #[.int .i64 p.rows,.int .i64 p.cols,.slice ua un uk,.int .i64 q.rows,.int .i64 q.cols,.slice va vn vk] 109))
 have HGB:Hid (Box U w2.heap.size [.int .i64 p.rows,.int .i64 p.cols,.slice ua un uk,.int .i64 q.rows,.int .i64 q.cols,.slice va vn vk]):=by rw[hU];exact h_ (Box.new w2 _ 109 rfl)
 have hBw:¬w2.heap.size=w.heap.size+1+1+1:=by
  have h1:=HM2.out
  have h2:=HD2.out.size
  simp only[World.size_alloc]at h2
  omega
 rw[←hU]at HD2 HTM2 HU HVV d0 d1 d2
 obtain ⟨p0,p1,p2⟩:=(HQ.out.u_ HD2.out).c3
 obtain ⟨f0,f1,f2⟩:=(HFR.out.u_ HD2.out HL.out).f3
 obtain ⟨q0,q1,q2,q3,q4,q5⟩:=(HP.out.u_ HD2.out).c6
 obtain ⟨h0,h1,h2,h3,h4,h5⟩:=(HFP.out.u_ HD2.out HM2.out).f6
 obtain ⟨g0,g1,g2,g3,g4,g5⟩:=HGB.out.c6
 have k0:=s_ g0 (B:=w.heap.size+1+1+1) hBw (.int .i64 t.rows) (.int .i64 t.cols) (.slice ta tn tk)
 have k1:=s_ g1 (B:=w.heap.size+1+1+1) hBw (.int .i64 t.rows) (.int .i64 t.cols) (.slice ta tn tk)
 have k2:=s_ g2 (B:=w.heap.size+1+1+1) hBw (.int .i64 t.rows) (.int .i64 t.cols) (.slice ta tn tk)
 have k3:=s_ g3 (B:=w.heap.size+1+1+1) hBw (.int .i64 t.rows) (.int .i64 t.cols) (.slice ta tn tk)
 have k4:=s_ g4 (B:=w.heap.size+1+1+1) hBw (.int .i64 t.rows) (.int .i64 t.cols) (.slice ta tn tk)
 have k5:=s_ g5 (B:=w.heap.size+1+1+1) hBw (.int .i64 t.rows) (.int .i64 t.cols) (.slice ta tn tk)
 go_wp2
 rw[←hU]
 clear hU
 go_region
 all_goals go_wp2
 all_goals
  have HA:=above9 (B:=w.heap.size+1+1+1) (C:=w.heap.size+1+1+1+1) HL.out HM2.out U (.int .i64 t.rows) (.int .i64 t.cols) (.slice ta tn tk) (.int .i64 p.rows) (.int .i64 p.cols) (.slice ua un uk) (.int .i64 q.rows) (.int .i64 q.cols) (.slice va vn vk)
  exact bodyPost_ret (v:=.tuple #[.agg #[.int .i64 t.rows,.int .i64 t.cols,.slice ta tn tk],.agg #[.int .i64 p.rows,.int .i64 p.cols,.slice ua un uk,.int .i64 q.rows,.int .i64 q.cols,.slice va vn vk],.nilIface]) (by simp[results,Tryz.results146,go_sem,p0,p1,p2,q0,q1,q2,q3,q4,q5]) rfl
   ⟨_,_,rfl,HTM2.out.above HTF.out HA.drew,two_of (HU.out.above HUF.out HA.drew) (HVV.out.above HVF.out HA.drew),r_ (below9 (b_ HBW.out HD2.out) (B:=w.heap.size+1+1+1) (C:=w.heap.size+1+1+1+1) (by omega) (by omega) _ _ _ _ _ _ _ _ _),f_ HTF.out HBW.out.size,fresh2_of (f_ HUF.out HBW.out.size) (f_ HVF.out HBW.out.size)⟩
set_option maxHeartbeats 1600000 in
theorem back_linear_far(l:Ly){xa:Option Addr}{xn xk:Nat}{ya:Option Addr}{yn yk:Nat}(x g:Mx)(vx vg:Value)(w:World)(R Rw Cw:Nat)(gx:Good x R Rw)(gw:Good l.w Rw Cw)(gg:Good g R Cw)(hw:Rw≤12)(hR:12<R)(hs:I_ w (.slice xa xn xk) l.w.cells)(hx:M_ w vx x)(hg:M_ w vg g):
  Calls Tryz.prog 146 #[.agg #[.int .i64 l.w.rows,.int .i64 l.w.cols,.slice xa xn xk,.int .i64 l.b.rows,.int .i64 l.b.cols,.slice ya yn yk],vx,vg] w (BackErr w noMx noMx noMx 1):=by
 obtain ⟨sx,rfl,hsx⟩:=hx
 obtain ⟨sg,rfl,hsg⟩:=hg
 obtain ⟨za,zn,zk,rfl⟩:=hsx.shape
 obtain ⟨ga,gn,gk,rfl⟩:=hsg.shape
 obtain ⟨wr,e1⟩:=gN (l.w.rows)
 obtain ⟨wc,e2⟩:=gN (l.w.cols)
 obtain ⟨br,e3⟩:=gN (l.b.rows)
 obtain ⟨bc,e4⟩:=gN (l.b.cols)
 obtain ⟨r,e5⟩:=gN (x.rows)
 obtain ⟨c,e6⟩:=gN (x.cols)
 obtain ⟨r',e7⟩:=gN (g.rows)
 obtain ⟨c',e8⟩:=gN (g.cols)
 have HMT:=h_ (fun W (h:Below w.heap.size w W)=>multurned_any _ _ g l.w W R Rw Cw gg gw hw ⟨_,rfl,hsg.u_ h⟩ ⟨_,rfl,hs.u_ h⟩)
 obtain ⟨t,ht⟩:=gN (mulX g (turnX l.w))
 have HGR:=h_ (fun W (h:Below w.heap.size w W)=>grad_far _ _ x g W R Rw gx hR ⟨_,rfl,hsx.u_ h⟩ ⟨_,rfl,hsg.u_ h⟩)
 rw[ht]at HMT
 rw[e7,e8,e1,e2]at HMT
 rw[e5,e6,e7,e8]at HGR
 rw[e1,e2,e3,e4,e5,e6,e7,e8]
 obtain ⟨V,hV⟩:=gM ((((((w.alloc (.cells #[.int .i64 wr,.int .i64 wc,.slice xa xn xk,.int .i64 br,.int .i64 bc,.slice ya yn yk] 202)).alloc (.cells #[.int .i64 r,.int .i64 c,.slice za zn zk] 28)).alloc (.cells #[.int .i64 r',.int .i64 c',.slice ga gn gk] 28)).alloc (.cells #[.int .i64 0,.int .i64 0,.slice none 0 0] 28)).alloc (.cells #[.int .i64 0,.int .i64 0,.slice none 0 0,.int .i64 0,.int .i64 0,.slice none 0 0] 109)))
 have HV:=h_ hV
 have HBW:Hid (Below w.heap.size w V):=by rw[hV];exact h_ (b_ (b_ (b_ (b_ (o_ _ _) (o_ _ _)) (o_ _ _)) (o_ _ _)) (o_ _ _))
 have HBK:Hid (Box V w.heap.size [.int .i64 wr,.int .i64 wc,.slice xa xn xk,.int .i64 br,.int .i64 bc,.slice ya yn yk]):=by rw[hV];exact h_ (((((Box.new w [.int .i64 wr,.int .i64 wc,.slice xa xn xk,.int .i64 br,.int .i64 bc,.slice ya yn yk] 202 rfl).u_ (o_ _ _)).u_ (o_ _ _)).u_ (o_ _ _)).u_ (o_ _ _))
 have HBX:Hid (Box V (w.heap.size+1) [.int .i64 r,.int .i64 c,.slice za zn zk]):=by rw[hV];exact h_ ((((Box.new _ [.int .i64 r,.int .i64 c,.slice za zn zk] 28 (by simp)).u_ (o_ _ _)).u_ (o_ _ _)).u_ (o_ _ _))
 have HBG:Hid (Box V (w.heap.size+1+1) [.int .i64 r',.int .i64 c',.slice ga gn gk]):=by rw[hV];exact h_ (((Box.new _ [.int .i64 r',.int .i64 c',.slice ga gn gk] 28 (by simp)).u_ (o_ _ _)).u_ (o_ _ _))
 have HQ:Hid (Box V (w.heap.size+1+1+1) [.int .i64 0,.int .i64 0,.slice none 0 0]):=by rw[hV];exact h_ ((Box.new _ [.int .i64 0,.int .i64 0,.slice none 0 0] 28 (by simp)).u_ (o_ _ _))
 have HFR:Hid (Free V (w.heap.size+1+1+1)):=by rw[hV];exact h_ ((Free.new _ _ 28 (by simp)).u_ (o_ _ _) (by simp))
 have HP:Hid (Box V (w.heap.size+1+1+1+1) [.int .i64 0,.int .i64 0,.slice none 0 0,.int .i64 0,.int .i64 0,.slice none 0 0]):=by rw[hV];exact h_ (Box.new _ [.int .i64 0,.int .i64 0,.slice none 0 0,.int .i64 0,.int .i64 0,.slice none 0 0] 109 (by simp))
 have HFP:Hid (Free V (w.heap.size+1+1+1+1)):=by rw[hV];exact h_ (Free.new _ _ 109 (by simp))
 have HL:=h_ HQ.out.lt
 have HM2:=h_ HP.out.lt
 clear hV
 clear hs hsx hsg e1 e2 e3 e4 e5 e6 e7 e8 ht gx gw gg hw hR
 obtain ⟨d0,d1,d2⟩:=HBK.out.c3
 obtain ⟨y0,y1,y2⟩:=HBG.out.c3
 go_enter Tryz.func146,Tryz.ntmps146
 go_wp2_with fail
 rw[←HV.out]
 refine (HMT.out _ HBW.out).mono ?_
 intro e w1 h
 have HF:=h_ h.fresh_any
 obtain ⟨ta,tn,tk,rfl,htm,hb1⟩:=h.good rfl
 have HTF:=h_ (HF.out _ _ rfl)
 have HD:=h_ (b_ hb1 (o_ w1 (.cells #[.int .i64 t.rows,.int .i64 t.cols,.slice ta tn tk] 28)))
 have HTM:=h_ (htm.u_ (o_ w1 (.cells #[.int .i64 t.rows,.int .i64 t.cols,.slice ta tn tk] 28)))
 have HTB:=h_ (Box.new w1 [.int .i64 t.rows,.int .i64 t.cols,.slice ta tn tk] 28 rfl)
 clear h htm hb1 HMT HF d0 d1 d2 y0 y1 y2
 obtain ⟨d0,d1,d2⟩:=(HBX.out.u_ HD.out).c3
 obtain ⟨y0,y1,y2⟩:=(HBG.out.u_ HD.out).c3
 go_wp2_with fail
 refine (HGR.out _ (b_ HBW.out HD.out)).mono ?_
 rintro e w2 ⟨dv,rfl,hd,hb2,hf2⟩
 obtain ⟨s1,s2,rfl,hs1,hs2⟩:=hd
 obtain ⟨ua,un,uk,rfl⟩:=hs1.shape
 obtain ⟨va,vn,vk,rfl⟩:=hs2.shape
 rw[n_ (show (1:Int)≠0 by decide)]
 have HD2:=h_ (b_ (b_ HD.out hb2) (o_ w2 (.cells #[.int .i64 noMx.rows,.int .i64 noMx.cols,.slice ua un uk,.int .i64 noMx.rows,.int .i64 noMx.cols,.slice va vn vk] 109)))
 clear hb2 hf2 hs1 hs2 HGR d0 d1 d2 y0 y1 y2
 obtain ⟨p0,p1,p2⟩:=(HQ.out.u_ HD2.out).c3
 obtain ⟨f0,f1,f2⟩:=(HFR.out.u_ HD2.out HL.out).f3
 obtain ⟨q0,q1,q2,q3,q4,q5⟩:=(HP.out.u_ HD2.out).c6
 obtain ⟨h0,h1,h2,h3,h4,h5⟩:=(HFP.out.u_ HD2.out HM2.out).f6
 go_wp2
 exact bodyPost_ret (v:=.tuple #[.agg #[.int .i64 0,.int .i64 0,.slice none 0 0],.agg #[.int .i64 0,.int .i64 0,.slice none 0 0,.int .i64 0,.int .i64 0,.slice none 0 0],.iface 94 (.int .i64 1)]) (by simp[results,Tryz.results146,go_sem,p0,p1,p2,q0,q1,q2,q3,q4,q5]) rfl
  ⟨_,_,rfl,isMx_no _,isTwo_no _,below9 (b_ HBW.out HD2.out) (B:=w.heap.size+1+1+1) (C:=w.heap.size+1+1+1+1) (by omega) (by omega) _ _ _ _ _ _ _ _ _,y_ _ _ _,fresh2_no _ _ _ _ _⟩
set_option maxHeartbeats 1600000 in
theorem back_relu(l:Ly){xa:Option Addr}{xn xk:Nat}{ya:Option Addr}{yn yk:Nat}(x g:Mx)(vx vg:Value)(w:World)(R C:Nat)(gx:Good x R C)(gg:Good g R C)(hx:M_ w vx x)(hg:M_ w vg g):
  Calls Tryz.prog 164 #[.agg #[.int .i64 l.w.rows,.int .i64 l.w.cols,.slice xa xn xk,.int .i64 l.b.rows,.int .i64 l.b.cols,.slice ya yn yk],vx,vg] w (BackErr w (reluB x g) noMx noMx 0):=by
 obtain ⟨sx,rfl,hsx⟩:=hx
 obtain ⟨sg,rfl,hsg⟩:=hg
 obtain ⟨za,zn,zk,rfl⟩:=hsx.shape
 obtain ⟨ga,gn,gk,rfl⟩:=hsg.shape
 obtain ⟨wr,e1⟩:=gN (l.w.rows)
 obtain ⟨wc,e2⟩:=gN (l.w.cols)
 obtain ⟨br,e3⟩:=gN (l.b.rows)
 obtain ⟨bc,e4⟩:=gN (l.b.cols)
 obtain ⟨r,e5⟩:=gN (x.rows)
 obtain ⟨c,e6⟩:=gN (x.cols)
 obtain ⟨r',e7⟩:=gN (g.rows)
 obtain ⟨c',e8⟩:=gN (g.cols)
 have eg:=enters_of (f:=167) Tryz.func167 (by kernel_rfl) rfl
 have hn:g.cells.length≤576:=by have:=gg.l;have:=Nat.mul_le_mul gg.hR gg.hC;omega
 have HEA:=h_ (fun W (h:Below w.heap.size w W) (hB:BoxMx W (w.heap.size+1) x)=>each_new eg (w:=W) (m:=g) ⟨_,rfl,hsg.u_ h⟩ hn (reluB_gives (w.heap.size+1) x g.cells W hB (by rw[gx.l,gg.l]) hn))
 have hq0:eachX g (fun i=>if 0<A_ x i then (g.cells[i]?).getD 0 else 0)=reluB x g:=rfl
 rw[hq0]at HEA
 obtain ⟨t,ht⟩:=gN (reluB x g)
 rw[ht]at HEA ⊢
 rw[e7,e8]at HEA
 have HEX:=h_ (And.intro e5 e6)
 have HSX:=h_ hsx
 rw[e1,e2,e3,e4,e5,e6,e7,e8]
 obtain ⟨V,hV⟩:=gM ((((((w.alloc (.cells #[.int .i64 wr,.int .i64 wc,.slice xa xn xk,.int .i64 br,.int .i64 bc,.slice ya yn yk] 205)).alloc (.cells #[.int .i64 r,.int .i64 c,.slice za zn zk] 28)).alloc (.cells #[.int .i64 r',.int .i64 c',.slice ga gn gk] 28)).alloc (.cells #[.int .i64 0,.int .i64 0,.slice none 0 0] 28)).alloc (.cells #[.int .i64 0,.int .i64 0,.slice none 0 0,.int .i64 0,.int .i64 0,.slice none 0 0] 109)))
 have HV:=h_ hV
 have HBW:Hid (Below w.heap.size w V):=by rw[hV];exact h_ (b_ (b_ (b_ (b_ (o_ _ _) (o_ _ _)) (o_ _ _)) (o_ _ _)) (o_ _ _))
 have HBK:Hid (Box V w.heap.size [.int .i64 wr,.int .i64 wc,.slice xa xn xk,.int .i64 br,.int .i64 bc,.slice ya yn yk]):=by rw[hV];exact h_ (((((Box.new w [.int .i64 wr,.int .i64 wc,.slice xa xn xk,.int .i64 br,.int .i64 bc,.slice ya yn yk] 205 rfl).u_ (o_ _ _)).u_ (o_ _ _)).u_ (o_ _ _)).u_ (o_ _ _))
 have HBX:Hid (Box V (w.heap.size+1) [.int .i64 r,.int .i64 c,.slice za zn zk]):=by rw[hV];exact h_ ((((Box.new _ [.int .i64 r,.int .i64 c,.slice za zn zk] 28 (by simp)).u_ (o_ _ _)).u_ (o_ _ _)).u_ (o_ _ _))
 have HBG:Hid (Box V (w.heap.size+1+1) [.int .i64 r',.int .i64 c',.slice ga gn gk]):=by rw[hV];exact h_ (((Box.new _ [.int .i64 r',.int .i64 c',.slice ga gn gk] 28 (by simp)).u_ (o_ _ _)).u_ (o_ _ _))
 have HQ:Hid (Box V (w.heap.size+1+1+1) [.int .i64 0,.int .i64 0,.slice none 0 0]):=by rw[hV];exact h_ ((Box.new _ [.int .i64 0,.int .i64 0,.slice none 0 0] 28 (by simp)).u_ (o_ _ _))
 have HFR:Hid (Free V (w.heap.size+1+1+1)):=by rw[hV];exact h_ ((Free.new _ _ 28 (by simp)).u_ (o_ _ _) (by simp))
 have HP:Hid (Box V (w.heap.size+1+1+1+1) [.int .i64 0,.int .i64 0,.slice none 0 0,.int .i64 0,.int .i64 0,.slice none 0 0]):=by rw[hV];exact h_ (Box.new _ [.int .i64 0,.int .i64 0,.slice none 0 0,.int .i64 0,.int .i64 0,.slice none 0 0] 109 (by simp))
 have HFP:Hid (Free V (w.heap.size+1+1+1+1)):=by rw[hV];exact h_ (Free.new _ _ 109 (by simp))
 have HL:=h_ HQ.out.lt
 have HM2:=h_ HP.out.lt
 clear hV
 have HBM:=h_ (show BoxMx V (w.heap.size+1) x from ⟨_,by rw[HEX.out.1];exact HBX.out 0 _ rfl,by rw[HEX.out.2];exact HBX.out 1 _ rfl,HBX.out 2 _ rfl,HSX.out.u_ HBW.out⟩)
 clear hsx hsg e1 e2 e3 e4 e5 e6 e7 e8 ht gx gg eg hq0 hn HEX HSX HBK
 obtain ⟨y0,y1,y2⟩:=HBG.out.c3
 go_enter Tryz.func164,Tryz.ntmps164
 go_wp2_with fail
 rw[←HV.out]
 refine (HEA.out _ HBW.out HBM.out).mono ?_
 rintro e w1 ⟨ta,tn,tk,rfl,hnew,hb1⟩
 have HD:=h_ (b_ hb1 (o_ w1 (.cells #[.int .i64 t.rows,.int .i64 t.cols,.slice ta tn tk] 28)))
 have HTI:=h_ (hnew.isInts.u_ (o_ w1 (.cells #[.int .i64 t.rows,.int .i64 t.cols,.slice ta tn tk] 28)))
 have HTF:=h_ (hnew.fresh (Nat.le_refl _) (.int .i64 t.rows) (.int .i64 t.cols))
 clear hnew hb1 HEA y0 y1 y2
 obtain ⟨p0,p1,p2⟩:=(HQ.out.u_ HD.out).c3
 obtain ⟨f0,f1,f2⟩:=(HFR.out.u_ HD.out HL.out).f3
 obtain ⟨q0,q1,q2,q3,q4,q5⟩:=(HP.out.u_ HD.out).c6
 obtain ⟨h0,h1,h2,h3,h4,h5⟩:=(HFP.out.u_ HD.out HM2.out).f6
 go_wp2
 have HA:=above9 (B:=w.heap.size+1+1+1) (C:=w.heap.size+1+1+1+1) HL.out HM2.out (w1.alloc (.cells #[.int .i64 t.rows,.int .i64 t.cols,.slice ta tn tk] 28)) (.int .i64 t.rows) (.int .i64 t.cols) (.slice ta tn tk) (.int .i64 0) (.int .i64 0) (.slice none 0 0) (.int .i64 0) (.int .i64 0) (.slice none 0 0)
 exact bodyPost_ret (v:=.tuple #[.agg #[.int .i64 t.rows,.int .i64 t.cols,.slice ta tn tk],.agg #[.int .i64 0,.int .i64 0,.slice none 0 0,.int .i64 0,.int .i64 0,.slice none 0 0],.nilIface]) (by simp[results,Tryz.results164,go_sem,p0,p1,p2,q0,q1,q2,q3,q4,q5]) rfl
  ⟨_,_,rfl,⟨_,rfl,HTI.out.above HTF.out HA⟩,isTwo_no _,below9 (b_ HBW.out HD.out) (B:=w.heap.size+1+1+1) (C:=w.heap.size+1+1+1+1) (by omega) (by omega) _ _ _ _ _ _ _ _ _,f_ HTF.out HBW.out.size,fresh2_no _ _ _ _ _⟩
set_option maxHeartbeats 1600000 in
theorem back_shift(l:Ly){xa:Option Addr}{xn xk:Nat}{ya:Option Addr}{yn yk:Nat}(x g:Mx)(vx vg:Value)(w:World)(R C:Nat)(gg:Good g R C)(hx:M_ w vx x)(hg:M_ w vg g):
  Calls Tryz.prog 174 #[.agg #[.int .i64 l.w.rows,.int .i64 l.w.cols,.slice xa xn xk,.int .i64 l.b.rows,.int .i64 l.b.cols,.slice ya yn yk],vx,vg] w (BackErr w (eachX g (A_ g)) noMx (sumsX g) 0):=by
 obtain ⟨sx,rfl,hsx⟩:=hx
 obtain ⟨sg,rfl,hsg⟩:=hg
 obtain ⟨za,zn,zk,rfl⟩:=hsx.shape
 obtain ⟨ga,gn,gk,rfl⟩:=hsg.shape
 obtain ⟨wr,e1⟩:=gN (l.w.rows)
 obtain ⟨wc,e2⟩:=gN (l.w.cols)
 obtain ⟨br,e3⟩:=gN (l.b.rows)
 obtain ⟨bc,e4⟩:=gN (l.b.cols)
 obtain ⟨r,e5⟩:=gN (x.rows)
 obtain ⟨c,e6⟩:=gN (x.cols)
 obtain ⟨r',e7⟩:=gN (g.rows)
 obtain ⟨c',e8⟩:=gN (g.cols)
 have eg:=enters_of (f:=178) Tryz.func178 (by kernel_rfl) rfl
 have hn:g.cells.length≤576:=by have:=gg.l;have:=Nat.mul_le_mul gg.hR gg.hC;omega
 have HEA:=h_ (fun W (h:Below w.heap.size w W)=>each_new eg (w:=W) (m:=g) ⟨_,rfl,hsg.u_ h⟩ hn (copy_gives g.cells W))
 have hq0:eachX g (fun i=>(g.cells[i]?).getD 0)=eachX g (A_ g):=rfl
 rw[hq0]at HEA
 obtain ⟨t,ht⟩:=gN (eachX g (A_ g))
 rw[ht]at HEA ⊢
 have HS:=h_ (fun W (h:Below w.heap.size w W)=>msums_any _ g W ⟨_,rfl,hsg.u_ h⟩)
 have HE3:=h_ (show timesE g=0 by unfold timesE;rw[if_neg (by simp[gg.fault])])
 obtain ⟨q,hq⟩:=gN (sumsX g)
 rw[hq]at HS ⊢
 rw[e7,e8]at HEA HS
 rw[e1,e2,e3,e4,e5,e6,e7,e8]
 obtain ⟨V,hV⟩:=gM ((((((w.alloc (.cells #[.int .i64 wr,.int .i64 wc,.slice xa xn xk,.int .i64 br,.int .i64 bc,.slice ya yn yk] 207)).alloc (.cells #[.int .i64 r,.int .i64 c,.slice za zn zk] 28)).alloc (.cells #[.int .i64 r',.int .i64 c',.slice ga gn gk] 28)).alloc (.cells #[.int .i64 0,.int .i64 0,.slice none 0 0] 28)).alloc (.cells #[.int .i64 0,.int .i64 0,.slice none 0 0,.int .i64 0,.int .i64 0,.slice none 0 0] 109)))
 have HV:=h_ hV
 have HBW:Hid (Below w.heap.size w V):=by rw[hV];exact h_ (b_ (b_ (b_ (b_ (o_ _ _) (o_ _ _)) (o_ _ _)) (o_ _ _)) (o_ _ _))
 have HBK:Hid (Box V w.heap.size [.int .i64 wr,.int .i64 wc,.slice xa xn xk,.int .i64 br,.int .i64 bc,.slice ya yn yk]):=by rw[hV];exact h_ (((((Box.new w [.int .i64 wr,.int .i64 wc,.slice xa xn xk,.int .i64 br,.int .i64 bc,.slice ya yn yk] 207 rfl).u_ (o_ _ _)).u_ (o_ _ _)).u_ (o_ _ _)).u_ (o_ _ _))
 have HBX:Hid (Box V (w.heap.size+1) [.int .i64 r,.int .i64 c,.slice za zn zk]):=by rw[hV];exact h_ ((((Box.new _ [.int .i64 r,.int .i64 c,.slice za zn zk] 28 (by simp)).u_ (o_ _ _)).u_ (o_ _ _)).u_ (o_ _ _))
 have HBG:Hid (Box V (w.heap.size+1+1) [.int .i64 r',.int .i64 c',.slice ga gn gk]):=by rw[hV];exact h_ (((Box.new _ [.int .i64 r',.int .i64 c',.slice ga gn gk] 28 (by simp)).u_ (o_ _ _)).u_ (o_ _ _))
 have HQ:Hid (Box V (w.heap.size+1+1+1) [.int .i64 0,.int .i64 0,.slice none 0 0]):=by rw[hV];exact h_ ((Box.new _ [.int .i64 0,.int .i64 0,.slice none 0 0] 28 (by simp)).u_ (o_ _ _))
 have HFR:Hid (Free V (w.heap.size+1+1+1)):=by rw[hV];exact h_ ((Free.new _ _ 28 (by simp)).u_ (o_ _ _) (by simp))
 have HP:Hid (Box V (w.heap.size+1+1+1+1) [.int .i64 0,.int .i64 0,.slice none 0 0,.int .i64 0,.int .i64 0,.slice none 0 0]):=by rw[hV];exact h_ (Box.new _ [.int .i64 0,.int .i64 0,.slice none 0 0,.int .i64 0,.int .i64 0,.slice none 0 0] 109 (by simp))
 have HFP:Hid (Free V (w.heap.size+1+1+1+1)):=by rw[hV];exact h_ (Free.new _ _ 109 (by simp))
 have HL:=h_ HQ.out.lt
 have HM2:=h_ HP.out.lt
 clear hV
 clear hsx hsg e1 e2 e3 e4 e5 e6 e7 e8 ht hq gg eg hq0 hn HBK HBX
 obtain ⟨y0,y1,y2⟩:=HBG.out.c3
 go_enter Tryz.func174,Tryz.ntmps174
 go_wp2_with fail
 rw[←HV.out]
 refine (HS.out _ HBW.out).mono ?_
 intro e w1 h
 have HF:=h_ h.fresh_any
 obtain ⟨qa,qn,qk,rfl,hqm,hb1⟩:=h.good HE3.out
 have HQF:=h_ (HF.out _ _ rfl)
 have HD:=h_ (b_ hb1 (o_ w1 (.cells #[.int .i64 q.rows,.int .i64 q.cols,.slice qa qn qk] 28)))
 have HQM:=h_ (hqm.u_ (o_ w1 (.cells #[.int .i64 q.rows,.int .i64 q.cols,.slice qa qn qk] 28)))
 have HQB:=h_ (Box.new w1 [.int .i64 q.rows,.int .i64 q.cols,.slice qa qn qk] 28 rfl)
 clear h hqm hb1 HS HF y0 y1 y2
 obtain ⟨y0,y1,y2⟩:=(HBG.out.u_ HD.out).c3
 go_wp2_with fail
 refine (HEA.out _ (b_ HBW.out HD.out)).mono ?_
 rintro e w2 ⟨ta,tn,tk,rfl,hnew,hb2⟩
 have D2:=b_ hb2 (o_ w2 (.cells #[.int .i64 t.rows,.int .i64 t.cols,.slice ta tn tk] 28))
 have HD2:=h_ (b_ HD.out D2)
 have HQM2:=h_ (HQM.out.u_ D2)
 have HQB2:=h_ (HQB.out.u_ D2)
 have HTI:=h_ (hnew.isInts.u_ (o_ w2 (.cells #[.int .i64 t.rows,.int .i64 t.cols,.slice ta tn tk] 28)))
 have HTF:=h_ (f_ (hnew.fresh (Nat.le_refl _) (.int .i64 t.rows) (.int .i64 t.cols)) HD.out.size)
 clear hnew hb2 HEA y0 y1 y2 D2 HQM HQB
 obtain ⟨d0,d1,d2⟩:=HQB2.out.c3
 obtain ⟨U,hU⟩:=gM (w2.alloc (.cells #[.int .i64 t.rows,.int .i64 t.cols,.slice ta tn tk] 28))
 have HGB:Hid (Box U w2.heap.size [.int .i64 t.rows,.int .i64 t.cols,.slice ta tn tk]):=by rw[hU];exact h_ (Box.new w2 _ 28 rfl)
 have hBw:¬w1.heap.size=w.heap.size+1+1+1:=by
  have h1:=HM2.out
  have h2:=HD.out.size
  simp only[World.size_alloc]at h2
  omega
 rw[←hU]at HD2 HQM2 HTI d0 d1 d2
 obtain ⟨p0,p1,p2⟩:=(HQ.out.u_ HD2.out).c3
 obtain ⟨f0,f1,f2⟩:=(HFR.out.u_ HD2.out HL.out).f3
 obtain ⟨q0,q1,q2,q3,q4,q5⟩:=(HP.out.u_ HD2.out).c6
 obtain ⟨h0,h1,h2,h3,h4,h5⟩:=(HFP.out.u_ HD2.out HM2.out).f6
 obtain ⟨g0,g1,g2⟩:=HGB.out.c3
 have k0:=s_ d0 (B:=w.heap.size+1+1+1) hBw (.int .i64 t.rows) (.int .i64 t.cols) (.slice ta tn tk)
 have k1:=s_ d1 (B:=w.heap.size+1+1+1) hBw (.int .i64 t.rows) (.int .i64 t.cols) (.slice ta tn tk)
 have k2:=s_ d2 (B:=w.heap.size+1+1+1) hBw (.int .i64 t.rows) (.int .i64 t.cols) (.slice ta tn tk)
 go_wp2
 rw[←hU]
 clear hU
 go_region
 all_goals go_wp2
 all_goals
  have HA:=above9 (B:=w.heap.size+1+1+1) (C:=w.heap.size+1+1+1+1) HL.out HM2.out U (.int .i64 t.rows) (.int .i64 t.cols) (.slice ta tn tk) (.int .i64 0) (.int .i64 0) (.slice none 0 0) (.int .i64 q.rows) (.int .i64 q.cols) (.slice qa qn qk)
  exact bodyPost_ret (v:=.tuple #[.agg #[.int .i64 t.rows,.int .i64 t.cols,.slice ta tn tk],.agg #[.int .i64 0,.int .i64 0,.slice none 0 0,.int .i64 q.rows,.int .i64 q.cols,.slice qa qn qk],.nilIface]) (by simp[results,Tryz.results174,go_sem,p0,p1,p2,q0,q1,q2,q3,q4,q5]) rfl
   ⟨_,_,rfl,⟨_,rfl,HTI.out.above HTF.out HA.drew⟩,⟨_,_,rfl,I_.nil _,HQM2.out.ints.above HQF.out HA.drew⟩,r_ (below9 (b_ HBW.out HD2.out) (B:=w.heap.size+1+1+1) (C:=w.heap.size+1+1+1+1) (by omega) (by omega) _ _ _ _ _ _ _ _ _),f_ HTF.out HBW.out.size,fresh2_of (y_ _ _ _) (f_ HQF.out HBW.out.size)⟩
end Go.Proofs.YtniloklglpchfakGreat
