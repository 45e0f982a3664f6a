/- What forth of the kinds of package layer comes to: what a layer that fits gives of a matrix that goes with it. -/
import Derived.Test.YtniloklglpchfakGreatPkLEach
import Derived.Test.YtniloklglpchfakGreatPkMOps1
namespace Go.Proofs.YtniloklglpchfakGreat
open Go.RowKit
theorem newEnd{w V w2:World}{m:Mx}{B:Nat}{s:Value}(hnew:NewInts V.heap.size w2 s m.cells)(hV:Below w.heap.size w V)(hB:w.heap.size≤B)(hlt:B<V.heap.size)(hb:Below V.heap.size V w2)(x y z:Value):
  M_ (((w2.setCell ⟨B,0,none⟩ x).setCell ⟨B,1,none⟩ y).setCell ⟨B,2,none⟩ z) (.agg #[.int .i64 m.rows,.int .i64 m.cols,s]) m∧Below w.heap.size w (((w2.setCell ⟨B,0,none⟩ x).setCell ⟨B,1,none⟩ y).setCell ⟨B,2,none⟩ z)∧F_ w.heap.size (.agg #[.int .i64 m.rows,.int .i64 m.cols,s]):=
 ⟨⟨_,rfl,(((hnew.set hlt 0 x).set hlt 1 y).set hlt 2 z).isInts⟩,S_ (b_ hV hb) hB x y z,hnew.fresh hV.size _ _⟩
theorem s_{w:World}{p:Addr}{u:Value}{B:Nat}(h:w.cell? p=some u)(hne:¬p.block=B)(x y z:Value):(((w.setCell ⟨B,0,none⟩ x).setCell ⟨B,1,none⟩ y).setCell ⟨B,2,none⟩ z).cell? p=some u:=cell_other (cell_other (cell_other h hne 0 x) hne 1 y) hne 2 z
theorem errEnd{w V w2:World}{m:Mx}{B:Nat}{v:Value}(hm:M_ w2 v m)(hf:F_ V.heap.size v)(hV:Below w.heap.size w V)(hB:w.heap.size≤B)(hlt:B<V.heap.size)(hb:Below V.heap.size V w2)(x y z:Value):
  M_ (((w2.setCell ⟨B,0,none⟩ x).setCell ⟨B,1,none⟩ y).setCell ⟨B,2,none⟩ z) v m∧Below w.heap.size w (((w2.setCell ⟨B,0,none⟩ x).setCell ⟨B,1,none⟩ y).setCell ⟨B,2,none⟩ z)∧F_ w.heap.size v:=
 ⟨hm.set3 hf hlt x y z,S_ (b_ hV hb) hB x y z,f_ hf hV.size⟩
set_option maxHeartbeats 800000 in
theorem forth_linear(l:Ly){xa:Option Addr}{xn xk:Nat}{ya:Option Addr}{yn yk:Nat}(x:Mx)(vx:Value)(w:World)(R Rw Cw:Nat)(gx:Good x R Rw)(gw:Good l.w Rw Cw)(gb:Good l.b 1 Cw)(hc:1≤Cw)(hs:I_ w (.slice xa xn xk) l.w.cells)(ht:I_ w (.slice ya yn yk) l.b.cells)(hx:M_ w vx x):
  Calls Tryz.prog 148 #[.agg #[.int .i64 l.w.rows,.int .i64 l.w.cols,.slice xa xn xk,.int .i64 l.b.rows,.int .i64 l.b.cols,.slice ya yn yk],vx] w (MxErr w (addRows (mulX x l.w) l.b) 0):=by
 obtain ⟨sx,rfl,hsx⟩:=hx
 obtain ⟨za,zn,zk,rfl⟩:=hsx.shape
 obtain ⟨wr,e1⟩:=gN (l.w.rows)
 obtain ⟨wc,e2⟩:=gN (l.w.cols)
 obtain ⟨br,e3⟩:=gN (l.b.rows)
 obtain ⟨bc,e4⟩:=gN (l.b.cols)
 obtain ⟨r,e5⟩:=gN (x.rows)
 obtain ⟨c,e6⟩:=gN (x.cols)
 have HM:=h_ (fun W (h:Below w.heap.size w W)=>mmul_any _ _ x l.w W ⟨_,rfl,hsx.u_ h⟩ ⟨_,rfl,hs.u_ h⟩)
 have gp:=gx.mul gw
 have HE:=h_ (gx.mul0 gw)
 obtain ⟨p,hp⟩:=gN (mulX x l.w)
 rw[hp]at gp HM ⊢
 have HA:=h_ (fun W v (hv:M_ W v p) (h:Below w.heap.size w W)=>addrows_any v _ p l.b Cw W hv ⟨_,rfl,ht.u_ h⟩ gb.c (by omega) (by have:=gb.hC;omega) (by have:=gb.l;omega) (by have:=gp.l;have:=Nat.mul_le_mul gp.hR gp.hC;omega))
 obtain ⟨q,hq⟩:=gN (addRows p l.b)
 rw[hq]at HA ⊢
 rw[e5,e6,e1,e2]at HM
 rw[e3,e4]at HA
 rw[e1,e2,e3,e4,e5,e6]
 obtain ⟨V,hV⟩:=gM ((((w.alloc (.cells #[.int .i64 wr,.int .i64 wc,.slice xa xn xk,.int .i64 br,.int .i64 bc,.slice ya yn yk] 202)).alloc (.cells #[.int .i64 r,.int .i64 c,.slice za zn zk] 28)).alloc (.cells #[.int .i64 0,.int .i64 0,.slice none 0 0] 28)))
 have HV:=h_ hV
 have HBW:Hid (Below w.heap.size w V):=by rw[hV];exact h_ (b_ (b_ (o_ _ _) (o_ _ _)) (o_ _ _))
 have HB:Hid (Box V w.heap.size [.int .i64 wr,.int .i64 wc,.slice xa xn xk,.int .i64 br,.int .i64 bc,.slice ya yn yk]):=by rw[hV];exact h_ (((Box.new w [.int .i64 wr,.int .i64 wc,.slice xa xn xk,.int .i64 br,.int .i64 bc,.slice ya yn yk] 202 rfl).u_ (o_ _ _)).u_ (o_ _ _))
 have HBX:Hid (Box V (w.heap.size+1) [.int .i64 r,.int .i64 c,.slice za zn zk]):=by rw[hV];exact h_ ((Box.new _ [.int .i64 r,.int .i64 c,.slice za zn zk] 28 (by simp)).u_ (o_ _ _))
 have HQ:Hid (ResBox V (w.heap.size+1+1)):=by rw[hV];exact h_ (ResBox.new _ _ (by simp))
 clear hV
 clear hs ht hsx e1 e2 e3 e4 e5 e6 hp hq gx gw gb gp hc
 go_enter Tryz.func148,Tryz.ntmps148
 go_wp2_with fail
 rw[←HV.out]
 refine (HM.out _ HBW.out).mono ?_
 intro e w1 h
 obtain ⟨pa,pn,pk,rfl,hpm,hb1⟩:=h.good HE.out
 have D:=b_ hb1 (o_ w1 (.cells #[.int .i64 p.rows,.int .i64 p.cols,.slice pa pn pk] 28))
 have H1:=HB.out.u_ D
 obtain ⟨d3,d4,d5⟩:=H1.c35
 have HPM:=h_ (hpm.u_ (o_ w1 (.cells #[.int .i64 p.rows,.int .i64 p.cols,.slice pa pn pk] 28)))
 have HD:=h_ D
 clear h hpm hb1 D H1 HM HB
 go_wp2_with fail
 refine (HA.out _ _ HPM.out (b_ HBW.out HD.out)).mono ?_
 rintro e w2 ⟨qa,qn,qk,rfl,hnew,hb2⟩
 have HN:=h_ hnew
 have HB2:=h_ hb2
 have p:=HQ.out.u_ (b_ HD.out hb2)
 have p0:=p.c0
 have p1:=p.c1
 have p2:=p.c2
 have p3:=p.f 0
 have p4:=p.f 1
 have p5:=p.f 2
 have HL:=h_ (World.block_lt_of_cell? V _ HQ.out.c0)
 clear hnew hb2 p HA d3 d4 d5
 go_wp2
 obtain ⟨c1,c2,c3⟩:=newEnd HN.out (b_ HBW.out HD.out) (B:=w.heap.size+1+1) (by omega) (Nat.lt_of_lt_of_le HL.out HD.out.size) HB2.out (.int .i64 q.rows) (.int .i64 q.cols) (.slice qa qn qk)
 exact bodyPost_ret (v:=.tuple #[.agg #[.int .i64 q.rows,.int .i64 q.cols,.slice qa qn qk],.nilIface]) (by simp[results,Tryz.results148,go_sem,p0,p1,p2]) rfl ⟨_,rfl,c1,c2,c3⟩
set_option maxHeartbeats 800000 in
theorem forth_relu(l:Ly){xa:Option Addr}{xn xk:Nat}{ya:Option Addr}{yn yk:Nat}(x:Mx)(vx:Value)(w:World)(R C:Nat)(gx:Good x R C)(hx:M_ w vx x):
  Calls Tryz.prog 166 #[.agg #[.int .i64 l.w.rows,.int .i64 l.w.cols,.slice xa xn xk,.int .i64 l.b.rows,.int .i64 l.b.cols,.slice ya yn yk],vx] w (MxErr w (reluX x) 0):=by
 obtain ⟨sx,rfl,hsx⟩:=hx
 obtain ⟨za,zn,zk,rfl⟩:=hsx.shape
 obtain ⟨wr,e1⟩:=gN (l.w.rows)
 obtain ⟨wc,e2⟩:=gN (l.w.cols)
 obtain ⟨br,e3⟩:=gN (l.b.rows)
 obtain ⟨bc,e4⟩:=gN (l.b.cols)
 obtain ⟨r,e5⟩:=gN (x.rows)
 obtain ⟨c,e6⟩:=gN (x.cols)
 have eg:=enters_of (f:=168) Tryz.func168 (by kernel_rfl) rfl
 have HA:=h_ (fun W (h:Below w.heap.size w W)=>each_new eg (w:=W) (m:=x) ⟨_,rfl,hsx.u_ h⟩ (by have:=gx.l;have:=Nat.mul_le_mul gx.hR gx.hC;omega) (relu_gives x.cells W))
 have hq0:eachX x (fun i=>max ((x.cells[i]?).getD 0) 0)=reluX x:=rfl
 rw[hq0]at HA
 obtain ⟨q,hq⟩:=gN (reluX x)
 rw[hq]at HA ⊢
 rw[e5,e6]at HA
 rw[e1,e2,e3,e4,e5,e6]
 obtain ⟨V,hV⟩:=gM ((((w.alloc (.cells #[.int .i64 wr,.int .i64 wc,.slice xa xn xk,.int .i64 br,.int .i64 bc,.slice ya yn yk] 205)).alloc (.cells #[.int .i64 r,.int .i64 c,.slice za zn zk] 28)).alloc (.cells #[.int .i64 0,.int .i64 0,.slice none 0 0] 28)))
 have HV:=h_ hV
 have HBW:Hid (Below w.heap.size w V):=by rw[hV];exact h_ (b_ (b_ (o_ _ _) (o_ _ _)) (o_ _ _))
 have HB:Hid (Box V w.heap.size [.int .i64 wr,.int .i64 wc,.slice xa xn xk,.int .i64 br,.int .i64 bc,.slice ya yn yk]):=by rw[hV];exact h_ (((Box.new w [.int .i64 wr,.int .i64 wc,.slice xa xn xk,.int .i64 br,.int .i64 bc,.slice ya yn yk] 205 rfl).u_ (o_ _ _)).u_ (o_ _ _))
 have HBX:Hid (Box V (w.heap.size+1) [.int .i64 r,.int .i64 c,.slice za zn zk]):=by rw[hV];exact h_ ((Box.new _ [.int .i64 r,.int .i64 c,.slice za zn zk] 28 (by simp)).u_ (o_ _ _))
 have HQ:Hid (ResBox V (w.heap.size+1+1)):=by rw[hV];exact h_ (ResBox.new _ _ (by simp))
 clear hV
 clear hsx e1 e2 e3 e4 e5 e6 hq gx hq0 eg HB
 go_enter Tryz.func166,Tryz.ntmps166
 go_wp2_with fail
 rw[←HV.out]
 refine (HA.out _ HBW.out).mono ?_
 rintro e w2 ⟨qa,qn,qk,rfl,hnew,hb2⟩
 have HN:=h_ hnew
 have HB2:=h_ hb2
 have p:=HQ.out.u_ hb2
 have p0:=p.c0
 have p1:=p.c1
 have p2:=p.c2
 have p3:=p.f 0
 have p4:=p.f 1
 have p5:=p.f 2
 have HL:=h_ (World.block_lt_of_cell? V _ HQ.out.c0)
 clear hnew hb2 p HA
 go_wp2
 obtain ⟨c1,c2,c3⟩:=newEnd HN.out HBW.out (B:=w.heap.size+1+1) (by omega) HL.out HB2.out (.int .i64 q.rows) (.int .i64 q.cols) (.slice qa qn qk)
 exact bodyPost_ret (v:=.tuple #[.agg #[.int .i64 q.rows,.int .i64 q.cols,.slice qa qn qk],.nilIface]) (by simp[results,Tryz.results166,go_sem,p0,p1,p2]) rfl ⟨_,rfl,c1,c2,c3⟩
set_option maxHeartbeats 800000 in
theorem forth_shift(l:Ly){xa:Option Addr}{xn xk:Nat}{ya:Option Addr}{yn yk:Nat}(x:Mx)(vx:Value)(w:World)(R C:Nat)(gx:Good x R C)(gb:Good l.b 1 C)(hc:1≤C)(ht:I_ w (.slice ya yn yk) l.b.cells)(hx:M_ w vx x):
  Calls Tryz.prog 176 #[.agg #[.int .i64 l.w.rows,.int .i64 l.w.cols,.slice xa xn xk,.int .i64 l.b.rows,.int .i64 l.b.cols,.slice ya yn yk],vx] w (MxErr w (addRows x l.b) 0):=by
 obtain ⟨sx,rfl,hsx⟩:=hx
 obtain ⟨za,zn,zk,rfl⟩:=hsx.shape
 obtain ⟨wr,e1⟩:=gN (l.w.rows)
 obtain ⟨wc,e2⟩:=gN (l.w.cols)
 obtain ⟨br,e3⟩:=gN (l.b.rows)
 obtain ⟨bc,e4⟩:=gN (l.b.cols)
 obtain ⟨r,e5⟩:=gN (x.rows)
 obtain ⟨c,e6⟩:=gN (x.cols)
 have HA:=h_ (fun W (h:Below w.heap.size w W)=>addrows_any _ _ x l.b C W ⟨_,rfl,hsx.u_ h⟩ ⟨_,rfl,ht.u_ h⟩ gb.c (by omega) (by have:=gb.hC;omega) (by have:=gb.l;omega) (by have:=gx.l;have:=Nat.mul_le_mul gx.hR gx.hC;omega))
 obtain ⟨q,hq⟩:=gN (addRows x l.b)
 rw[hq]at HA ⊢
 rw[e5,e6,e3,e4]at HA
 rw[e1,e2,e3,e4,e5,e6]
 obtain ⟨V,hV⟩:=gM ((((w.alloc (.cells #[.int .i64 wr,.int .i64 wc,.slice xa xn xk,.int .i64 br,.int .i64 bc,.slice ya yn yk] 207)).alloc (.cells #[.int .i64 r,.int .i64 c,.slice za zn zk] 28)).alloc (.cells #[.int .i64 0,.int .i64 0,.slice none 0 0] 28)))
 have HV:=h_ hV
 have HBW:Hid (Below w.heap.size w V):=by rw[hV];exact h_ (b_ (b_ (o_ _ _) (o_ _ _)) (o_ _ _))
 have HB:Hid (Box V w.heap.size [.int .i64 wr,.int .i64 wc,.slice xa xn xk,.int .i64 br,.int .i64 bc,.slice ya yn yk]):=by rw[hV];exact h_ (((Box.new w [.int .i64 wr,.int .i64 wc,.slice xa xn xk,.int .i64 br,.int .i64 bc,.slice ya yn yk] 207 rfl).u_ (o_ _ _)).u_ (o_ _ _))
 have HBX:Hid (Box V (w.heap.size+1) [.int .i64 r,.int .i64 c,.slice za zn zk]):=by rw[hV];exact h_ ((Box.new _ [.int .i64 r,.int .i64 c,.slice za zn zk] 28 (by simp)).u_ (o_ _ _))
 have HQ:Hid (ResBox V (w.heap.size+1+1)):=by rw[hV];exact h_ (ResBox.new _ _ (by simp))
 clear hV
 clear ht hsx e1 e2 e3 e4 e5 e6 hq gx gb hc HB
 go_enter Tryz.func176,Tryz.ntmps176
 go_wp2_with fail
 rw[←HV.out]
 refine (HA.out _ HBW.out).mono ?_
 rintro e w2 ⟨qa,qn,qk,rfl,hnew,hb2⟩
 have HN:=h_ hnew
 have HB2:=h_ hb2
 have p:=HQ.out.u_ hb2
 have p0:=p.c0
 have p1:=p.c1
 have p2:=p.c2
 have p3:=p.f 0
 have p4:=p.f 1
 have p5:=p.f 2
 have HL:=h_ (World.block_lt_of_cell? V _ HQ.out.c0)
 clear hnew hb2 p HA
 go_wp2
 obtain ⟨c1,c2,c3⟩:=newEnd HN.out HBW.out (B:=w.heap.size+1+1) (by omega) HL.out HB2.out (.int .i64 q.rows) (.int .i64 q.cols) (.slice qa qn qk)
 exact bodyPost_ret (v:=.tuple #[.agg #[.int .i64 q.rows,.int .i64 q.cols,.slice qa qn qk],.nilIface]) (by simp[results,Tryz.results176,go_sem,p0,p1,p2]) rfl ⟨_,rfl,c1,c2,c3⟩
set_option maxHeartbeats 800000 in
theorem forth_scale(l:Ly){xa:Option Addr}{xn xk:Nat}{ya:Option Addr}{yn yk:Nat}(x:Mx)(vx:Value)(w:World)(R C:Nat)(gx:Good x R C)(gw:Good l.w 1 1)(hs:I_ w (.slice xa xn xk) l.w.cells)(hx:M_ w vx x):
  Calls Tryz.prog 171 #[.agg #[.int .i64 l.w.rows,.int .i64 l.w.cols,.slice xa xn xk,.int .i64 l.b.rows,.int .i64 l.b.cols,.slice ya yn yk],vx] w (MxErr w (timesX x (A_ l.w 0)) 0):=by
 obtain ⟨sx,rfl,hsx⟩:=hx
 obtain ⟨za,zn,zk,rfl⟩:=hsx.shape
 obtain ⟨wr,e1⟩:=gN (l.w.rows)
 obtain ⟨wc,e2⟩:=gN (l.w.cols)
 obtain ⟨br,e3⟩:=gN (l.b.rows)
 obtain ⟨bc,e4⟩:=gN (l.b.cols)
 obtain ⟨r,e5⟩:=gN (x.rows)
 obtain ⟨c,e6⟩:=gN (x.cols)
 obtain ⟨y,hy⟩:=gN (A_ l.w 0)
 have HT:=h_ (fun W (h:Below w.heap.size w W)=>mtimes_any _ x y W ⟨_,rfl,hsx.u_ h⟩)
 have HE:=h_ (show timesE x=0 by unfold timesE;rw[if_neg (by simp[gx.fault])])
 obtain ⟨q,hq⟩:=gN (timesX x y)
 rw[hy,hq]
 rw[hq,HE.out,e5,e6]at HT
 have hw0:l.w.cells[0]?=some y:=by rw[←hy];unfold A_;rw[List.getElem?_eq_getElem (by have:=gw.l;omega)];rfl
 have hwl:=gw.l
 obtain ⟨aa,cap,esv,h2,h3,h4⟩:=hs
 injection esv with q1 q2 q3
 obtain ⟨b,off,rfl,hcl⟩:=h4.resolve_left (fun e=>by rw[e]at hw0;simp at hw0)
 have h0:w.cell? ⟨b,off,none⟩=some (.int .i64 y):=hcl 0 y hw0
 have q2':xn=1:=by omega
 subst q1 q2'
 rw[e1,e2,e3,e4,e5,e6]
 obtain ⟨V,hV⟩:=gM ((((w.alloc (.cells #[.int .i64 wr,.int .i64 wc,.slice (some ⟨b,off,none⟩) 1 xk,.int .i64 br,.int .i64 bc,.slice ya yn yk] 206)).alloc (.cells #[.int .i64 r,.int .i64 c,.slice za zn zk] 28)).alloc (.cells #[.int .i64 0,.int .i64 0,.slice none 0 0] 28)))
 have HV:=h_ hV
 have HBW:Hid (Below w.heap.size w V):=by rw[hV];exact h_ (b_ (b_ (o_ _ _) (o_ _ _)) (o_ _ _))
 have HB:Hid (Box V w.heap.size [.int .i64 wr,.int .i64 wc,.slice (some ⟨b,off,none⟩) 1 xk,.int .i64 br,.int .i64 bc,.slice ya yn yk]):=by rw[hV];exact h_ (((Box.new w [.int .i64 wr,.int .i64 wc,.slice (some ⟨b,off,none⟩) 1 xk,.int .i64 br,.int .i64 bc,.slice ya yn yk] 206 rfl).u_ (o_ _ _)).u_ (o_ _ _))
 have HBX:Hid (Box V (w.heap.size+1) [.int .i64 r,.int .i64 c,.slice za zn zk]):=by rw[hV];exact h_ ((Box.new _ [.int .i64 r,.int .i64 c,.slice za zn zk] 28 (by simp)).u_ (o_ _ _))
 have HQ:Hid (ResBox V (w.heap.size+1+1)):=by rw[hV];exact h_ (ResBox.new _ _ (by simp))
 clear hV
 have g0:=c_ HBW.out h0
 have HBD:=h_ (show Below w.heap.size w V.drew from ⟨HBW.out.os,HBW.out.tape,HBW.out.output,HBW.out.size,HBW.out.block⟩)
 have HBL:=h_ (World.block_lt_of_cell? w _ h0)
 clear hsx e1 e2 e3 e4 e5 e6 hq hy gx gw hw0 hwl h2 h3 h4 hcl h0 q2 q3
 obtain ⟨d0,d1,d2⟩:=HB.out.c3
 obtain ⟨x0,x1,x2⟩:=HBX.out.c3
 go_enter Tryz.func171,Tryz.ntmps171
 go_wp2
 rw[←HV.out]
 have hne:¬b=w.heap.size+1+1:=by have:=HBL.out;omega
 go_region_held3 (fun W'=>W'.cell? ⟨w.heap.size+1,0,none⟩=some (.int .i64 r)∧W'.cell? ⟨w.heap.size+1,1,none⟩=some (.int .i64 c)∧W'.cell? ⟨w.heap.size+1,2,none⟩=some (.slice za zn zk)∧W'.cell? ⟨w.heap.size,2,none⟩=some (.slice (some ⟨b,off,none⟩) 1 xk)∧W'.cell? ⟨b,off,none⟩=some (.int .i64 y)) ((first|go_keep|(refine ⟨?_,?_,?_,?_,?_⟩<;>first|assumption|go_keep)))
  (first
   |(go_at_call 172;refine (HT.out _ HBD.out).mono ?_;rintro e w2 ⟨v',rfl,hm,hb2,hf⟩;obtain ⟨s',rfl,hs'⟩:=hm;obtain ⟨qa,qn,qk,rfl⟩:=hs'.shape;rw[e_ rfl];have HN:=h_ (show M_ w2 (.agg #[.int .i64 q.rows,.int .i64 q.cols,.slice qa qn qk]) q from ⟨_,rfl,hs'⟩);have HF:=h_ (show F_ V.heap.size (.agg #[.int .i64 q.rows,.int .i64 q.cols,.slice qa qn qk]) from hf);have HB2:=h_ (show Below V.heap.size V w2 from (show Below V.heap.size V V.drew from ⟨rfl,rfl,rfl,Nat.le_refl _,fun _ _=>rfl⟩).trans hb2);have p0:=(HQ.out.u_ HB2.out).c0;have p1:=(HQ.out.u_ HB2.out).c1;have p2:=(HQ.out.u_ HB2.out).c2;have p3:=(HQ.out.u_ HB2.out).f 0;have p4:=(HQ.out.u_ HB2.out).f 1;have p5:=(HQ.out.u_ HB2.out).f 2;have i0:=c_ HB2.out x0;have i1:=c_ HB2.out x1;have i2:=c_ HB2.out x2;have i3:=c_ HB2.out d2;have i4:=c_ HB2.out g0;have j3:=s_ i3 (B:=w.heap.size+1+1) (show ¬w.heap.size=w.heap.size+1+1 by omega) (.int .i64 q.rows) (.int .i64 q.cols) (.slice qa qn qk);have j4:=s_ i4 (B:=w.heap.size+1+1) hne (.int .i64 q.rows) (.int .i64 q.cols) (.slice qa qn qk);clear hb2 hs' hf))
 have HL:=h_ (World.block_lt_of_cell? V _ HQ.out.c0)
 go_wp2
 obtain ⟨c1,c2,c3⟩:=errEnd HN.out HF.out HBW.out (B:=w.heap.size+1+1) (by omega) HL.out HB2.out (.int .i64 q.rows) (.int .i64 q.cols) (.slice qa qn qk)
 exact bodyPost_ret (v:=.tuple #[.agg #[.int .i64 q.rows,.int .i64 q.cols,.slice qa qn qk],.nilIface]) (by simp[results,Tryz.results171,go_sem,p0,p1,p2]) rfl ⟨_,rfl,c1,c2,c3⟩
def Above (n:Nat) (w w':World):Prop:=∀(p:Addr) x,n≤p.block→w.cell? p=some x→w'.cell? p=some x
theorem Above.refl(n:Nat)(w:World):Above n w w:=fun _ _ _ h=>h
theorem Above.set{n:Nat}{w u:World}(h:Above n w u){B:Nat}(hB:B<n)(q:Nat)(x:Value):Above n w (u.setCell ⟨B,q,none⟩ x):=fun p y hp hy=>cell_other (h p y hp hy) (by omega) q x
theorem I_.above{n:Nat}{w u:World}{s r c:Value}{zs:List Int}(h:I_ w s zs)(hf:F_ n (.agg #[r,c,s]))(ha:Above n w u):I_ u s zs:=by
 obtain ⟨a,cap,rfl,h2,h3,h4⟩:=h
 refine ⟨a,cap,rfl,h2,h3,?_⟩
 rcases h4 with h0|⟨b',off,rfl,hc⟩
 ·exact .inl h0
 ·rcases hf _ _ _ _ _ rfl with hz|hz
  ·exact .inl (List.eq_nil_of_length_eq_zero hz)
  ·exact .inr ⟨b',off,rfl,fun i x hx=>ha _ _ hz (hc i x hx)⟩
theorem M_.above{n:Nat}{w u:World}{v:Value}{m:Mx}(h:M_ w v m)(hf:F_ n v)(ha:Above n w u):M_ u v m:=by
 obtain ⟨s,rfl,hs⟩:=h;exact ⟨s,rfl,hs.above hf ha⟩
theorem fresh2_of{B:Nat}{r c s r' c' t:Value}(h1:F_ B (.agg #[r,c,s]))(h2:F_ B (.agg #[r',c',t])):Fresh2 B (.agg #[r,c,s,r',c',t]):=by
 intro a b x n k a' b' x' n' k' e
 simp at e
 obtain ⟨rfl,rfl,rfl,rfl,rfl,rfl⟩:=e
 exact ⟨h1,h2⟩
theorem two_of{w:World}{a b:Mx}{s t:Value}(hs:I_ w s a.cells)(ht:I_ w t b.cells):IsTwo w (.agg #[.int .i64 a.rows,.int .i64 a.cols,s,.int .i64 b.rows,.int .i64 b.cols,t]) a b:=⟨s,t,rfl,hs,ht⟩
theorem above3{n B:Nat}(hB:B<n)(u:World)(x0 x1 x2:Value):Above n u (((u.setCell ⟨B,0,none⟩ x0).setCell ⟨B,1,none⟩ x1).setCell ⟨B,2,none⟩ x2):=(((Above.refl n u).set hB 0 x0).set hB 1 x1).set hB 2 x2
theorem above6{n B:Nat}(hB:B<n){u0 u:World}(h:Above n u0 u)(y0 y1 y2 y3 y4 y5:Value):Above n u0 ((((((u.setCell ⟨B,0,none⟩ y0).setCell ⟨B,1,none⟩ y1).setCell ⟨B,2,none⟩ y2).setCell ⟨B,3,none⟩ y3).setCell ⟨B,4,none⟩ y4).setCell ⟨B,5,none⟩ y5):=(((((h.set hB 0 y0).set hB 1 y1).set hB 2 y2).set hB 3 y3).set hB 4 y4).set hB 5 y5
theorem below6{V u:World}{B:Nat}(h:Below V.heap.size V u)(hB:V.heap.size≤B)(y0 y1 y2 y3 y4 y5:Value):Below V.heap.size V ((((((u.setCell ⟨B,0,none⟩ y0).setCell ⟨B,1,none⟩ y1).setCell ⟨B,2,none⟩ y2).setCell ⟨B,3,none⟩ y3).setCell ⟨B,4,none⟩ y4).setCell ⟨B,5,none⟩ y5):=(((((h.setCell hB _).setCell hB _).setCell hB _).setCell hB _).setCell hB _).setCell hB _
theorem isTwo_no(w:World):IsTwo w (.agg #[.int .i64 0,.int .i64 0,.slice none 0 0,.int .i64 0,.int .i64 0,.slice none 0 0]) noMx noMx:=⟨_,_,rfl,I_.nil w,I_.nil w⟩
theorem fresh2_no(B:Nat)(r c r' c':Value):Fresh2 B (.agg #[r,c,.slice none 0 0,r',c',.slice none 0 0]):=fresh2_of (y_ _ _ _) (y_ _ _ _)
theorem MxErr.fresh_any{w:World}{m:Mx}{j:Int}{e:Ending}{w':World}(h:MxErr w m j e w'):∀v x,e=.returned (.tuple #[v,x])→F_ w.heap.size v:=by
 intro v x he
 rw[he]at h
 exact h.fresh
set_option maxHeartbeats 800000 in
theorem multurned_any(va vb:Value)(a b:Mx)(w:World)(Ra Rb Cb:Nat)(ga0:Good a Ra Cb)(gb0:Good b Rb Cb)(hR:Rb≤12)(h0:M_ w va a)(h1:M_ w vb b):
  Calls Tryz.prog 151 #[va,vb] w (MxErr w (mulX a (turnX b)) 0):=by
 obtain ⟨s0,rfl,hs0⟩:=h0
 obtain ⟨s1,rfl,hs1⟩:=h1
 obtain ⟨za,zn,zk,rfl⟩:=hs0.shape
 obtain ⟨ga,gn,gk,rfl⟩:=hs1.shape
 obtain ⟨r,e1⟩:=gN (a.rows)
 obtain ⟨c,e2⟩:=gN (a.cols)
 obtain ⟨r',e3⟩:=gN (b.rows)
 obtain ⟨c',e4⟩:=gN (b.cols)
 have HT:=h_ (fun W (h:Below w.heap.size w W)=>mturn_any _ b W ⟨_,rfl,hs1.u_ h⟩)
 have HE:=h_ (gb0.turn0 hR)
 have gt:=gb0.turn hR
 obtain ⟨t,ht⟩:=gN (turnX b)
 rw[ht]at HT gt ⊢
 have HM:=h_ (fun W v (hv:M_ W v t) (h:Below w.heap.size w W)=>mmul_any _ v a t W ⟨_,rfl,hs0.u_ h⟩ hv)
 have HE2:=h_ (ga0.mul0 gt)
 obtain ⟨p,hp⟩:=gN (mulX a t)
 rw[hp]at HM ⊢
 rw[e3,e4]at HT
 rw[e1,e2]at HM
 rw[e1,e2,e3,e4]
 obtain ⟨V,hV⟩:=gM ((((w.alloc (.cells #[.int .i64 r,.int .i64 c,.slice za zn zk] 28)).alloc (.cells #[.int .i64 r',.int .i64 c',.slice ga gn gk] 28)).alloc (.cells #[.int .i64 0,.int .i64 0,.slice none 0 0] 28)))
 have HV:=h_ hV
 have HBW:Hid (Below w.heap.size w V):=by rw[hV];exact h_ (b_ (b_ (o_ _ _) (o_ _ _)) (o_ _ _))
 have HBA:Hid (Box V w.heap.size [.int .i64 r,.int .i64 c,.slice za zn zk]):=by rw[hV];exact h_ (((Box.new w [.int .i64 r,.int .i64 c,.slice za zn zk] 28 rfl).u_ (o_ _ _)).u_ (o_ _ _))
 have HBB:Hid (Box V (w.heap.size+1) [.int .i64 r',.int .i64 c',.slice ga gn gk]):=by rw[hV];exact h_ ((Box.new _ [.int .i64 r',.int .i64 c',.slice ga gn gk] 28 (by simp)).u_ (o_ _ _))
 have HQ:Hid (Box V (w.heap.size+1+1) [.int .i64 0,.int .i64 0,.slice none 0 0]):=by rw[hV];exact h_ (Box.new _ [.int .i64 0,.int .i64 0,.slice none 0 0] 28 (by simp))
 have HFR:Hid (Free V (w.heap.size+1+1)):=by rw[hV];exact h_ (Free.new _ _ 28 (by simp))
 have HL:=h_ HQ.out.lt
 clear hV
 clear hs0 hs1 e1 e2 e3 e4 ht hp gt ga0 gb0
 go_enter Tryz.func151,Tryz.ntmps151
 go_wp2_with fail
 rw[←HV.out]
 refine (HT.out _ HBW.out).mono ?_
 intro e w1 h
 obtain ⟨ta,tn,tk,rfl,htm,hb1⟩:=h.good HE.out
 have HD:=h_ (b_ hb1 (o_ w1 (.cells #[.int .i64 t.rows,.int .i64 t.cols,.slice ta tn tk] 28)))
 have HTM:=h_ (htm.u_ (o_ w1 (.cells #[.int .i64 t.rows,.int .i64 t.cols,.slice ta tn tk] 28)))
 clear h htm hb1 HT
 obtain ⟨d0,d1,d2⟩:=(HBA.out.u_ HD.out).c3
 go_wp2_with fail
 refine (HM.out _ _ HTM.out (b_ HBW.out HD.out)).mono ?_
 intro e w2 h
 have HF:=h_ h.fresh_any
 obtain ⟨qa,qn,qk,rfl,hqm,hb2⟩:=h.good HE2.out
 have HN:=h_ hqm
 have HB2:=h_ (b_ HD.out hb2)
 have HFV:=h_ (f_ (HF.out _ _ rfl) HD.out.size)
 clear h hqm hb2 HM HF d0 d1 d2
 obtain ⟨p0,p1,p2⟩:=(HQ.out.u_ HB2.out).c3
 obtain ⟨f0,f1,f2⟩:=(HFR.out.u_ HB2.out HL.out).f3
 go_wp2
 obtain ⟨c1,c2,c3⟩:=errEnd HN.out HFV.out HBW.out (B:=w.heap.size+1+1) (by omega) HL.out HB2.out (.int .i64 p.rows) (.int .i64 p.cols) (.slice qa qn qk)
 exact bodyPost_ret (v:=.tuple #[.agg #[.int .i64 p.rows,.int .i64 p.cols,.slice qa qn qk],.nilIface]) (by simp[results,Tryz.results151,go_sem,p0,p1,p2]) rfl ⟨_,rfl,c1,c2,c3⟩
def GradErr (w:World) (a b:Mx) (k:Int) (e:Ending) (w':World):Prop:=∃d,e=.returned (.tuple #[d,errV k])∧IsTwo w' d a b∧Below w.heap.size w w'∧Fresh2 w.heap.size d
set_option maxHeartbeats 1600000 in
theorem grad_far(va vb:Value)(a b:Mx)(w:World)(R C:Nat)(ga0:Good a R C)(hR:12<R)(h0:M_ w va a)(h1:M_ w vb b):
  Calls Tryz.prog 152 #[va,vb] w (GradErr w noMx noMx 1):=by
 obtain ⟨s0,rfl,hs0⟩:=h0
 obtain ⟨s1,rfl,hs1⟩:=h1
 obtain ⟨za,zn,zk,rfl⟩:=hs0.shape
 obtain ⟨ga,gn,gk,rfl⟩:=hs1.shape
 obtain ⟨r,e1⟩:=gN (a.rows)
 obtain ⟨c,e2⟩:=gN (a.cols)
 obtain ⟨r',e3⟩:=gN (b.rows)
 obtain ⟨c',e4⟩:=gN (b.cols)
 have HT:=h_ (fun W (h:Below w.heap.size w W)=>mturn_any _ a W ⟨_,rfl,hs0.u_ h⟩)
 have h1:=ga0.turn1 hR
 rw[h1,turnX_no (by rw[h1];decide),e1,e2]at HT
 rw[e1,e2,e3,e4]
 obtain ⟨V,hV⟩:=gM ((((w.alloc (.cells #[.int .i64 r,.int .i64 c,.slice za zn zk] 28)).alloc (.cells #[.int .i64 r',.int .i64 c',.slice ga gn gk] 28)).alloc (.cells #[.int .i64 0,.int .i64 0,.slice none 0 0,.int .i64 0,.int .i64 0,.slice none 0 0] 109)))
 have HV:=h_ hV
 have HBW:Hid (Below w.heap.size w V):=by rw[hV];exact h_ (b_ (b_ (o_ _ _) (o_ _ _)) (o_ _ _))
 have HBA:Hid (Box V w.heap.size [.int .i64 r,.int .i64 c,.slice za zn zk]):=by rw[hV];exact h_ (((Box.new w [.int .i64 r,.int .i64 c,.slice za zn zk] 28 rfl).u_ (o_ _ _)).u_ (o_ _ _))
 have HBB:Hid (Box V (w.heap.size+1) [.int .i64 r',.int .i64 c',.slice ga gn gk]):=by rw[hV];exact h_ ((Box.new _ [.int .i64 r',.int .i64 c',.slice ga gn gk] 28 (by simp)).u_ (o_ _ _))
 have HQ:Hid (Box V (w.heap.size+1+1) [.int .i64 0,.int .i64 0,.slice none 0 0,.int .i64 0,.int .i64 0,.slice none 0 0]):=by rw[hV];exact h_ (Box.new _ [.int .i64 0,.int .i64 0,.slice none 0 0,.int .i64 0,.int .i64 0,.slice none 0 0] 109 (by simp))
 have HFR:Hid (Free V (w.heap.size+1+1)):=by rw[hV];exact h_ (Free.new _ _ 109 (by simp))
 have HL:=h_ HQ.out.lt
 clear hV
 clear hs0 hs1 e1 e2 e3 e4 ga0 h1 HBA HBB
 go_enter Tryz.func152,Tryz.ntmps152
 go_wp2_with fail
 rw[←HV.out]
 refine (HT.out _ HBW.out).mono ?_
 intro e w1 h
 obtain ⟨ta,tn,tk,rfl,htm,hb1⟩:=h.bad (by decide) rfl
 have HD:=h_ (b_ hb1 (o_ w1 (.cells #[.int .i64 0,.int .i64 0,.slice ta tn tk] 28)))
 clear h htm hb1 HT
 obtain ⟨p0,p1,p2,p3,p4,p5⟩:=(HQ.out.u_ HD.out).c6
 obtain ⟨f0,f1,f2,f3,f4,f5⟩:=(HFR.out.u_ HD.out HL.out).f6
 go_wp2
 exact bodyPost_ret (v:=.tuple #[.agg #[.int .i64 0,.int .i64 0,.slice none 0 0,.int .i64 0,.int .i64 0,.slice none 0 0],.iface 94 (.int .i64 1)]) (by simp[results,Tryz.results152,go_sem,p0,p1,p2,p3,p4,p5]) rfl ⟨_,rfl,isTwo_no _,below6 (b_ HBW.out HD.out) (B:=w.heap.size+1+1) (by omega) _ _ _ _ _ _,fresh2_no _ _ _ _ _⟩
set_option maxHeartbeats 1600000 in
theorem grad_any(va vb:Value)(a b:Mx)(w:World)(R C Cb:Nat)(ga0:Good a R C)(gb0:Good b R Cb)(hR:R≤12)(h0:M_ w va a)(h1:M_ w vb b):
  Calls Tryz.prog 152 #[va,vb] w (GradErr w (mulX (turnX a) b) (sumsX b) 0):=by
 obtain ⟨s0,rfl,hs0⟩:=h0
 obtain ⟨s1,rfl,hs1⟩:=h1
 obtain ⟨za,zn,zk,rfl⟩:=hs0.shape
 obtain ⟨ga,gn,gk,rfl⟩:=hs1.shape
 obtain ⟨r,e1⟩:=gN (a.rows)
 obtain ⟨c,e2⟩:=gN (a.cols)
 obtain ⟨r',e3⟩:=gN (b.rows)
 obtain ⟨c',e4⟩:=gN (b.cols)
 have HT:=h_ (fun W (h:Below w.heap.size w W)=>mturn_any _ a W ⟨_,rfl,hs0.u_ h⟩)
 have HE:=h_ (ga0.turn0 hR)
 have gt:=ga0.turn hR
 obtain ⟨t,ht⟩:=gN (turnX a)
 rw[ht]at HT gt ⊢
 have HM:=h_ (fun W v (hv:M_ W v t) (h:Below w.heap.size w W)=>mmul_any v _ t b W hv ⟨_,rfl,hs1.u_ h⟩)
 have HE2:=h_ (gt.mul0 gb0)
 obtain ⟨p,hp⟩:=gN (mulX t b)
 rw[hp]at HM ⊢
 have HS:=h_ (fun W (h:Below w.heap.size w W)=>msums_any _ b W ⟨_,rfl,hs1.u_ h⟩)
 have HE3:=h_ (show timesE b=0 by unfold timesE;rw[if_neg (by simp[gb0.fault])])
 obtain ⟨q,hq⟩:=gN (sumsX b)
 rw[hq]at HS ⊢
 rw[e1,e2]at HT
 rw[e3,e4]at HM HS
 rw[e1,e2,e3,e4]
 obtain ⟨V,hV⟩:=gM ((((w.alloc (.cells #[.int .i64 r,.int .i64 c,.slice za zn zk] 28)).alloc (.cells #[.int .i64 r',.int .i64 c',.slice ga gn gk] 28)).alloc (.cells #[.int .i64 0,.int .i64 0,.slice none 0 0,.int .i64 0,.int .i64 0,.slice none 0 0] 109)))
 have HV:=h_ hV
 have HBW:Hid (Below w.heap.size w V):=by rw[hV];exact h_ (b_ (b_ (o_ _ _) (o_ _ _)) (o_ _ _))
 have HBA:Hid (Box V w.heap.size [.int .i64 r,.int .i64 c,.slice za zn zk]):=by rw[hV];exact h_ (((Box.new w [.int .i64 r,.int .i64 c,.slice za zn zk] 28 rfl).u_ (o_ _ _)).u_ (o_ _ _))
 have HBB:Hid (Box V (w.heap.size+1) [.int .i64 r',.int .i64 c',.slice ga gn gk]):=by rw[hV];exact h_ ((Box.new _ [.int .i64 r',.int .i64 c',.slice ga gn gk] 28 (by simp)).u_ (o_ _ _))
 have HQ:Hid (Box V (w.heap.size+1+1) [.int .i64 0,.int .i64 0,.slice none 0 0,.int .i64 0,.int .i64 0,.slice none 0 0]):=by rw[hV];exact h_ (Box.new _ [.int .i64 0,.int .i64 0,.slice none 0 0,.int .i64 0,.int .i64 0,.slice none 0 0] 109 (by simp))
 have HFR:Hid (Free V (w.heap.size+1+1)):=by rw[hV];exact h_ (Free.new _ _ 109 (by simp))
 have HL:=h_ HQ.out.lt
 clear hV
 clear hs0 hs1 e1 e2 e3 e4 ht hp hq gt ga0 gb0 HBA
 go_enter Tryz.func152,Tryz.ntmps152
 go_wp2_with fail
 rw[←HV.out]
 refine (HT.out _ HBW.out).mono ?_
 intro e w1 h
 obtain ⟨ta,tn,tk,rfl,htm,hb1⟩:=h.good HE.out
 have HD:=h_ (b_ hb1 (o_ w1 (.cells #[.int .i64 t.rows,.int .i64 t.cols,.slice ta tn tk] 28)))
 have HTM:=h_ (htm.u_ (o_ w1 (.cells #[.int .i64 t.rows,.int .i64 t.cols,.slice ta tn tk] 28)))
 clear h htm hb1 HT
 obtain ⟨d0,d1,d2⟩:=(HBB.out.u_ HD.out).c3
 go_wp2_with fail
 refine (HM.out _ _ HTM.out (b_ HBW.out HD.out)).mono ?_
 intro e w2 h
 have HF:=h_ h.fresh_any
 obtain ⟨pa,pn,pk,rfl,hpm,hb2⟩:=h.good HE2.out
 have HPF:=h_ (f_ (HF.out _ _ rfl) HD.out.size)
 have HD2:=h_ (b_ (b_ HD.out hb2) (o_ w2 (.cells #[.int .i64 p.rows,.int .i64 p.cols,.slice pa pn pk] 28)))
 have HPM:=h_ (hpm.u_ (o_ w2 (.cells #[.int .i64 p.rows,.int .i64 p.cols,.slice pa pn pk] 28)))
 have HPB:=h_ (Box.new w2 [.int .i64 p.rows,.int .i64 p.cols,.slice pa pn pk] 28 rfl)
 clear h hpm hb2 HM HF d0 d1 d2 HTM
 obtain ⟨d0,d1,d2⟩:=(HBB.out.u_ HD2.out).c3
 go_wp2_with fail
 refine (HS.out _ (b_ HBW.out HD2.out)).mono ?_
 intro e w3 h
 have HF:=h_ h.fresh_any
 obtain ⟨qa,qn,qk,rfl,hqm,hb3⟩:=h.good HE3.out
 have HQF:=h_ (f_ (HF.out _ _ rfl) HD2.out.size)
 have D3:=b_ hb3 (o_ w3 (.cells #[.int .i64 q.rows,.int .i64 q.cols,.slice qa qn qk] 28))
 have HD3:=h_ (b_ HD2.out D3)
 have HQM:=h_ (hqm.u_ (o_ w3 (.cells #[.int .i64 q.rows,.int .i64 q.cols,.slice qa qn qk] 28)))
 have HPM3:=h_ (HPM.out.u_ D3)
 have HPB3:=h_ (HPB.out.u_ D3)
 clear h hqm hb3 HS HF d0 d1 d2 D3 HPM HPB
 obtain ⟨d0,d1,d2⟩:=HPB3.out.c3
 obtain ⟨p0,p1,p2,p3,p4,p5⟩:=(HQ.out.u_ HD3.out).c6
 obtain ⟨f0,f1,f2,f3,f4,f5⟩:=(HFR.out.u_ HD3.out HL.out).f6
 go_wp2
 have HA:=above6 (B:=w.heap.size+1+1) HL.out (Above.refl _ (w3.alloc (.cells #[.int .i64 q.rows,.int .i64 q.cols,.slice qa qn qk] 28))) (.int .i64 p.rows) (.int .i64 p.cols) (.slice pa pn pk) (.int .i64 q.rows) (.int .i64 q.cols) (.slice qa qn qk)
 exact bodyPost_ret (v:=.tuple #[.agg #[.int .i64 p.rows,.int .i64 p.cols,.slice pa pn pk,.int .i64 q.rows,.int .i64 q.cols,.slice qa qn qk],.nilIface]) (by simp[results,Tryz.results152,go_sem,p0,p1,p2,p3,p4,p5]) rfl
  ⟨_,rfl,two_of (HPM3.out.ints.above HPF.out HA) (HQM.out.ints.above HQF.out HA),below6 (b_ HBW.out HD3.out) (B:=w.heap.size+1+1) (by omega) _ _ _ _ _ _,fresh2_of (f_ HPF.out HBW.out.size) (f_ HQF.out HBW.out.size)⟩
end Go.Proofs.YtniloklglpchfakGreat
