/- What forth of the kinds of package layer comes to: what a layer that fits gives of a matrix that goes with it. -/
import Derived.Test.YtniloklglpchfafLNamed
import Derived.Test.YtniloklglpchfafPkMLaw
namespace Go.Proofs.Ytniloklglpchfaf
open Go.RowKit
theorem newEnd{w V w2:World}{m:Mx}{B:Nat}{s:Value}(hnew:NewInts V.heap.size w2 s m.cells)(hV:Below w.heap.size w V)(hB:w.heap.size≤B)(hlt:B<V.heap.size)(hb:Below V.heap.size V w2)(x y z:Value):
  M_ (((w2.setCell ⟨B,0,none⟩ x).setCell ⟨B,1,none⟩ y).setCell ⟨B,2,none⟩ z) (.agg #[.int .i64 m.rows,.int .i64 m.cols,s]) m∧Below w.heap.size w (((w2.setCell ⟨B,0,none⟩ x).setCell ⟨B,1,none⟩ y).setCell ⟨B,2,none⟩ z)∧F_ w.heap.size (.agg #[.int .i64 m.rows,.int .i64 m.cols,s]):=
 ⟨⟨_,rfl,(((hnew.set hlt 0 x).set hlt 1 y).set hlt 2 z).isInts⟩,S_ (b_ hV hb) hB x y z,hnew.fresh hV.size _ _⟩
theorem s_{w:World}{p:Addr}{u:Value}{B:Nat}(h:w.cell? p=some u)(hne:¬p.block=B)(x y z:Value):(((w.setCell ⟨B,0,none⟩ x).setCell ⟨B,1,none⟩ y).setCell ⟨B,2,none⟩ z).cell? p=some u:=cell_other (cell_other (cell_other h hne 0 x) hne 1 y) hne 2 z
theorem errEnd{w V w2:World}{m:Mx}{B:Nat}{v:Value}(hm:M_ w2 v m)(hf:F_ V.heap.size v)(hV:Below w.heap.size w V)(hB:w.heap.size≤B)(hlt:B<V.heap.size)(hb:Below V.heap.size V w2)(x y z:Value):
  M_ (((w2.setCell ⟨B,0,none⟩ x).setCell ⟨B,1,none⟩ y).setCell ⟨B,2,none⟩ z) v m∧Below w.heap.size w (((w2.setCell ⟨B,0,none⟩ x).setCell ⟨B,1,none⟩ y).setCell ⟨B,2,none⟩ z)∧F_ w.heap.size v:=
 ⟨hm.set3 hf hlt x y z,S_ (b_ hV hb) hB x y z,f_ hf hV.size⟩
set_option maxHeartbeats 800000 in
theorem forth_linear(l:Ly){xa:Option Addr}{xn xk:Nat}{ya:Option Addr}{yn yk:Nat}(x:Mx)(vx:Value)(w:World)(R Rw Cw:Nat)(gx:Good x R Rw)(gw:Good l.w Rw Cw)(gb:Good l.b 1 Cw)(hc:1≤Cw)(hs:I_ w (.slice xa xn xk) l.w.cells)(ht:I_ w (.slice ya yn yk) l.b.cells)(hx:M_ w vx x):
  Calls Try.prog 100 #[.agg #[.int .i64 l.w.rows,.int .i64 l.w.cols,.slice xa xn xk,.int .i64 l.b.rows,.int .i64 l.b.cols,.slice ya yn yk],vx] w (MxErr w (addRows (mulX x l.w) l.b) 0):=by
 obtain ⟨sx,rfl,hsx⟩:=hx
 obtain ⟨za,zn,zk,rfl⟩:=hsx.shape
 obtain ⟨wr,e1⟩:=gN (l.w.rows)
 obtain ⟨wc,e2⟩:=gN (l.w.cols)
 obtain ⟨br,e3⟩:=gN (l.b.rows)
 obtain ⟨bc,e4⟩:=gN (l.b.cols)
 obtain ⟨r,e5⟩:=gN (x.rows)
 obtain ⟨c,e6⟩:=gN (x.cols)
 have HM:=h_ (fun W (h:Below w.heap.size w W)=>mmul_any _ _ x l.w W ⟨_,rfl,hsx.u_ h⟩ ⟨_,rfl,hs.u_ h⟩)
 have gp:=gx.mul gw
 have HE:=h_ (gx.mul0 gw)
 obtain ⟨p,hp⟩:=gN (mulX x l.w)
 rw[hp]at gp HM ⊢
 have HA:=h_ (fun W v (hv:M_ W v p) (h:Below w.heap.size w W)=>addrows_any v _ p l.b Cw W hv ⟨_,rfl,ht.u_ h⟩ gb.c (by omega) (by have:=gb.hC;omega) (by have:=gb.l;omega) (by have:=gp.l;have:=Nat.mul_le_mul gp.hR gp.hC;omega))
 obtain ⟨q,hq⟩:=gN (addRows p l.b)
 rw[hq]at HA ⊢
 rw[e5,e6,e1,e2]at HM
 rw[e3,e4]at HA
 rw[e1,e2,e3,e4,e5,e6]
 obtain ⟨V,hV⟩:=gM ((((w.alloc (.cells #[.int .i64 wr,.int .i64 wc,.slice xa xn xk,.int .i64 br,.int .i64 bc,.slice ya yn yk] 136)).alloc (.cells #[.int .i64 r,.int .i64 c,.slice za zn zk] 28)).alloc (.cells #[.int .i64 0,.int .i64 0,.slice none 0 0] 28)))
 have HV:=h_ hV
 have HBW:Hid (Below w.heap.size w V):=by rw[hV];exact h_ (b_ (b_ (o_ _ _) (o_ _ _)) (o_ _ _))
 have HB:Hid (Box V w.heap.size [.int .i64 wr,.int .i64 wc,.slice xa xn xk,.int .i64 br,.int .i64 bc,.slice ya yn yk]):=by rw[hV];exact h_ (((Box.new w [.int .i64 wr,.int .i64 wc,.slice xa xn xk,.int .i64 br,.int .i64 bc,.slice ya yn yk] 136 rfl).u_ (o_ _ _)).u_ (o_ _ _))
 have HBX:Hid (Box V (w.heap.size+1) [.int .i64 r,.int .i64 c,.slice za zn zk]):=by rw[hV];exact h_ ((Box.new _ [.int .i64 r,.int .i64 c,.slice za zn zk] 28 (by simp)).u_ (o_ _ _))
 have HQ:Hid (ResBox V (w.heap.size+1+1)):=by rw[hV];exact h_ (ResBox.new _ _ (by simp))
 clear hV
 clear hs ht hsx e1 e2 e3 e4 e5 e6 hp hq gx gw gb gp hc
 go_enter Try.func100,Try.ntmps100
 go_wp2_with fail
 rw[←HV.out]
 refine (HM.out _ HBW.out).mono ?_
 intro e w1 h
 obtain ⟨pa,pn,pk,rfl,hpm,hb1⟩:=h.good HE.out
 have D:=b_ hb1 (o_ w1 (.cells #[.int .i64 p.rows,.int .i64 p.cols,.slice pa pn pk] 28))
 have H1:=HB.out.u_ D
 obtain ⟨d3,d4,d5⟩:=H1.c35
 have HPM:=h_ (hpm.u_ (o_ w1 (.cells #[.int .i64 p.rows,.int .i64 p.cols,.slice pa pn pk] 28)))
 have HD:=h_ D
 clear h hpm hb1 D H1 HM HB
 go_wp2_with fail
 refine (HA.out _ _ HPM.out (b_ HBW.out HD.out)).mono ?_
 rintro e w2 ⟨qa,qn,qk,rfl,hnew,hb2⟩
 have HN:=h_ hnew
 have HB2:=h_ hb2
 have p:=HQ.out.u_ (b_ HD.out hb2)
 have p0:=p.c0
 have p1:=p.c1
 have p2:=p.c2
 have p3:=p.f 0
 have p4:=p.f 1
 have p5:=p.f 2
 have HL:=h_ (World.block_lt_of_cell? V _ HQ.out.c0)
 clear hnew hb2 p HA d3 d4 d5
 go_wp2
 obtain ⟨c1,c2,c3⟩:=newEnd HN.out (b_ HBW.out HD.out) (B:=w.heap.size+1+1) (by omega) (Nat.lt_of_lt_of_le HL.out HD.out.size) HB2.out (.int .i64 q.rows) (.int .i64 q.cols) (.slice qa qn qk)
 exact bodyPost_ret (v:=.tuple #[.agg #[.int .i64 q.rows,.int .i64 q.cols,.slice qa qn qk],.nilIface]) (by simp[results,Try.results100,go_sem,p0,p1,p2]) rfl ⟨_,rfl,c1,c2,c3⟩
set_option maxHeartbeats 800000 in
theorem forth_relu(l:Ly){xa:Option Addr}{xn xk:Nat}{ya:Option Addr}{yn yk:Nat}(x:Mx)(vx:Value)(w:World)(R C:Nat)(gx:Good x R C)(hx:M_ w vx x):
  Calls Try.prog 118 #[.agg #[.int .i64 l.w.rows,.int .i64 l.w.cols,.slice xa xn xk,.int .i64 l.b.rows,.int .i64 l.b.cols,.slice ya yn yk],vx] w (MxErr w (reluX x) 0):=by
 obtain ⟨sx,rfl,hsx⟩:=hx
 obtain ⟨za,zn,zk,rfl⟩:=hsx.shape
 obtain ⟨wr,e1⟩:=gN (l.w.rows)
 obtain ⟨wc,e2⟩:=gN (l.w.cols)
 obtain ⟨br,e3⟩:=gN (l.b.rows)
 obtain ⟨bc,e4⟩:=gN (l.b.cols)
 obtain ⟨r,e5⟩:=gN (x.rows)
 obtain ⟨c,e6⟩:=gN (x.cols)
 have eg:=enters_of (f:=120) Try.func120 (by kernel_rfl) rfl
 have HA:=h_ (fun W (h:Below w.heap.size w W)=>each_new eg (w:=W) (m:=x) ⟨_,rfl,hsx.u_ h⟩ (by have:=gx.l;have:=Nat.mul_le_mul gx.hR gx.hC;omega) (relu_gives x.cells W))
 have hq0:eachX x (fun i=>max ((x.cells[i]?).getD 0) 0)=reluX x:=rfl
 rw[hq0]at HA
 obtain ⟨q,hq⟩:=gN (reluX x)
 rw[hq]at HA ⊢
 rw[e5,e6]at HA
 rw[e1,e2,e3,e4,e5,e6]
 obtain ⟨V,hV⟩:=gM ((((w.alloc (.cells #[.int .i64 wr,.int .i64 wc,.slice xa xn xk,.int .i64 br,.int .i64 bc,.slice ya yn yk] 139)).alloc (.cells #[.int .i64 r,.int .i64 c,.slice za zn zk] 28)).alloc (.cells #[.int .i64 0,.int .i64 0,.slice none 0 0] 28)))
 have HV:=h_ hV
 have HBW:Hid (Below w.heap.size w V):=by rw[hV];exact h_ (b_ (b_ (o_ _ _) (o_ _ _)) (o_ _ _))
 have HB:Hid (Box V w.heap.size [.int .i64 wr,.int .i64 wc,.slice xa xn xk,.int .i64 br,.int .i64 bc,.slice ya yn yk]):=by rw[hV];exact h_ (((Box.new w [.int .i64 wr,.int .i64 wc,.slice xa xn xk,.int .i64 br,.int .i64 bc,.slice ya yn yk] 139 rfl).u_ (o_ _ _)).u_ (o_ _ _))
 have HBX:Hid (Box V (w.heap.size+1) [.int .i64 r,.int .i64 c,.slice za zn zk]):=by rw[hV];exact h_ ((Box.new _ [.int .i64 r,.int .i64 c,.slice za zn zk] 28 (by simp)).u_ (o_ _ _))
 have HQ:Hid (ResBox V (w.heap.size+1+1)):=by rw[hV];exact h_ (ResBox.new _ _ (by simp))
 clear hV
 clear hsx e1 e2 e3 e4 e5 e6 hq gx hq0 eg HB
 go_enter Try.func118,Try.ntmps118
 go_wp2_with fail
 rw[←HV.out]
 refine (HA.out _ HBW.out).mono ?_
 rintro e w2 ⟨qa,qn,qk,rfl,hnew,hb2⟩
 have HN:=h_ hnew
 have HB2:=h_ hb2
 have p:=HQ.out.u_ hb2
 have p0:=p.c0
 have p1:=p.c1
 have p2:=p.c2
 have p3:=p.f 0
 have p4:=p.f 1
 have p5:=p.f 2
 have HL:=h_ (World.block_lt_of_cell? V _ HQ.out.c0)
 clear hnew hb2 p HA
 go_wp2
 obtain ⟨c1,c2,c3⟩:=newEnd HN.out HBW.out (B:=w.heap.size+1+1) (by omega) HL.out HB2.out (.int .i64 q.rows) (.int .i64 q.cols) (.slice qa qn qk)
 exact bodyPost_ret (v:=.tuple #[.agg #[.int .i64 q.rows,.int .i64 q.cols,.slice qa qn qk],.nilIface]) (by simp[results,Try.results118,go_sem,p0,p1,p2]) rfl ⟨_,rfl,c1,c2,c3⟩
set_option maxHeartbeats 800000 in
theorem forth_shift(l:Ly){xa:Option Addr}{xn xk:Nat}{ya:Option Addr}{yn yk:Nat}(x:Mx)(vx:Value)(w:World)(R C:Nat)(gx:Good x R C)(gb:Good l.b 1 C)(hc:1≤C)(ht:I_ w (.slice ya yn yk) l.b.cells)(hx:M_ w vx x):
  Calls Try.prog 128 #[.agg #[.int .i64 l.w.rows,.int .i64 l.w.cols,.slice xa xn xk,.int .i64 l.b.rows,.int .i64 l.b.cols,.slice ya yn yk],vx] w (MxErr w (addRows x l.b) 0):=by
 obtain ⟨sx,rfl,hsx⟩:=hx
 obtain ⟨za,zn,zk,rfl⟩:=hsx.shape
 obtain ⟨wr,e1⟩:=gN (l.w.rows)
 obtain ⟨wc,e2⟩:=gN (l.w.cols)
 obtain ⟨br,e3⟩:=gN (l.b.rows)
 obtain ⟨bc,e4⟩:=gN (l.b.cols)
 obtain ⟨r,e5⟩:=gN (x.rows)
 obtain ⟨c,e6⟩:=gN (x.cols)
 have HA:=h_ (fun W (h:Below w.heap.size w W)=>addrows_any _ _ x l.b C W ⟨_,rfl,hsx.u_ h⟩ ⟨_,rfl,ht.u_ h⟩ gb.c (by omega) (by have:=gb.hC;omega) (by have:=gb.l;omega) (by have:=gx.l;have:=Nat.mul_le_mul gx.hR gx.hC;omega))
 obtain ⟨q,hq⟩:=gN (addRows x l.b)
 rw[hq]at HA ⊢
 rw[e5,e6,e3,e4]at HA
 rw[e1,e2,e3,e4,e5,e6]
 obtain ⟨V,hV⟩:=gM ((((w.alloc (.cells #[.int .i64 wr,.int .i64 wc,.slice xa xn xk,.int .i64 br,.int .i64 bc,.slice ya yn yk] 141)).alloc (.cells #[.int .i64 r,.int .i64 c,.slice za zn zk] 28)).alloc (.cells #[.int .i64 0,.int .i64 0,.slice none 0 0] 28)))
 have HV:=h_ hV
 have HBW:Hid (Below w.heap.size w V):=by rw[hV];exact h_ (b_ (b_ (o_ _ _) (o_ _ _)) (o_ _ _))
 have HB:Hid (Box V w.heap.size [.int .i64 wr,.int .i64 wc,.slice xa xn xk,.int .i64 br,.int .i64 bc,.slice ya yn yk]):=by rw[hV];exact h_ (((Box.new w [.int .i64 wr,.int .i64 wc,.slice xa xn xk,.int .i64 br,.int .i64 bc,.slice ya yn yk] 141 rfl).u_ (o_ _ _)).u_ (o_ _ _))
 have HBX:Hid (Box V (w.heap.size+1) [.int .i64 r,.int .i64 c,.slice za zn zk]):=by rw[hV];exact h_ ((Box.new _ [.int .i64 r,.int .i64 c,.slice za zn zk] 28 (by simp)).u_ (o_ _ _))
 have HQ:Hid (ResBox V (w.heap.size+1+1)):=by rw[hV];exact h_ (ResBox.new _ _ (by simp))
 clear hV
 clear ht hsx e1 e2 e3 e4 e5 e6 hq gx gb hc HB
 go_enter Try.func128,Try.ntmps128
 go_wp2_with fail
 rw[←HV.out]
 refine (HA.out _ HBW.out).mono ?_
 rintro e w2 ⟨qa,qn,qk,rfl,hnew,hb2⟩
 have HN:=h_ hnew
 have HB2:=h_ hb2
 have p:=HQ.out.u_ hb2
 have p0:=p.c0
 have p1:=p.c1
 have p2:=p.c2
 have p3:=p.f 0
 have p4:=p.f 1
 have p5:=p.f 2
 have HL:=h_ (World.block_lt_of_cell? V _ HQ.out.c0)
 clear hnew hb2 p HA
 go_wp2
 obtain ⟨c1,c2,c3⟩:=newEnd HN.out HBW.out (B:=w.heap.size+1+1) (by omega) HL.out HB2.out (.int .i64 q.rows) (.int .i64 q.cols) (.slice qa qn qk)
 exact bodyPost_ret (v:=.tuple #[.agg #[.int .i64 q.rows,.int .i64 q.cols,.slice qa qn qk],.nilIface]) (by simp[results,Try.results128,go_sem,p0,p1,p2]) rfl ⟨_,rfl,c1,c2,c3⟩
set_option maxHeartbeats 800000 in
theorem forth_scale(l:Ly){xa:Option Addr}{xn xk:Nat}{ya:Option Addr}{yn yk:Nat}(x:Mx)(vx:Value)(w:World)(R C:Nat)(gx:Good x R C)(gw:Good l.w 1 1)(hs:I_ w (.slice xa xn xk) l.w.cells)(hx:M_ w vx x):
  Calls Try.prog 123 #[.agg #[.int .i64 l.w.rows,.int .i64 l.w.cols,.slice xa xn xk,.int .i64 l.b.rows,.int .i64 l.b.cols,.slice ya yn yk],vx] w (MxErr w (timesX x (A_ l.w 0)) 0):=by
 obtain ⟨sx,rfl,hsx⟩:=hx
 obtain ⟨za,zn,zk,rfl⟩:=hsx.shape
 obtain ⟨wr,e1⟩:=gN (l.w.rows)
 obtain ⟨wc,e2⟩:=gN (l.w.cols)
 obtain ⟨br,e3⟩:=gN (l.b.rows)
 obtain ⟨bc,e4⟩:=gN (l.b.cols)
 obtain ⟨r,e5⟩:=gN (x.rows)
 obtain ⟨c,e6⟩:=gN (x.cols)
 obtain ⟨y,hy⟩:=gN (A_ l.w 0)
 have HT:=h_ (fun W (h:Below w.heap.size w W)=>mtimes_any _ x y W ⟨_,rfl,hsx.u_ h⟩)
 have HE:=h_ (show timesE x=0 by unfold timesE;rw[if_neg (by simp[gx.fault])])
 obtain ⟨q,hq⟩:=gN (timesX x y)
 rw[hy,hq]
 rw[hq,HE.out,e5,e6]at HT
 have hw0:l.w.cells[0]?=some y:=by rw[←hy];unfold A_;rw[List.getElem?_eq_getElem (by have:=gw.l;omega)];rfl
 have hwl:=gw.l
 obtain ⟨aa,cap,esv,h2,h3,h4⟩:=hs
 injection esv with q1 q2 q3
 obtain ⟨b,off,rfl,hcl⟩:=h4.resolve_left (fun e=>by rw[e]at hw0;simp at hw0)
 have h0:w.cell? ⟨b,off,none⟩=some (.int .i64 y):=hcl 0 y hw0
 have q2':xn=1:=by omega
 subst q1 q2'
 rw[e1,e2,e3,e4,e5,e6]
 obtain ⟨V,hV⟩:=gM ((((w.alloc (.cells #[.int .i64 wr,.int .i64 wc,.slice (some ⟨b,off,none⟩) 1 xk,.int .i64 br,.int .i64 bc,.slice ya yn yk] 140)).alloc (.cells #[.int .i64 r,.int .i64 c,.slice za zn zk] 28)).alloc (.cells #[.int .i64 0,.int .i64 0,.slice none 0 0] 28)))
 have HV:=h_ hV
 have HBW:Hid (Below w.heap.size w V):=by rw[hV];exact h_ (b_ (b_ (o_ _ _) (o_ _ _)) (o_ _ _))
 have HB:Hid (Box V w.heap.size [.int .i64 wr,.int .i64 wc,.slice (some ⟨b,off,none⟩) 1 xk,.int .i64 br,.int .i64 bc,.slice ya yn yk]):=by rw[hV];exact h_ (((Box.new w [.int .i64 wr,.int .i64 wc,.slice (some ⟨b,off,none⟩) 1 xk,.int .i64 br,.int .i64 bc,.slice ya yn yk] 140 rfl).u_ (o_ _ _)).u_ (o_ _ _))
 have HBX:Hid (Box V (w.heap.size+1) [.int .i64 r,.int .i64 c,.slice za zn zk]):=by rw[hV];exact h_ ((Box.new _ [.int .i64 r,.int .i64 c,.slice za zn zk] 28 (by simp)).u_ (o_ _ _))
 have HQ:Hid (ResBox V (w.heap.size+1+1)):=by rw[hV];exact h_ (ResBox.new _ _ (by simp))
 clear hV
 have g0:=c_ HBW.out h0
 have HBD:=h_ (show Below w.heap.size w V.drew from ⟨HBW.out.os,HBW.out.tape,HBW.out.output,HBW.out.size,HBW.out.block⟩)
 have HBL:=h_ (World.block_lt_of_cell? w _ h0)
 clear hsx e1 e2 e3 e4 e5 e6 hq hy gx gw hw0 hwl h2 h3 h4 hcl h0 q2 q3
 obtain ⟨d0,d1,d2⟩:=HB.out.c3
 obtain ⟨x0,x1,x2⟩:=HBX.out.c3
 go_enter Try.func123,Try.ntmps123
 go_wp2
 rw[←HV.out]
 have hne:¬b=w.heap.size+1+1:=by have:=HBL.out;omega
 go_region_held3 (fun W'=>W'.cell? ⟨w.heap.size+1,0,none⟩=some (.int .i64 r)∧W'.cell? ⟨w.heap.size+1,1,none⟩=some (.int .i64 c)∧W'.cell? ⟨w.heap.size+1,2,none⟩=some (.slice za zn zk)∧W'.cell? ⟨w.heap.size,2,none⟩=some (.slice (some ⟨b,off,none⟩) 1 xk)∧W'.cell? ⟨b,off,none⟩=some (.int .i64 y)) ((first|go_keep|(refine ⟨?_,?_,?_,?_,?_⟩<;>first|assumption|go_keep)))
  (first
   |(go_at_call 124;refine (HT.out _ HBD.out).mono ?_;rintro e w2 ⟨v',rfl,hm,hb2,hf⟩;obtain ⟨s',rfl,hs'⟩:=hm;obtain ⟨qa,qn,qk,rfl⟩:=hs'.shape;rw[e_ rfl];have HN:=h_ (show M_ w2 (.agg #[.int .i64 q.rows,.int .i64 q.cols,.slice qa qn qk]) q from ⟨_,rfl,hs'⟩);have HF:=h_ (show F_ V.heap.size (.agg #[.int .i64 q.rows,.int .i64 q.cols,.slice qa qn qk]) from hf);have HB2:=h_ (show Below V.heap.size V w2 from (show Below V.heap.size V V.drew from ⟨rfl,rfl,rfl,Nat.le_refl _,fun _ _=>rfl⟩).trans hb2);have p0:=(HQ.out.u_ HB2.out).c0;have p1:=(HQ.out.u_ HB2.out).c1;have p2:=(HQ.out.u_ HB2.out).c2;have p3:=(HQ.out.u_ HB2.out).f 0;have p4:=(HQ.out.u_ HB2.out).f 1;have p5:=(HQ.out.u_ HB2.out).f 2;have i0:=c_ HB2.out x0;have i1:=c_ HB2.out x1;have i2:=c_ HB2.out x2;have i3:=c_ HB2.out d2;have i4:=c_ HB2.out g0;have j3:=s_ i3 (B:=w.heap.size+1+1) (show ¬w.heap.size=w.heap.size+1+1 by omega) (.int .i64 q.rows) (.int .i64 q.cols) (.slice qa qn qk);have j4:=s_ i4 (B:=w.heap.size+1+1) hne (.int .i64 q.rows) (.int .i64 q.cols) (.slice qa qn qk);clear hb2 hs' hf))
 have HL:=h_ (World.block_lt_of_cell? V _ HQ.out.c0)
 go_wp2
 obtain ⟨c1,c2,c3⟩:=errEnd HN.out HF.out HBW.out (B:=w.heap.size+1+1) (by omega) HL.out HB2.out (.int .i64 q.rows) (.int .i64 q.cols) (.slice qa qn qk)
 exact bodyPost_ret (v:=.tuple #[.agg #[.int .i64 q.rows,.int .i64 q.cols,.slice qa qn qk],.nilIface]) (by simp[results,Try.results123,go_sem,p0,p1,p2]) rfl ⟨_,rfl,c1,c2,c3⟩
end Go.Proofs.Ytniloklglpchfaf
