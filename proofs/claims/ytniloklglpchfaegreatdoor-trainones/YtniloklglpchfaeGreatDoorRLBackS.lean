/- What BackOf of the document's answer comes to at the kind Scale: what goes back, and the Grad. -/
import Derived.Test.YtniloklglpchfaeGreatDoorRLBackL
import Derived.Test.YtniloklglpchfaeGreatDoorLScale
namespace Go.Proofs.YtniloklglpchfaeGreatDoor
open Go.RowKit
theorem below_drN{n:Nat}{w u:World}(h:Below n w u)(k:Nat):Below n w (u.drewN k):=⟨h.os,h.tape,h.output,h.size,h.block⟩
set_option maxHeartbeats 8000000 in
set_option maxRecDepth 100000 in
theorem rback_scale(l:Ly){xa:Option Addr}{xn xk:Nat}{ya:Option Addr}{yn yk:Nat}(x g:Mx)(vx vg:Value)(w:World)(hk:l.k=3)(hE:backE l x g=0)(hs:I_ w (.slice xa xn xk) l.w.cells)(hx:M_ w vx x)(hg:M_ w vg g):
  Calls Tryz.prog 93 #[.agg #[.int .i64 3,.int .i64 l.w.rows,.int .i64 l.w.cols,.slice xa xn xk,.int .i64 l.b.rows,.int .i64 l.b.cols,.slice ya yn yk],vx,vg] w (RefBack w (backX l x g) (gradW l x g) (gradB l x g)):=by
 obtain ⟨sx,rfl,hsx⟩:=hx
 obtain ⟨za,zn,zk,rfl⟩:=hsx.shape
 obtain ⟨sg,rfl,hsg⟩:=hg
 obtain ⟨ga,gn,gk,rfl⟩:=hsg.shape
 obtain ⟨wr,e1⟩:=gN (l.w.rows)
 obtain ⟨wc,e2⟩:=gN (l.w.cols)
 obtain ⟨br,e3⟩:=gN (l.b.rows)
 obtain ⟨bc,e4⟩:=gN (l.b.cols)
 obtain ⟨r,e5⟩:=gN (x.rows)
 obtain ⟨c,e6⟩:=gN (x.cols)
 obtain ⟨r',e7⟩:=gN (g.rows)
 obtain ⟨c',e8⟩:=gN (g.cols)
 obtain ⟨hgo,hfg,s1,s2,_⟩:=backE_zero hE
 obtain ⟨hl,hfx,_⟩:=goE_zero hgo
 obtain ⟨R,C,gx⟩:=o__ hfx
 obtain ⟨Rg,Cg,gg⟩:=o__ hfg
 obtain ⟨gw⟩:Nonempty (PLift (Good l.w 1 1)):=by
  cases lyG_of hl using LyG.el with
  |lin _ _ hk' _ _ _ _ _=>omega
  |relu hk' _ _=>omega
  |scale _ gw _=>exact ⟨⟨gw⟩⟩
  |shift _ hk' _ _ _=>omega
 have gw:=gw.down
 have eg:g_ l x.cols=x.cols:=by unfold g_;rw[if_neg (by omega)]
 have gg:=gg.same (R':=R) (C':=C) (by have:=gg.r;have:=gx.r;omega) (by have:=gg.c;have:=gx.c;omega)
 obtain ⟨y,hy⟩:=gN (A_ l.w 0)
 obtain ⟨N,eN⟩:=gN (x.cells.length)
 have hX:backX l x g=timesX g y:=by unfold backX backG;rw[if_pos hE,if_neg (by omega),if_neg (by omega),if_pos hk,hy]
 have hW:gradW l x g=⟨1,1,[sumP x g N]⟩:=by unfold gradW;rw[if_pos hE,if_neg (by omega),if_pos hk,eN]
 have hB:gradB l x g=noMx:=by unfold gradB;rw[if_pos hE,if_neg (by omega)]
 have HT:=h_ (fun W (h:Below w.heap.size w W)=>ref_times y W (va:=.agg #[.int .i64 g.rows,.int .i64 g.cols,.slice ga gn gk]) (a:=g) ⟨_,rfl,hsg.u_ h⟩ hfg)
 obtain ⟨t,ht⟩:=gN (timesX g y)
 rw[hX,hW,hB,ht]
 rw[ht,e7,e8]at HT
 have hN:N≤576:=by rw[←eN];have:=gx.l;have:=Nat.mul_le_mul gx.hR gx.hC;omega
 have egN:g.cells.length=N:=by rw[←eN,gx.l,gg.l]
 have hw0:l.w.cells[0]?=some y:=by rw[←hy];unfold A_;rw[List.getElem?_eq_getElem (by have:=gw.l;omega)];rfl
 have hwl:=gw.l
 obtain ⟨aa,cap,esv,h2,h3,h4⟩:=hs
 injection esv with q1 q2 q3
 obtain ⟨b,off,rfl,hcl⟩:=h4.resolve_left (fun e=>by rw[e]at hw0;simp at hw0)
 have h0:w.cell? ⟨b,off,none⟩=some (.int .i64 y):=hcl 0 y hw0
 have q2':xn=1:=by omega
 subst q1 q2'
 have HBL:=h_ (World.block_lt_of_cell? w _ h0)
 have HB0:=h_ h0
 have HSX:=h_ hsx
 have HSG:=h_ hsg
 have hzn:N=zn:=by obtain ⟨_,_,e,_⟩:=hsx;injection e with _ e _;omega
 have hgn:N=gn:=by obtain ⟨_,_,e,_⟩:=hsg;injection e with _ e _;omega
 subst hzn hgn
 rw[e1,e2,e3,e4,e5,e6,e7,e8]
 obtain ⟨V0,hV⟩:=gM (((((((w.alloc (.cells #[.int .i64 3,.int .i64 wr,.int .i64 wc,.slice (some ⟨b,off,none⟩) 1 xk,.int .i64 br,.int .i64 bc,.slice ya yn yk] 58)).alloc (.cells #[.int .i64 r,.int .i64 c,.slice za N zk] 28)).alloc (.cells #[.int .i64 r',.int .i64 c',.slice ga N gk] 28)).alloc (.cells #[.int .i64 0,.int .i64 0,.slice none 0 0] 28)).alloc (.cells #[.int .i64 0,.int .i64 0,.slice none 0 0,.int .i64 0,.int .i64 0,.slice none 0 0] 61)).alloc (.cells #[.int .i64 0,.int .i64 0,.slice none 0 0,.int .i64 0,.int .i64 0,.slice none 0 0] 61)))
 have HV:=h_ hV
 have H0W:Hid (Below w.heap.size w V0):=by rw[hV];exact h_ (b_ (b_ (b_ (b_ (b_ (o_ _ _) (o_ _ _)) (o_ _ _)) (o_ _ _)) (o_ _ _)) (o_ _ _))
 have H0L:Hid (Box V0 w.heap.size [.int .i64 3,.int .i64 wr,.int .i64 wc,.slice (some ⟨b,off,none⟩) 1 xk,.int .i64 br,.int .i64 bc,.slice ya yn yk]):=by rw[hV];exact h_ ((((((Box.new w [.int .i64 3,.int .i64 wr,.int .i64 wc,.slice (some ⟨b,off,none⟩) 1 xk,.int .i64 br,.int .i64 bc,.slice ya yn yk] 58 rfl).u_ (o_ _ _)).u_ (o_ _ _)).u_ (o_ _ _)).u_ (o_ _ _)).u_ (o_ _ _))
 have H0X:Hid (Box V0 (w.heap.size+1) [.int .i64 r,.int .i64 c,.slice za N zk]):=by rw[hV];exact h_ (((((Box.new _ [.int .i64 r,.int .i64 c,.slice za N zk] 28 (by simp)).u_ (o_ _ _)).u_ (o_ _ _)).u_ (o_ _ _)).u_ (o_ _ _))
 have H0G:Hid (Box V0 (w.heap.size+1+1) [.int .i64 r',.int .i64 c',.slice ga N gk]):=by rw[hV];exact h_ ((((Box.new _ [.int .i64 r',.int .i64 c',.slice ga N gk] 28 (by simp)).u_ (o_ _ _)).u_ (o_ _ _)).u_ (o_ _ _))
 have H0Q:Hid (Box V0 (w.heap.size+1+1+1) [.int .i64 0,.int .i64 0,.slice none 0 0]):=by rw[hV];exact h_ (((Box.new _ [.int .i64 0,.int .i64 0,.slice none 0 0] 28 (by simp)).u_ (o_ _ _)).u_ (o_ _ _))
 have H0F:Hid (Free V0 (w.heap.size+1+1+1)):=by rw[hV];exact h_ (((Free.new _ _ 28 (by simp)).u_ (o_ _ _) (by simp)).u_ (o_ _ _) (by simp))
 have H0P:Hid (Box V0 (w.heap.size+1+1+1+1) [.int .i64 0,.int .i64 0,.slice none 0 0,.int .i64 0,.int .i64 0,.slice none 0 0]):=by rw[hV];exact h_ ((Box.new _ [.int .i64 0,.int .i64 0,.slice none 0 0,.int .i64 0,.int .i64 0,.slice none 0 0] 61 (by simp)).u_ (o_ _ _))
 have H0E:Hid (Free V0 (w.heap.size+1+1+1+1)):=by rw[hV];exact h_ ((Free.new _ _ 61 (by simp)).u_ (o_ _ _) (by simp))
 have H0D:Hid (Box V0 (w.heap.size+1+1+1+1+1) [.int .i64 0,.int .i64 0,.slice none 0 0,.int .i64 0,.int .i64 0,.slice none 0 0]):=by rw[hV];exact h_ (Box.new _ [.int .i64 0,.int .i64 0,.slice none 0 0,.int .i64 0,.int .i64 0,.slice none 0 0] 61 (by simp))
 have H0I:Hid (Free V0 (w.heap.size+1+1+1+1+1)):=by rw[hV];exact h_ (Free.new _ _ 61 (by simp))
 clear hV
 have HEN:=h_ (And.intro eN egN)
 clear hsx hsg e1 e2 e3 e4 e5 e6 e7 e8 ht hy gx gg gw hw0 hwl h2 h3 h4 hcl h0 q2 q3 eN egN hk hE hgo hl hfg hfx eg s1 s2 hX hW hB
 have d0:=H0L.out 0 _ rfl
 go_enter Tryz.func93,Tryz.ntmps93
 go_wp2
 rw[←HV.out]
 clear d0
 go_loopw [12,13] (fun s a wr=>∃(i:Nat) (xi:Int),i≤N∧xi=(i:Int)∧a=.int .i64 xi∧s=.int .i64 (sumP x g i)∧Below V0.heap.size V0 wr) (fun _ a _=>N - (intOf a).toNat)
 case atStart=>exact ⟨0,0,Nat.zero_le _,rfl,rfl,rfl,Below.refl _ _⟩
 case round=>
  obtain ⟨i,xi,hi,hxi,rfl,rfl,hbw⟩:=hrel
  have HXI:=h_ hxi
  have HBR:=h_ hbw
  have hxi0:0≤xi:=by omega
  have hxi1:xi≤576:=by omega
  have x2:=(H0X.out.u_ hbw) 2 _ rfl
  have y2:=(H0G.out.u_ hbw) 2 _ rfl
  clear hxi hbw
  by_cases hlt:xi<(N:Int)
  ·have HXX:=h_ (HSX.out.u_ (b_ H0W.out HBR.out))
   have HGG:=h_ (HSG.out.u_ (b_ H0W.out HBR.out))
   have hin:i<N:=by have:=HXI.out;omega
   have hxn:xi.toNat=i:=by have:=HXI.out;omega
   obtain ⟨ex,hex⟩:∃e,x.cells[i]?=some e:=⟨x.cells[i]'(by have:=HEN.out.1;omega),List.getElem?_eq_getElem _⟩
   obtain ⟨ey,hey⟩:∃e,g.cells[i]?=some e:=⟨g.cells[i]'(by have:=HEN.out.2;omega),List.getElem?_eq_getElem _⟩
   obtain ⟨ax,cx,esx,_,_,h4x⟩:=HXX.out
   obtain ⟨ag,cg,esg,_,_,h4g⟩:=HGG.out
   injection esx with sx1 sx2 sx3
   injection esg with sg1 sg2 sg3
   clear sx2 sx3 sg2 sg3
   obtain ⟨bx,ox,rfl,hclx⟩:=h4x.resolve_left (fun e=>by rw[e]at hex;simp at hex)
   obtain ⟨bg,og,rfl,hclg⟩:=h4g.resolve_left (fun e=>by rw[e]at hey;simp at hey)
   subst sx1 sg1
   have c0:wr.cell? ⟨bx,ox+xi.toNat,none⟩=some (.int .i64 ex):=by rw[hxn];exact hclx i ex hex
   have c1:wr.cell? ⟨bg,og+xi.toNat,none⟩=some (.int .i64 ey):=by rw[hxn];exact hclg i ey hey
   have HS:=h_ (sumP_step hex hey)
   clear hclx hclg h4x h4g hex hey hxn HXX HGG
   go_wp2
   go_quiet ((go_at_call 91;refine Calls.quiet_of_same (rmul_any _ _ _)))
   go_wp2_with (first|(go_at_call 30;refine (radd_any _ _ _).mono ?_;rintro e w' ⟨rfl,rfl⟩))
   go_roundw
   case rel=>exact ⟨i+1,_,by omega,by have:=HXI.out;omega,rfl,by rw[←HS.out],below_drN HBR.out _⟩
   case measure=>have:=HXI.out;simp[intOf];omega
  ·have hiN:i=N:=by have:=HXI.out;omega
   obtain ⟨z,hz⟩:=gN (sumP x g N)
   rw[hiN,hz]
   have HZ:=h_ hz
   have D:=b_ HBR.out (o_ wr (.cells #[.int .i64 z] 3))
   obtain ⟨t0,t1,t2⟩:=(H0D.out.u_ D).c3
   obtain ⟨v0,v1,v2⟩:=(H0I.out.u_ D H0D.out.lt).f3
   obtain ⟨V,hV⟩:=gM (((((wr.alloc (.cells #[.int .i64 z] 3)).setCell ⟨w.heap.size+1+1+1+1+1,0,none⟩ (.int .i64 1)).setCell ⟨w.heap.size+1+1+1+1+1,1,none⟩ (.int .i64 1)).setCell ⟨w.heap.size+1+1+1+1+1,2,none⟩ (.slice (some ⟨wr.heap.size,0,none⟩) 1 1)))
   have HV1:=h_ hV
   have HA:=above3 (B:=w.heap.size+1+1+1+1+1) H0D.out.lt (wr.alloc (.cells #[.int .i64 z] 3)) (.int .i64 1) (.int .i64 1) (.slice (some ⟨wr.heap.size,0,none⟩) 1 1)
   rw[←hV]at HA
   have HOF:=h_ (show F_ V0.heap.size (.agg #[.int .i64 1,.int .i64 1,.slice (some ⟨wr.heap.size,0,none⟩) 1 1]) from fresh_at HBR.out.size _ _ _)
   have HON:=h_ ((one_ints wr z).above HOF.out HA)
   have HWV:Hid (Below w.heap.size w V):=by rw[hV];exact h_ (S_ (b_ H0W.out D) (by omega) _ _ _)
   have HLV:=h_ ((H0L.out.u_ D).set3 (B':=w.heap.size+1+1+1+1+1) (by omega) (.int .i64 1) (.int .i64 1) (.slice (some ⟨wr.heap.size,0,none⟩) 1 1))
   rw[←hV]at HLV
   have HGV:Hid (Box V (w.heap.size+1+1) [.int .i64 r',.int .i64 c',.slice ga N gk]):=by rw[hV];exact h_ ((H0G.out.u_ D).set3 (by omega) _ _ _)
   have HQV:Hid (Box V (w.heap.size+1+1+1) [.int .i64 0,.int .i64 0,.slice none 0 0]):=by rw[hV];exact h_ ((H0Q.out.u_ D).set3 (by omega) _ _ _)
   have HFQ:Hid (Free V (w.heap.size+1+1+1)):=by rw[hV];exact h_ ((H0F.out.u_ D H0Q.out.lt).set3 _ _ _ _)
   have HPV:Hid (Box V (w.heap.size+1+1+1+1) [.int .i64 0,.int .i64 0,.slice none 0 0,.int .i64 0,.int .i64 0,.slice none 0 0]):=by rw[hV];exact h_ ((H0P.out.u_ D).set3 (by omega) _ _ _)
   have HFP:Hid (Free V (w.heap.size+1+1+1+1)):=by rw[hV];exact h_ ((H0E.out.u_ D H0P.out.lt).set3 _ _ _ _)
   have HDV:Hid (Box V (w.heap.size+1+1+1+1+1) [.int .i64 1,.int .i64 1,.slice (some ⟨wr.heap.size,0,none⟩) 1 1,.int .i64 0,.int .i64 0,.slice none 0 0]):=by rw[hV];exact h_ (two_set0 (H0D.out.u_ D) _ _ _)
   have HZV:Hid (V0.heap.size≤V.heap.size):=by rw[hV];exact h_ (by simpa using D.size)
   have HLQ:=h_ H0Q.out.lt
   have HLP:=h_ H0P.out.lt
   clear hz hiN D HA hV hi y2
   go_wp2
   rw[←HV1.out]
   clear t0 t1 t2 v0 v1 v2 x2 hlt hxi0 hxi1
   have g0:=c_ HWV.out HB0.out
   have d3:=HLV.out 3 _ rfl
   obtain ⟨y0,y1,y2⟩:=HGV.out.c3
   have hv0:¬w.heap.size=V.heap.size:=by have:=HLV.out.lt;omega
   have hv2:¬w.heap.size+1+1=V.heap.size:=by have:=HGV.out.lt;omega
   have hvb:¬b=V.heap.size:=by have:=HLV.out.lt;have:=HBL.out;omega
   have HBD:=h_ (r_ HWV.out)
   have HBE:=h_ (r_ (b_ HWV.out (o_ V (.cells #[.int .i64 0,.int .i64 0,.slice none 0 0] 28))))
   go_region_held3 (fun W'=>W'.cell? ⟨w.heap.size+1+1,0,none⟩=some (.int .i64 r')∧W'.cell? ⟨w.heap.size+1+1,1,none⟩=some (.int .i64 c')∧W'.cell? ⟨w.heap.size+1+1,2,none⟩=some (.slice ga N gk)∧W'.cell? ⟨w.heap.size,3,none⟩=some (.slice (some ⟨b,off,none⟩) 1 xk)∧W'.cell? ⟨b,off,none⟩=some (.int .i64 y)) ((first|go_keep|(refine ⟨?_,?_,?_,?_,?_⟩<;>first|assumption|go_keep)))
    (first
     |(go_at_call 94;refine (HT.out _ HBE.out).mono ?_;rintro e w2 ⟨ta,tn,tk,rfl,hm,hb2,hf⟩;have HN:=h_ hm;have hc2:=b_ (r_ (Below.refl _ (V.alloc (.cells #[.int .i64 0,.int .i64 0,.slice none 0 0] 28)))) hb2;have HB2:=h_ (b_ (o_ V (.cells #[.int .i64 0,.int .i64 0,.slice none 0 0] 28)) hc2);have HTF:=h_ (show F_ V.heap.size (.agg #[.int .i64 t.rows,.int .i64 t.cols,.slice ta tn tk]) from f_ hf (o_ V (.cells #[.int .i64 0,.int .i64 0,.slice none 0 0] 28)).size);have HTG:=h_ (show F_ (V.heap.size+1) (.agg #[.int .i64 t.rows,.int .i64 t.cols,.slice ta tn tk]) from f_ hf (Nat.le_of_eq (World.size_alloc V (.cells #[.int .i64 0,.int .i64 0,.slice none 0 0] 28)).symm));have HZB:=h_ ((Box.new V [.int .i64 0,.int .i64 0,.slice none 0 0] 28 rfl).u_ hc2);have HZF:=h_ ((Free.new V #[.int .i64 0,.int .i64 0,.slice none 0 0] 28 rfl).u_ hc2 (Nat.lt_of_lt_of_eq (Nat.lt_succ_self _) (World.size_alloc _ _).symm));clear hc2;have z0:=HZB.out 0 _ rfl;have z1:=HZB.out 1 _ rfl;have z2:=HZB.out 2 _ rfl;have z3:=HZF.out 0;have z4:=HZF.out 1;have z5:=HZF.out 2;have i0:=c_ HB2.out y0;have j0:=s_ i0 (B:=V.heap.size) hv2 (.int .i64 t.rows) (.int .i64 t.cols) (.slice ta tn tk);have i1:=c_ HB2.out y1;have j1:=s_ i1 (B:=V.heap.size) hv2 (.int .i64 t.rows) (.int .i64 t.cols) (.slice ta tn tk);have i2:=c_ HB2.out y2;have j2:=s_ i2 (B:=V.heap.size) hv2 (.int .i64 t.rows) (.int .i64 t.cols) (.slice ta tn tk);have i3:=c_ HB2.out d3;have j3:=s_ i3 (B:=V.heap.size) hv0 (.int .i64 t.rows) (.int .i64 t.cols) (.slice ta tn tk);have i4:=c_ HB2.out g0;have j4:=s_ i4 (B:=V.heap.size) hvb (.int .i64 t.rows) (.int .i64 t.cols) (.slice ta tn tk);clear hb2 hm hf)
     |(go_at_call 94;refine (HT.out _ HBD.out).mono ?_;rintro e w2 ⟨ta,tn,tk,rfl,hm,hb2,hf⟩;have HN:=h_ hm;have HTF:=h_ (show F_ V.heap.size (.agg #[.int .i64 t.rows,.int .i64 t.cols,.slice ta tn tk]) from hf);have HB2:=h_ (show Below V.heap.size V w2 from (show Below V.heap.size V V.drew from ⟨rfl,rfl,rfl,Nat.le_refl _,fun _ _=>rfl⟩).trans hb2);have i0:=c_ HB2.out y0;have j0:=fun o=>p_ i0 o;have i1:=c_ HB2.out y1;have j1:=fun o=>p_ i1 o;have i2:=c_ HB2.out y2;have j2:=fun o=>p_ i2 o;have i3:=c_ HB2.out d3;have j3:=fun o=>p_ i3 o;have i4:=c_ HB2.out g0;have j4:=fun o=>p_ i4 o;clear hb2 hm hf))
   ·obtain ⟨U,hU⟩:=gM (w2.alloc (.cells #[.int .i64 t.rows,.int .i64 t.cols,.slice ta tn tk] 28))
    rw[←hU]
    have HUB:Hid (Below V.heap.size V U):=by rw[hU];exact h_ (b_ HB2.out (o_ _ _))
    have HTB:Hid (Box U w2.heap.size [.int .i64 t.rows,.int .i64 t.cols,.slice ta tn tk]):=by rw[hU];exact h_ (Box.new w2 _ 28 rfl)
    obtain ⟨p0,p1,p2⟩:=HTB.out.c3
    have HTI:Hid (I_ U (.slice ta tn tk) t.cells):=by rw[hU];exact h_ (HN.out.u_ (o_ _ _)).ints
    clear hU HTB i0 i1 i2 i3 i4 j0 j1 j2 j3 j4 d3 y0 y1 y2 g0 hv0 hv2 hvb HT
    have HWU:=h_ (b_ HWV.out HUB.out)
    have HOI:=h_ (HON.out.u_ HUB.out)
    obtain ⟨q0,q1,q2⟩:=(HQV.out.u_ HUB.out).c3
    obtain ⟨t0,t1,t2,t3,t4,t5⟩:=(HPV.out.u_ HUB.out).c6
    obtain ⟨d0,d1,d2,d3,d4,d5⟩:=(HDV.out.u_ HUB.out).c6
    obtain ⟨f0,f1,f2⟩:=(HFQ.out.u_ HUB.out HQV.out.lt).f3
    obtain ⟨v0,v1,v2,v3,v4,v5⟩:=(HFP.out.u_ HUB.out HPV.out.lt).f6
    have nd:¬w.heap.size+1+1+1+1+1=w.heap.size+1+1+1:=by omega
    have k0:=s_ d0 (B:=w.heap.size+1+1+1) nd (.int .i64 t.rows) (.int .i64 t.cols) (.slice ta tn tk)
    have k1:=s_ d1 (B:=w.heap.size+1+1+1) nd (.int .i64 t.rows) (.int .i64 t.cols) (.slice ta tn tk)
    have k2:=s_ d2 (B:=w.heap.size+1+1+1) nd (.int .i64 t.rows) (.int .i64 t.cols) (.slice ta tn tk)
    have k3:=s_ d3 (B:=w.heap.size+1+1+1) nd (.int .i64 t.rows) (.int .i64 t.cols) (.slice ta tn tk)
    have k4:=s_ d4 (B:=w.heap.size+1+1+1) nd (.int .i64 t.rows) (.int .i64 t.cols) (.slice ta tn tk)
    have k5:=s_ d5 (B:=w.heap.size+1+1+1) nd (.int .i64 t.rows) (.int .i64 t.cols) (.slice ta tn tk)
    go_wp2
    go_region
    all_goals go_wp2
    all_goals
     have HA:=above9 (B:=w.heap.size+1+1+1) (C:=w.heap.size+1+1+1+1) HLQ.out HLP.out U (.int .i64 t.rows) (.int .i64 t.cols) (.slice ta tn tk) (.int .i64 1) (.int .i64 1) (.slice (some ⟨wr.heap.size,0,none⟩) 1 1) (.int .i64 0) (.int .i64 0) (.slice none 0 0)
     refine bodyPost_ret (v:=.tuple #[.agg #[.int .i64 t.rows,.int .i64 t.cols,.slice ta tn tk],.agg #[.int .i64 1,.int .i64 1,.slice (some ⟨wr.heap.size,0,none⟩) 1 1,.int .i64 0,.int .i64 0,.slice none 0 0]]) (by simp[results,Tryz.results93,go_sem,q0,q1,q2,t0,t1,t2,t3,t4,t5]) rfl ⟨_,_,rfl,⟨_,rfl,HTI.out.above (f_ HTF.out HZV.out) HA.drew⟩,⟨_,_,rfl,?_,I_.nil _⟩,?_,f_ HTF.out HWV.out.size,fresh2_of (f_ HOF.out H0W.out.size) (y_ _ _ _)⟩
     ·show I_ _ _ [sumP x g N]
      rw[HZ.out]
      exact HOI.out.above HOF.out HA.drew
     ·exact r_ (below9 HWU.out (B:=w.heap.size+1+1+1) (C:=w.heap.size+1+1+1+1) (by omega) (by omega) _ _ _ _ _ _ _ _ _)
   ·obtain ⟨U,hU⟩:=gM ((((w2.setCell ⟨V.heap.size,0,none⟩ (.int .i64 t.rows)).setCell ⟨V.heap.size,1,none⟩ (.int .i64 t.cols)).setCell ⟨V.heap.size,2,none⟩ (.slice ta tn tk)))
    rw[←hU]
    have HUB:Hid (Below V.heap.size V U):=by rw[hU];exact h_ (S_ HB2.out (Nat.le_refl _) _ _ _)
    have hmt:=(Mut.set (w:=w2) (B:=V.heap.size) ⟨⟨z0,z1,z2⟩,HZF.out⟩ t.rows t.cols (.slice ta tn tk)).t
    rw[←hU]at hmt
    obtain ⟨p0,p1,p2⟩:=hmt
    have HTI:Hid (I_ U (.slice ta tn tk) t.cells):=by rw[hU];exact h_ (HN.out.set3 HTG.out (Nat.lt_succ_self _) _ _ _).ints
    clear hU z0 z1 z2 z3 z4 z5 HZB HZF HTG i0 i1 i2 i3 i4 j0 j1 j2 j3 j4 d3 y0 y1 y2 g0 hv0 hv2 hvb HT
    have HWU:=h_ (b_ HWV.out HUB.out)
    have HOI:=h_ (HON.out.u_ HUB.out)
    obtain ⟨q0,q1,q2⟩:=(HQV.out.u_ HUB.out).c3
    obtain ⟨t0,t1,t2,t3,t4,t5⟩:=(HPV.out.u_ HUB.out).c6
    obtain ⟨d0,d1,d2,d3,d4,d5⟩:=(HDV.out.u_ HUB.out).c6
    obtain ⟨f0,f1,f2⟩:=(HFQ.out.u_ HUB.out HQV.out.lt).f3
    obtain ⟨v0,v1,v2,v3,v4,v5⟩:=(HFP.out.u_ HUB.out HPV.out.lt).f6
    have nd:¬w.heap.size+1+1+1+1+1=w.heap.size+1+1+1:=by omega
    have k0:=s_ d0 (B:=w.heap.size+1+1+1) nd (.int .i64 t.rows) (.int .i64 t.cols) (.slice ta tn tk)
    have k1:=s_ d1 (B:=w.heap.size+1+1+1) nd (.int .i64 t.rows) (.int .i64 t.cols) (.slice ta tn tk)
    have k2:=s_ d2 (B:=w.heap.size+1+1+1) nd (.int .i64 t.rows) (.int .i64 t.cols) (.slice ta tn tk)
    have k3:=s_ d3 (B:=w.heap.size+1+1+1) nd (.int .i64 t.rows) (.int .i64 t.cols) (.slice ta tn tk)
    have k4:=s_ d4 (B:=w.heap.size+1+1+1) nd (.int .i64 t.rows) (.int .i64 t.cols) (.slice ta tn tk)
    have k5:=s_ d5 (B:=w.heap.size+1+1+1) nd (.int .i64 t.rows) (.int .i64 t.cols) (.slice ta tn tk)
    go_wp2
    go_region
    all_goals go_wp2
    all_goals
     have HA:=above9 (B:=w.heap.size+1+1+1) (C:=w.heap.size+1+1+1+1) HLQ.out HLP.out U (.int .i64 t.rows) (.int .i64 t.cols) (.slice ta tn tk) (.int .i64 1) (.int .i64 1) (.slice (some ⟨wr.heap.size,0,none⟩) 1 1) (.int .i64 0) (.int .i64 0) (.slice none 0 0)
     refine bodyPost_ret (v:=.tuple #[.agg #[.int .i64 t.rows,.int .i64 t.cols,.slice ta tn tk],.agg #[.int .i64 1,.int .i64 1,.slice (some ⟨wr.heap.size,0,none⟩) 1 1,.int .i64 0,.int .i64 0,.slice none 0 0]]) (by simp[results,Tryz.results93,go_sem,q0,q1,q2,t0,t1,t2,t3,t4,t5]) rfl ⟨_,_,rfl,⟨_,rfl,HTI.out.above (f_ HTF.out HZV.out) HA.drew⟩,⟨_,_,rfl,?_,I_.nil _⟩,?_,f_ HTF.out HWV.out.size,fresh2_of (f_ HOF.out H0W.out.size) (y_ _ _ _)⟩
     ·show I_ _ _ [sumP x g N]
      rw[HZ.out]
      exact HOI.out.above HOF.out HA.drew
     ·exact r_ (below9 HWU.out (B:=w.heap.size+1+1+1) (C:=w.heap.size+1+1+1+1) (by omega) (by omega) _ _ _ _ _ _ _ _ _)
theorem rback_any(v vx vg:Value)(l:Ly)(x g:Mx)(w:World)(hv:IsLy w v l)(hx:M_ w vx x)(hg:M_ w vg g)(hE:backE l x g=0):Calls Tryz.prog 93 #[v,vx,vg] w (RefBack w (backX l x g) (gradW l x g) (gradB l x g)):=by
 obtain ⟨s,t,rfl,hs,ht⟩:=hv
 obtain ⟨xa,xn,xk,rfl⟩:=hs.shape
 obtain ⟨ya,yn,yk,rfl⟩:=ht.shape
 cases lyG_of (goE_zero (backE_zero hE).1).1 using LyG.el with
 |lin _ _ hk _ _ _ _ _=>rw[hk];exact rback_linear l x g vx vg w hk hE hs hx hg
 |relu hk _ _=>rw[hk];exact rback_relu l x g vx vg w hk hE hx hg
 |scale hk _ _=>rw[hk];exact rback_scale l x g vx vg w hk hE hs hx hg
 |shift _ hk _ _ _=>rw[hk];exact rback_shift l x g vx vg w hk hE hx hg
end Go.Proofs.YtniloklglpchfaeGreatDoor
