/- What back of the kind Scale of package layer comes to. -/
import Derived.Test.YtniloklglpchfakGreatLBack
import Derived.Test.YtniloklglpchfakGreatLKind
import Derived.Test.YtniloklglpchfakGreatPkLBox
namespace Go.Proofs.YtniloklglpchfakGreat
open Go.RowKit
theorem sumP_step{x g:Mx}{i:Nat}{ex ey:Int}(hex:x.cells[i]?=some ex)(hey:g.cells[i]?=some ey):ad (sumP x g i) (ml ex ey)=sumP x g (i+1):=by
 show _=ad (sumP x g i) (ml (A_ x i) (A_ g i))
 unfold A_;rw[hex,hey];rfl
theorem one_ints(V:World)(z:Int):I_ (V.alloc (.cells #[.int .i64 z] 3)) (.slice (some ⟨V.heap.size,0,none⟩) 1 1) [z]:=by
 refine ⟨_,_,rfl,Nat.le_refl _,by unfold maxLen;omega,.inr ⟨V.heap.size,0,rfl,fun i x hx=>?_⟩⟩
 match i,hx with
 |0,hx=>simp at hx;subst hx;exact box_new V _ _ rfl rfl
set_option maxHeartbeats 4000000 in
set_option maxRecDepth 100000 in
theorem back_scale(l:Ly){xa:Option Addr}{xn xk:Nat}{ya:Option Addr}{yn yk:Nat}(x g:Mx)(vx vg:Value)(w:World)(R C:Nat)(gx:Good x R C)(gg:Good g R C)(gw:Good l.w 1 1)(hs:I_ w (.slice xa xn xk) l.w.cells)(hx:M_ w vx x)(hg:M_ w vg g):
  Calls Tryz.prog 169 #[.agg #[.int .i64 l.w.rows,.int .i64 l.w.cols,.slice xa xn xk,.int .i64 l.b.rows,.int .i64 l.b.cols,.slice ya yn yk],vx,vg] w (BackErr w (timesX g (A_ l.w 0)) ⟨1,1,[sumP x g x.cells.length]⟩ noMx 0):=by
 obtain ⟨sx,rfl,hsx⟩:=hx
 obtain ⟨sg,rfl,hsg⟩:=hg
 obtain ⟨za,zn,zk,rfl⟩:=hsx.shape
 obtain ⟨ga,gn,gk,rfl⟩:=hsg.shape
 obtain ⟨wr,e1⟩:=gN (l.w.rows)
 obtain ⟨wc,e2⟩:=gN (l.w.cols)
 obtain ⟨br,e3⟩:=gN (l.b.rows)
 obtain ⟨bc,e4⟩:=gN (l.b.cols)
 obtain ⟨r,e5⟩:=gN (x.rows)
 obtain ⟨c,e6⟩:=gN (x.cols)
 obtain ⟨r',e7⟩:=gN (g.rows)
 obtain ⟨c',e8⟩:=gN (g.cols)
 obtain ⟨y,hy⟩:=gN (A_ l.w 0)
 have HT:=h_ (fun W (h:Below w.heap.size w W)=>mtimes_any _ g y W ⟨_,rfl,hsg.u_ h⟩)
 have HE:=h_ (show timesE g=0 by unfold timesE;rw[if_neg (by simp[gg.fault])])
 obtain ⟨t,ht⟩:=gN (timesX g y)
 obtain ⟨N,eN⟩:=gN (x.cells.length)
 have hN:N≤576:=by rw[←eN];have:=gx.l;have:=Nat.mul_le_mul gx.hR gx.hC;omega
 have egN:g.cells.length=N:=by rw[←eN,gx.l,gg.l]
 rw[hy,ht,eN]
 rw[ht,HE.out,e7,e8]at HT
 have hw0:l.w.cells[0]?=some y:=by rw[←hy];unfold A_;rw[List.getElem?_eq_getElem (by have:=gw.l;omega)];rfl
 have hwl:=gw.l
 obtain ⟨aa,cap,esv,h2,h3,h4⟩:=hs
 injection esv with q1 q2 q3
 obtain ⟨b,off,rfl,hcl⟩:=h4.resolve_left (fun e=>by rw[e]at hw0;simp at hw0)
 have h0:w.cell? ⟨b,off,none⟩=some (.int .i64 y):=hcl 0 y hw0
 have q2':xn=1:=by omega
 subst q1 q2'
 have HBL:=h_ (World.block_lt_of_cell? w _ h0)
 have HSX:=h_ hsx
 have HSG:=h_ hsg
 have hzn:N=zn:=by obtain ⟨_,_,e,_⟩:=hsx;injection e with _ e _;omega
 have hgn:N=gn:=by obtain ⟨_,_,e,_⟩:=hsg;injection e with _ e _;omega
 subst hzn hgn
 rw[e1,e2,e3,e4,e5,e6,e7,e8]
 obtain ⟨V,hV⟩:=gM ((((((w.alloc (.cells #[.int .i64 wr,.int .i64 wc,.slice (some ⟨b,off,none⟩) 1 xk,.int .i64 br,.int .i64 bc,.slice ya yn yk] 206)).alloc (.cells #[.int .i64 r,.int .i64 c,.slice za N zk] 28)).alloc (.cells #[.int .i64 r',.int .i64 c',.slice ga N gk] 28)).alloc (.cells #[.int .i64 0,.int .i64 0,.slice none 0 0] 28)).alloc (.cells #[.int .i64 0,.int .i64 0,.slice none 0 0,.int .i64 0,.int .i64 0,.slice none 0 0] 109)))
 have HV:=h_ hV
 have HBW:Hid (Below w.heap.size w V):=by rw[hV];exact h_ (b_ (b_ (b_ (b_ (o_ _ _) (o_ _ _)) (o_ _ _)) (o_ _ _)) (o_ _ _))
 have HBK:Hid (Box V w.heap.size [.int .i64 wr,.int .i64 wc,.slice (some ⟨b,off,none⟩) 1 xk,.int .i64 br,.int .i64 bc,.slice ya yn yk]):=by rw[hV];exact h_ (((((Box.new w [.int .i64 wr,.int .i64 wc,.slice (some ⟨b,off,none⟩) 1 xk,.int .i64 br,.int .i64 bc,.slice ya yn yk] 206 rfl).u_ (o_ _ _)).u_ (o_ _ _)).u_ (o_ _ _)).u_ (o_ _ _))
 have HBX:Hid (Box V (w.heap.size+1) [.int .i64 r,.int .i64 c,.slice za N zk]):=by rw[hV];exact h_ ((((Box.new _ [.int .i64 r,.int .i64 c,.slice za N zk] 28 (by simp)).u_ (o_ _ _)).u_ (o_ _ _)).u_ (o_ _ _))
 have HBG:Hid (Box V (w.heap.size+1+1) [.int .i64 r',.int .i64 c',.slice ga N gk]):=by rw[hV];exact h_ (((Box.new _ [.int .i64 r',.int .i64 c',.slice ga N gk] 28 (by simp)).u_ (o_ _ _)).u_ (o_ _ _))
 have HQ:Hid (Box V (w.heap.size+1+1+1) [.int .i64 0,.int .i64 0,.slice none 0 0]):=by rw[hV];exact h_ ((Box.new _ [.int .i64 0,.int .i64 0,.slice none 0 0] 28 (by simp)).u_ (o_ _ _))
 have HFR:Hid (Free V (w.heap.size+1+1+1)):=by rw[hV];exact h_ ((Free.new _ _ 28 (by simp)).u_ (o_ _ _) (by simp))
 have HP:Hid (Box V (w.heap.size+1+1+1+1) [.int .i64 0,.int .i64 0,.slice none 0 0,.int .i64 0,.int .i64 0,.slice none 0 0]):=by rw[hV];exact h_ (Box.new _ [.int .i64 0,.int .i64 0,.slice none 0 0,.int .i64 0,.int .i64 0,.slice none 0 0] 109 (by simp))
 have HFP:Hid (Free V (w.heap.size+1+1+1+1)):=by rw[hV];exact h_ (Free.new _ _ 109 (by simp))
 have HL:=h_ HQ.out.lt
 have HM2:=h_ HP.out.lt
 clear hV
 have g0:=c_ HBW.out h0
 have HBD:=h_ (show Below w.heap.size w V.drew from ⟨HBW.out.os,HBW.out.tape,HBW.out.output,HBW.out.size,HBW.out.block⟩)
 have HEN:=h_ (And.intro eN egN)
 clear hsx hsg e1 e2 e3 e4 e5 e6 e7 e8 ht hy gx gg gw hw0 hwl h2 h3 h4 hcl h0 q2 q3 eN egN
 have d2:=HBK.out 2 _ rfl
 obtain ⟨y0,y1,y2⟩:=HBG.out.c3
 go_enter Tryz.func169,Tryz.ntmps169
 go_wp2
 rw[←HV.out]
 have hv0:¬w.heap.size=V.heap.size:=by have:=HM2.out;omega
 have hv1:¬w.heap.size+1+1=V.heap.size:=by have:=HM2.out;omega
 have hvb:¬b=V.heap.size:=by have:=HM2.out;have:=HBL.out;omega
 have HBE:=h_ (r_ (b_ HBW.out (o_ V (.cells #[.int .i64 0,.int .i64 0,.slice none 0 0] 28))))
 go_region_held3 (fun W'=>W'.cell? ⟨w.heap.size+1+1,0,none⟩=some (.int .i64 r')∧W'.cell? ⟨w.heap.size+1+1,1,none⟩=some (.int .i64 c')∧W'.cell? ⟨w.heap.size+1+1,2,none⟩=some (.slice ga N gk)∧W'.cell? ⟨w.heap.size,2,none⟩=some (.slice (some ⟨b,off,none⟩) 1 xk)∧W'.cell? ⟨b,off,none⟩=some (.int .i64 y)) ((first|go_keep|(refine ⟨?_,?_,?_,?_,?_⟩<;>first|assumption|go_keep)))
  (first
   |(go_at_call 172;refine (HT.out _ HBE.out).mono ?_;rintro e w2 ⟨v',rfl,hm,hb2,hf⟩;obtain ⟨s',rfl,hs'⟩:=hm;obtain ⟨ta,tn,tk,rfl⟩:=hs'.shape;rw[e_ rfl];have HN:=h_ (show M_ w2 (.agg #[.int .i64 t.rows,.int .i64 t.cols,.slice ta tn tk]) t from ⟨_,rfl,hs'⟩);have hc2:=b_ (r_ (Below.refl _ (V.alloc (.cells #[.int .i64 0,.int .i64 0,.slice none 0 0] 28)))) hb2;have HB2:=h_ (b_ (o_ V (.cells #[.int .i64 0,.int .i64 0,.slice none 0 0] 28)) hc2);have HTF:=h_ (show F_ V.heap.size (.agg #[.int .i64 t.rows,.int .i64 t.cols,.slice ta tn tk]) from f_ hf (o_ V (.cells #[.int .i64 0,.int .i64 0,.slice none 0 0] 28)).size);have HTG:=h_ (show F_ (V.heap.size+1) (.agg #[.int .i64 t.rows,.int .i64 t.cols,.slice ta tn tk]) from f_ hf (Nat.le_of_eq (World.size_alloc V (.cells #[.int .i64 0,.int .i64 0,.slice none 0 0] 28)).symm));have HZB:=h_ ((Box.new V [.int .i64 0,.int .i64 0,.slice none 0 0] 28 rfl).u_ hc2);have HZF:=h_ ((Free.new V #[.int .i64 0,.int .i64 0,.slice none 0 0] 28 rfl).u_ hc2 (Nat.lt_of_lt_of_eq (Nat.lt_succ_self _) (World.size_alloc _ _).symm));clear hc2;have z0:=HZB.out 0 _ rfl;have z1:=HZB.out 1 _ rfl;have z2:=HZB.out 2 _ rfl;have z3:=HZF.out 0;have z4:=HZF.out 1;have z5:=HZF.out 2;have i0:=c_ HB2.out y0;have i1:=c_ HB2.out y1;have i2:=c_ HB2.out y2;have i3:=c_ HB2.out d2;have i4:=c_ HB2.out g0;have j0:=s_ i0 (B:=V.heap.size) hv1 (.int .i64 t.rows) (.int .i64 t.cols) (.slice ta tn tk);have j1:=s_ i1 (B:=V.heap.size) hv1 (.int .i64 t.rows) (.int .i64 t.cols) (.slice ta tn tk);have j2:=s_ i2 (B:=V.heap.size) hv1 (.int .i64 t.rows) (.int .i64 t.cols) (.slice ta tn tk);have j3:=s_ i3 (B:=V.heap.size) hv0 (.int .i64 t.rows) (.int .i64 t.cols) (.slice ta tn tk);have j4:=s_ i4 (B:=V.heap.size) hvb (.int .i64 t.rows) (.int .i64 t.cols) (.slice ta tn tk);clear hb2 hs' hf)
   |(go_at_call 172;refine (HT.out _ HBD.out).mono ?_;rintro e w2 ⟨v',rfl,hm,hb2,hf⟩;obtain ⟨s',rfl,hs'⟩:=hm;obtain ⟨ta,tn,tk,rfl⟩:=hs'.shape;rw[e_ rfl];have HN:=h_ (show M_ w2 (.agg #[.int .i64 t.rows,.int .i64 t.cols,.slice ta tn tk]) t from ⟨_,rfl,hs'⟩);have HTF:=h_ (show F_ V.heap.size (.agg #[.int .i64 t.rows,.int .i64 t.cols,.slice ta tn tk]) from hf);have HB2:=h_ (show Below V.heap.size V w2 from (show Below V.heap.size V V.drew from ⟨rfl,rfl,rfl,Nat.le_refl _,fun _ _=>rfl⟩).trans hb2);have i0:=c_ HB2.out y0;have i1:=c_ HB2.out y1;have i2:=c_ HB2.out y2;have i3:=c_ HB2.out d2;have i4:=c_ HB2.out g0;have j0:=fun o=>p_ i0 o;have j1:=fun o=>p_ i1 o;have j2:=fun o=>p_ i2 o;have j3:=fun o=>p_ i3 o;have j4:=fun o=>p_ i4 o;clear hb2 hs' hf))
 ·obtain ⟨U,hU⟩:=gM (w2.alloc (.cells #[.int .i64 t.rows,.int .i64 t.cols,.slice ta tn tk] 28))
  rw[←hU]
  have HUB:Hid (Below V.heap.size V U):=by rw[hU];exact h_ (b_ HB2.out (o_ _ _))
  have HTB:Hid (Box U w2.heap.size [.int .i64 t.rows,.int .i64 t.cols,.slice ta tn tk]):=by rw[hU];exact h_ (Box.new w2 _ 28 rfl)
  obtain ⟨d0,d1,d9⟩:=HTB.out.c3
  have HTI:Hid (I_ U (.slice ta tn tk) t.cells):=by rw[hU];exact h_ (HN.out.u_ (o_ _ _)).ints
  clear hU HTB i0 i1 i2 i3 i4 j0 j1 j2 j3 j4 d2 y0 y1 y2 g0 hv0 hv1 hvb HT
  have y2:=(HBG.out.u_ HUB.out) 2 _ rfl
  have x2:=(HBX.out.u_ HUB.out) 2 _ rfl
  have HXX:=h_ (HSX.out.u_ (b_ HBW.out HUB.out))
  have HGG:=h_ (HSG.out.u_ (b_ HBW.out HUB.out))
  go_wp2
  go_loopw [11,33] (fun s a wr=>∃(i:Nat) (xi:Int),i≤N∧xi=(i:Int)∧a=.int .i64 xi∧s=.int .i64 (sumP x g i)∧U=wr) (fun _ a _=>N - (intOf a).toNat)
  case atStart=>exact ⟨0,0,Nat.zero_le _,rfl,rfl,rfl,rfl⟩
  case round=>
   obtain ⟨i,xi,hi,hxi,rfl,rfl,rfl⟩:=hrel
   have HXI:=h_ hxi
   have hxi0:0≤xi:=by omega
   have hxi1:xi≤576:=by omega
   clear hxi
   by_cases hlt:xi<(N:Int)
   ·have hin:i<N:=by have:=HXI.out;omega
    have hxn:xi.toNat=i:=by have:=HXI.out;omega
    obtain ⟨ex,hex⟩:∃e,x.cells[i]?=some e:=⟨x.cells[i]'(by have:=HEN.out.1;omega),List.getElem?_eq_getElem _⟩
    obtain ⟨ey,hey⟩:∃e,g.cells[i]?=some e:=⟨g.cells[i]'(by have:=HEN.out.2;omega),List.getElem?_eq_getElem _⟩
    obtain ⟨ax,cx,esx,_,_,h4x⟩:=HXX.out
    obtain ⟨ag,cg,esg,_,_,h4g⟩:=HGG.out
    injection esx with sx1 sx2 sx3
    injection esg with sg1 sg2 sg3
    clear sx2 sx3 sg2 sg3
    obtain ⟨bx,ox,rfl,hclx⟩:=h4x.resolve_left (fun e=>by rw[e]at hex;simp at hex)
    obtain ⟨bg,og,rfl,hclg⟩:=h4g.resolve_left (fun e=>by rw[e]at hey;simp at hey)
    subst sx1 sg1
    have c0:U.cell? ⟨bx,ox+xi.toNat,none⟩=some (.int .i64 ex):=by rw[hxn];exact hclx i ex hex
    have c1:U.cell? ⟨bg,og+xi.toNat,none⟩=some (.int .i64 ey):=by rw[hxn];exact hclg i ey hey
    have HS:=h_ (sumP_step hex hey)
    clear hclx hclg h4x h4g hex hey hxn
    go_wp2_with (first|(go_at_call 41;refine (mul_any _ _ _).mono ?_;rintro e w' ⟨rfl,rfl⟩)|(go_at_call 40;refine (add_any _ _ _).mono ?_;rintro e w' ⟨rfl,rfl⟩))
    go_roundw
    case rel=>exact ⟨i+1,_,by omega,by have:=HXI.out;omega,rfl,by rw[←HS.out],trivial⟩
    case measure=>have:=HXI.out;simp[intOf];omega
   ·obtain rfl:i=N:=by have:=HXI.out;omega
    obtain ⟨z,hz⟩:=gN (sumP x g i)
    rw[hz]
    have HZ:=h_ hz
    have HD:=h_ (b_ HUB.out (o_ U (.cells #[.int .i64 z] 3)))
    clear hz
    obtain ⟨p0,p1,p2⟩:=(HQ.out.u_ HD.out).c3
    obtain ⟨f0,f1,f2⟩:=(HFR.out.u_ HD.out HL.out).f3
    obtain ⟨q0,q1,q2,q3,q4,q5⟩:=(HP.out.u_ HD.out).c6
    obtain ⟨h0,h1,h2,h3,h4,h5⟩:=(HFP.out.u_ HD.out HM2.out).f6
    go_wp2
    have HA:=above9 (B:=w.heap.size+1+1+1) (C:=w.heap.size+1+1+1+1) HL.out HM2.out (U.alloc (.cells #[.int .i64 z] 3)) (.int .i64 t.rows) (.int .i64 t.cols) (.slice ta tn tk) (.int .i64 1) (.int .i64 1) (.slice (some ⟨U.heap.size,0,none⟩) 1 1) (.int .i64 0) (.int .i64 0) (.slice none 0 0)
    have HOF:F_ V.heap.size (.agg #[.int .i64 1,.int .i64 1,.slice (some ⟨U.heap.size,0,none⟩) 1 1]):=fresh_at HUB.out.size _ _ _
    exact bodyPost_ret (v:=.tuple #[.agg #[.int .i64 t.rows,.int .i64 t.cols,.slice ta tn tk],.agg #[.int .i64 1,.int .i64 1,.slice (some ⟨U.heap.size,0,none⟩) 1 1,.int .i64 0,.int .i64 0,.slice none 0 0],.nilIface]) (by simp[results,Tryz.results169,go_sem,p0,p1,p2,q0,q1,q2,q3,q4,q5]) rfl
     ⟨_,_,rfl,⟨_,rfl,(HTI.out.u_ (o_ _ _)).above HTF.out HA⟩,⟨_,_,rfl,by show I_ _ _ [sumP x g i];rw[HZ.out];exact (one_ints U z).above HOF HA,I_.nil _⟩,below9 (b_ HBW.out HD.out) (B:=w.heap.size+1+1+1) (C:=w.heap.size+1+1+1+1) (by omega) (by omega) _ _ _ _ _ _ _ _ _,f_ HTF.out HBW.out.size,fresh2_of (f_ HOF HBW.out.size) (y_ _ _ _)⟩
 ·obtain ⟨U,hU⟩:=gM ((((w2.setCell ⟨V.heap.size,0,none⟩ (.int .i64 t.rows)).setCell ⟨V.heap.size,1,none⟩ (.int .i64 t.cols)).setCell ⟨V.heap.size,2,none⟩ (.slice ta tn tk)))
  rw[←hU]
  have HUB:Hid (Below V.heap.size V U):=by rw[hU];exact h_ (S_ HB2.out (Nat.le_refl _) _ _ _)
  have hmt:=(Mut.set (w:=w2) (B:=V.heap.size) ⟨⟨z0,z1,z2⟩,HZF.out⟩ t.rows t.cols (.slice ta tn tk)).t
  rw[←hU]at hmt
  obtain ⟨d0,d1,d9⟩:=hmt
  have HTI:Hid (I_ U (.slice ta tn tk) t.cells):=by rw[hU];exact h_ (HN.out.set3 HTG.out (Nat.lt_succ_self _) _ _ _).ints
  clear hU z0 z1 z2 z3 z4 z5 HZB HZF HTG i0 i1 i2 i3 i4 j0 j1 j2 j3 j4 d2 y0 y1 y2 g0 hv0 hv1 hvb HT
  have y2:=(HBG.out.u_ HUB.out) 2 _ rfl
  have x2:=(HBX.out.u_ HUB.out) 2 _ rfl
  have HXX:=h_ (HSX.out.u_ (b_ HBW.out HUB.out))
  have HGG:=h_ (HSG.out.u_ (b_ HBW.out HUB.out))
  go_wp2
  go_loopw [11,33] (fun s a wr=>∃(i:Nat) (xi:Int),i≤N∧xi=(i:Int)∧a=.int .i64 xi∧s=.int .i64 (sumP x g i)∧U=wr) (fun _ a _=>N - (intOf a).toNat)
  case atStart=>exact ⟨0,0,Nat.zero_le _,rfl,rfl,rfl,rfl⟩
  case round=>
   obtain ⟨i,xi,hi,hxi,rfl,rfl,rfl⟩:=hrel
   have HXI:=h_ hxi
   have hxi0:0≤xi:=by omega
   have hxi1:xi≤576:=by omega
   clear hxi
   by_cases hlt:xi<(N:Int)
   ·have hin:i<N:=by have:=HXI.out;omega
    have hxn:xi.toNat=i:=by have:=HXI.out;omega
    obtain ⟨ex,hex⟩:∃e,x.cells[i]?=some e:=⟨x.cells[i]'(by have:=HEN.out.1;omega),List.getElem?_eq_getElem _⟩
    obtain ⟨ey,hey⟩:∃e,g.cells[i]?=some e:=⟨g.cells[i]'(by have:=HEN.out.2;omega),List.getElem?_eq_getElem _⟩
    obtain ⟨ax,cx,esx,_,_,h4x⟩:=HXX.out
    obtain ⟨ag,cg,esg,_,_,h4g⟩:=HGG.out
    injection esx with sx1 sx2 sx3
    injection esg with sg1 sg2 sg3
    clear sx2 sx3 sg2 sg3
    obtain ⟨bx,ox,rfl,hclx⟩:=h4x.resolve_left (fun e=>by rw[e]at hex;simp at hex)
    obtain ⟨bg,og,rfl,hclg⟩:=h4g.resolve_left (fun e=>by rw[e]at hey;simp at hey)
    subst sx1 sg1
    have c0:U.cell? ⟨bx,ox+xi.toNat,none⟩=some (.int .i64 ex):=by rw[hxn];exact hclx i ex hex
    have c1:U.cell? ⟨bg,og+xi.toNat,none⟩=some (.int .i64 ey):=by rw[hxn];exact hclg i ey hey
    have HS:=h_ (sumP_step hex hey)
    clear hclx hclg h4x h4g hex hey hxn
    go_wp2_with (first|(go_at_call 41;refine (mul_any _ _ _).mono ?_;rintro e w' ⟨rfl,rfl⟩)|(go_at_call 40;refine (add_any _ _ _).mono ?_;rintro e w' ⟨rfl,rfl⟩))
    go_roundw
    case rel=>exact ⟨i+1,_,by omega,by have:=HXI.out;omega,rfl,by rw[←HS.out],trivial⟩
    case measure=>have:=HXI.out;simp[intOf];omega
   ·obtain rfl:i=N:=by have:=HXI.out;omega
    obtain ⟨z,hz⟩:=gN (sumP x g i)
    rw[hz]
    have HZ:=h_ hz
    have HD:=h_ (b_ HUB.out (o_ U (.cells #[.int .i64 z] 3)))
    clear hz
    obtain ⟨p0,p1,p2⟩:=(HQ.out.u_ HD.out).c3
    obtain ⟨f0,f1,f2⟩:=(HFR.out.u_ HD.out HL.out).f3
    obtain ⟨q0,q1,q2,q3,q4,q5⟩:=(HP.out.u_ HD.out).c6
    obtain ⟨h0,h1,h2,h3,h4,h5⟩:=(HFP.out.u_ HD.out HM2.out).f6
    go_wp2
    have HA:=above9 (B:=w.heap.size+1+1+1) (C:=w.heap.size+1+1+1+1) HL.out HM2.out (U.alloc (.cells #[.int .i64 z] 3)) (.int .i64 t.rows) (.int .i64 t.cols) (.slice ta tn tk) (.int .i64 1) (.int .i64 1) (.slice (some ⟨U.heap.size,0,none⟩) 1 1) (.int .i64 0) (.int .i64 0) (.slice none 0 0)
    have HOF:F_ V.heap.size (.agg #[.int .i64 1,.int .i64 1,.slice (some ⟨U.heap.size,0,none⟩) 1 1]):=fresh_at HUB.out.size _ _ _
    exact bodyPost_ret (v:=.tuple #[.agg #[.int .i64 t.rows,.int .i64 t.cols,.slice ta tn tk],.agg #[.int .i64 1,.int .i64 1,.slice (some ⟨U.heap.size,0,none⟩) 1 1,.int .i64 0,.int .i64 0,.slice none 0 0],.nilIface]) (by simp[results,Tryz.results169,go_sem,p0,p1,p2,q0,q1,q2,q3,q4,q5]) rfl
     ⟨_,_,rfl,⟨_,rfl,(HTI.out.u_ (o_ _ _)).above HTF.out HA⟩,⟨_,_,rfl,by show I_ _ _ [sumP x g i];rw[HZ.out];exact (one_ints U z).above HOF HA,I_.nil _⟩,below9 (b_ HBW.out HD.out) (B:=w.heap.size+1+1+1) (C:=w.heap.size+1+1+1+1) (by omega) (by omega) _ _ _ _ _ _ _ _ _,f_ HTF.out HBW.out.size,fresh2_of (f_ HOF HBW.out.size) (y_ _ _ _)⟩
theorem goX_no{l:Ly}{x:Mx}(h:goE l x≠0):goX l x=noMx:=by unfold goX;rw[if_neg h]
theorem backX_no{l:Ly}{x g:Mx}(h:backE l x g≠0):backX l x g=noMx∧gradW l x g=noMx∧gradB l x g=noMx:=by unfold backX gradW gradB;rw[if_neg h,if_neg h,if_neg h];exact ⟨rfl,rfl,rfl⟩
theorem wideE_eq(l:Ly)(n:Int)(h:l_ l=0):wideE l n=w0E l n:=by unfold wideE w0E;rw[if_neg (by simp[h])]
theorem wideX_eq(l:Ly)(n:Int)(h:l_ l=0):wideX l n=w0X l n:=by unfold wideX w0X;rw[wideE_eq l n h]
theorem wideE_l{l:Ly}(n:Int)(h:l_ l≠0):wideE l n=l_ l:=by unfold wideE;rw[if_pos h]
theorem wideX_l{l:Ly}(n:Int)(h:l_ l≠0):0=wideX l n:=by unfold wideX;rw[if_neg (by rw[wideE_l n h];exact h)]
theorem backE_go{l:Ly}{x g:Mx}(h:goE l x≠0):backE l x g=goE l x:=by unfold backE;rw[if_pos h]
theorem backE_g{l:Ly}{x g:Mx}(h:goE l x=0)(hg:q_ g≠0):backE l x g=q_ g:=by unfold backE;rw[if_neg (by simp[h]),if_pos hg]
theorem backE_s{l:Ly}{x g:Mx}(h:goE l x=0)(hg:q_ g=0)(hs:¬(g.rows=x.rows∧g.cols=g_ l x.cols)):backE l x g=2:=by
 unfold backE;rw[if_neg (by simp[h]),if_neg (by simp[hg]),if_pos (by omega)]
theorem backE_f{l:Ly}{x g:Mx}(h:goE l x=0)(hg:q_ g=0)(hs:g.rows=x.rows∧g.cols=g_ l x.cols)(hf:l.k=1∧12<x.rows):backE l x g=1:=by
 unfold backE;rw[if_neg (by simp[h]),if_neg (by simp[hg]),if_neg (by omega),if_pos hf]
theorem forth_at_linear(l:Ly){xa:Option Addr}{xn xk:Nat}{ya:Option Addr}{yn yk:Nat}(x:Mx)(vx:Value)(w:World)(hk:l.k=1)(h:goE l x=0)(hs:I_ w (.slice xa xn xk) l.w.cells)(ht:I_ w (.slice ya yn yk) l.b.cells)(hx:M_ w vx x):
  Calls Tryz.prog 148 #[.agg #[.int .i64 l.w.rows,.int .i64 l.w.cols,.slice xa xn xk,.int .i64 l.b.rows,.int .i64 l.b.cols,.slice ya yn yk],vx] w (MxErr w (goX l x) (goE l x)):=by
 obtain ⟨hl,hfx,htk⟩:=goE_zero h
 obtain ⟨R,C,gx⟩:=o__ hfx
 cases lyG_of hl using LyG.el with
 |lin Rw Cw _ gw gb h1 h2 h3=>
  have e:=takes_lin hk htk
  have:=forth_linear l x vx w R Rw Cw (gx.same rfl (by have:=gx.c;have:=gw.r;omega)) gw gb h3 hs ht hx
  rw[show goX l x=addRows (mulX x l.w) l.b by unfold goX goG;rw[if_pos h,if_pos hk],h]
  exact this
 |relu hk' _ _=>omega
 |scale hk' _ _=>omega
 |shift _ hk' _ _ _=>omega
theorem back_at_linear(l:Ly){xa:Option Addr}{xn xk:Nat}{ya:Option Addr}{yn yk:Nat}(x g:Mx)(vx vg:Value)(w:World)(hk:l.k=1)(h:goE l x=0)(hfg:q_ g=0)(hsh:g.rows=x.rows∧g.cols=g_ l x.cols)(hs:I_ w (.slice xa xn xk) l.w.cells)(hx:M_ w vx x)(hg:M_ w vg g):
  Calls Tryz.prog 146 #[.agg #[.int .i64 l.w.rows,.int .i64 l.w.cols,.slice xa xn xk,.int .i64 l.b.rows,.int .i64 l.b.cols,.slice ya yn yk],vx,vg] w (BackErr w (backX l x g) (gradW l x g) (gradB l x g) (backE l x g)):=by
 obtain ⟨hl,hfx,htk⟩:=goE_zero h
 obtain ⟨R,C,gx⟩:=o__ hfx
 obtain ⟨Rg,Cg,gg⟩:=o__ hfg
 cases lyG_of hl using LyG.el with
 |lin Rw Cw _ gw gb h1 h2 h3=>
  have e:=takes_lin hk htk
  have ec:g_ l x.cols=l.w.cols:=by unfold g_;rw[if_pos hk]
  have gx':=gx.same (R':=R) (C':=Rw) rfl (by have:=gx.c;have:=gw.r;omega)
  have gg':=gg.same (R':=R) (C':=Cw) (by have:=gg.r;have:=gx.r;have:=hsh.1;omega) (by have:=gg.c;have:=gw.c;have:=hsh.2;omega)
  by_cases hR:R≤12
  ·have hE:backE l x g=0:=backE_of h hfg hsh.1 hsh.2 (by have:=gx.r;omega)
   rw[show backX l x g=mulX g (turnX l.w) by unfold backX backG;rw[if_pos hE,if_pos hk],show gradW l x g=mulX (turnX x) g by unfold gradW;rw[if_pos hE,if_pos hk],show gradB l x g=sumsX g by unfold gradB;rw[if_pos hE,if_pos (.inl hk)],hE]
   exact back_linear l x g vx vg w R Rw Cw gx' gw gg' h2 hR hs hx hg
  ·have hE:backE l x g=1:=backE_f h hfg hsh ⟨hk,by have:=gx.r;omega⟩
   obtain ⟨n1,n2,n3⟩:=backX_no (show backE l x g≠0 by rw[hE];decide)
   rw[n1,n2,n3,hE]
   exact back_linear_far l x g vx vg w R Rw Cw gx' gw gg' h2 (by omega) hs hx hg
 |relu hk' _ _=>omega
 |scale hk' _ _=>omega
 |shift _ hk' _ _ _=>omega
theorem forth_at_relu(l:Ly){xa:Option Addr}{xn xk:Nat}{ya:Option Addr}{yn yk:Nat}(x:Mx)(vx:Value)(w:World)(hk:l.k=2)(h:goE l x=0)(_hs:I_ w (.slice xa xn xk) l.w.cells)(_ht:I_ w (.slice ya yn yk) l.b.cells)(hx:M_ w vx x):
  Calls Tryz.prog 166 #[.agg #[.int .i64 l.w.rows,.int .i64 l.w.cols,.slice xa xn xk,.int .i64 l.b.rows,.int .i64 l.b.cols,.slice ya yn yk],vx] w (MxErr w (goX l x) (goE l x)):=by
 obtain ⟨_,hfx,_⟩:=goE_zero h
 obtain ⟨R,C,gx⟩:=o__ hfx
 rw[show goX l x=reluX x by unfold goX goG;rw[if_pos h,if_neg (by omega),if_pos hk],h]
 exact forth_relu l x vx w R C gx hx
theorem back_at_relu(l:Ly){xa:Option Addr}{xn xk:Nat}{ya:Option Addr}{yn yk:Nat}(x g:Mx)(vx vg:Value)(w:World)(hk:l.k=2)(h:goE l x=0)(hfg:q_ g=0)(hsh:g.rows=x.rows∧g.cols=g_ l x.cols)(_hs:I_ w (.slice xa xn xk) l.w.cells)(hx:M_ w vx x)(hg:M_ w vg g):
  Calls Tryz.prog 164 #[.agg #[.int .i64 l.w.rows,.int .i64 l.w.cols,.slice xa xn xk,.int .i64 l.b.rows,.int .i64 l.b.cols,.slice ya yn yk],vx,vg] w (BackErr w (backX l x g) (gradW l x g) (gradB l x g) (backE l x g)):=by
 obtain ⟨_,hfx,_⟩:=goE_zero h
 obtain ⟨R,C,gx⟩:=o__ hfx
 obtain ⟨Rg,Cg,gg⟩:=o__ hfg
 have ec:g_ l x.cols=x.cols:=by unfold g_;rw[if_neg (by omega)]
 have gg':=gg.same (R':=R) (C':=C) (by have:=gg.r;have:=gx.r;have:=hsh.1;omega) (by have:=gg.c;have:=gx.c;have:=hsh.2;omega)
 have hE:backE l x g=0:=backE_of h hfg hsh.1 hsh.2 (by omega)
 rw[show backX l x g=reluB x g by unfold backX backG;rw[if_pos hE,if_neg (by omega),if_pos hk],show gradW l x g=noMx by unfold gradW;rw[if_pos hE,if_neg (by omega),if_neg (by omega)],show gradB l x g=noMx by unfold gradB;rw[if_pos hE,if_neg (by omega)],hE]
 exact back_relu l x g vx vg w R C gx gg' hx hg
theorem forth_at_scale(l:Ly){xa:Option Addr}{xn xk:Nat}{ya:Option Addr}{yn yk:Nat}(x:Mx)(vx:Value)(w:World)(hk:l.k=3)(h:goE l x=0)(hs:I_ w (.slice xa xn xk) l.w.cells)(_ht:I_ w (.slice ya yn yk) l.b.cells)(hx:M_ w vx x):
  Calls Tryz.prog 171 #[.agg #[.int .i64 l.w.rows,.int .i64 l.w.cols,.slice xa xn xk,.int .i64 l.b.rows,.int .i64 l.b.cols,.slice ya yn yk],vx] w (MxErr w (goX l x) (goE l x)):=by
 obtain ⟨hl,hfx,_⟩:=goE_zero h
 obtain ⟨R,C,gx⟩:=o__ hfx
 cases lyG_of hl using LyG.el with
 |lin _ _ hk' _ _ _ _ _=>omega
 |relu hk' _ _=>omega
 |scale _ gw _=>
  rw[show goX l x=timesX x (A_ l.w 0) by unfold goX goG;rw[if_pos h,if_neg (by omega),if_neg (by omega),if_pos hk],h]
  exact forth_scale l x vx w R C gx gw hs hx
 |shift _ hk' _ _ _=>omega
theorem back_at_scale(l:Ly){xa:Option Addr}{xn xk:Nat}{ya:Option Addr}{yn yk:Nat}(x g:Mx)(vx vg:Value)(w:World)(hk:l.k=3)(h:goE l x=0)(hfg:q_ g=0)(hsh:g.rows=x.rows∧g.cols=g_ l x.cols)(hs:I_ w (.slice xa xn xk) l.w.cells)(hx:M_ w vx x)(hg:M_ w vg g):
  Calls Tryz.prog 169 #[.agg #[.int .i64 l.w.rows,.int .i64 l.w.cols,.slice xa xn xk,.int .i64 l.b.rows,.int .i64 l.b.cols,.slice ya yn yk],vx,vg] w (BackErr w (backX l x g) (gradW l x g) (gradB l x g) (backE l x g)):=by
 obtain ⟨hl,hfx,_⟩:=goE_zero h
 obtain ⟨R,C,gx⟩:=o__ hfx
 obtain ⟨Rg,Cg,gg⟩:=o__ hfg
 cases lyG_of hl using LyG.el with
 |lin _ _ hk' _ _ _ _ _=>omega
 |relu hk' _ _=>omega
 |scale _ gw _=>
  have ec:g_ l x.cols=x.cols:=by unfold g_;rw[if_neg (by omega)]
  have gg':=gg.same (R':=R) (C':=C) (by have:=gg.r;have:=gx.r;have:=hsh.1;omega) (by have:=gg.c;have:=gx.c;have:=hsh.2;omega)
  have hE:backE l x g=0:=backE_of h hfg hsh.1 hsh.2 (by omega)
  rw[show backX l x g=timesX g (A_ l.w 0) by unfold backX backG;rw[if_pos hE,if_neg (by omega),if_neg (by omega),if_pos hk],show gradW l x g=⟨1,1,[sumP x g x.cells.length]⟩ by unfold gradW;rw[if_pos hE,if_neg (by omega),if_pos hk],show gradB l x g=noMx by unfold gradB;rw[if_pos hE,if_neg (by omega)],hE]
  exact back_scale l x g vx vg w R C gx gg' gw hs hx hg
 |shift _ hk' _ _ _=>omega
theorem forth_at_shift(l:Ly){xa:Option Addr}{xn xk:Nat}{ya:Option Addr}{yn yk:Nat}(x:Mx)(vx:Value)(w:World)(hk:l.k=4)(h:goE l x=0)(_hs:I_ w (.slice xa xn xk) l.w.cells)(ht:I_ w (.slice ya yn yk) l.b.cells)(hx:M_ w vx x):
  Calls Tryz.prog 176 #[.agg #[.int .i64 l.w.rows,.int .i64 l.w.cols,.slice xa xn xk,.int .i64 l.b.rows,.int .i64 l.b.cols,.slice ya yn yk],vx] w (MxErr w (goX l x) (goE l x)):=by
 obtain ⟨hl,hfx,htk⟩:=goE_zero h
 obtain ⟨R,C,gx⟩:=o__ hfx
 cases lyG_of hl using LyG.el with
 |lin _ _ hk' _ _ _ _ _=>omega
 |relu hk' _ _=>omega
 |scale hk' _ _=>omega
 |shift Cb _ _ gb h1=>
  have e:=takes_shift hk htk
  rw[show goX l x=addRows x l.b by unfold goX goG;rw[if_pos h,if_neg (by omega),if_neg (by omega),if_neg (by omega)],h]
  exact forth_shift l x vx w R C gx (gb.same rfl (by have:=gx.c;have:=gb.c;omega)) (by have:=gx.c;have:=gb.c;omega) ht hx
theorem back_at_shift(l:Ly){xa:Option Addr}{xn xk:Nat}{ya:Option Addr}{yn yk:Nat}(x g:Mx)(vx vg:Value)(w:World)(hk:l.k=4)(h:goE l x=0)(hfg:q_ g=0)(hsh:g.rows=x.rows∧g.cols=g_ l x.cols)(_hs:I_ w (.slice xa xn xk) l.w.cells)(hx:M_ w vx x)(hg:M_ w vg g):
  Calls Tryz.prog 174 #[.agg #[.int .i64 l.w.rows,.int .i64 l.w.cols,.slice xa xn xk,.int .i64 l.b.rows,.int .i64 l.b.cols,.slice ya yn yk],vx,vg] w (BackErr w (backX l x g) (gradW l x g) (gradB l x g) (backE l x g)):=by
 obtain ⟨Rg,Cg,gg⟩:=o__ hfg
 have hE:backE l x g=0:=backE_of h hfg hsh.1 hsh.2 (by omega)
 rw[show backX l x g=eachX g (A_ g) by unfold backX backG;rw[if_pos hE,if_neg (by omega),if_neg (by omega),if_neg (by omega)],show gradW l x g=noMx by unfold gradW;rw[if_pos hE,if_neg (by omega),if_neg (by omega)],show gradB l x g=sumsX g by unfold gradB;rw[if_pos hE,if_pos (.inr hk)],hE]
 exact back_shift l x g vx vg w Rg Cg gg hx hg
end Go.Proofs.YtniloklglpchfakGreat
