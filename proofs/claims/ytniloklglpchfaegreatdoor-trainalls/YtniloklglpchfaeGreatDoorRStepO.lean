/- What StepOf of the document's answer comes to: the new net and the new speed. -/
import Derived.Test.YtniloklglpchfaeGreatDoorRStepP
import Derived.Test.YtniloklglpchfaeGreatDoorPkStpU
import Derived.Test.YtniloklglpchfaeGreatDoorPkReg
namespace Go.Proofs.YtniloklglpchfaeGreatDoor
open Go.RowKit
set_option maxHeartbeats 16000000 in
set_option maxRecDepth 100000 in
theorem rstepof_any(v v1 v2:Value)(ls:List Ly)(ps qs:List (Mx×Mx))(le ke:Int)(w:World)(hv:Y_ w v ls)(hp:D_ w v1 ps)(hq:D_ w v2 qs)(h12:ls.length<=12)(hl1:ps.length=ls.length)(hl2:qs.length=ls.length)(hE:stpE ls ps qs=0):
  Calls Tryz.prog 31 #[v,v1,v2,.agg #[.int .i64 le,.int .i64 ke]] w fun e w'=>∃u t,e=.returned (.tuple #[u,t])/\Owns 0 w.heap.size w' 58 7 u (stpL le ke ls ps qs).length ((stpL le ke ls ps qs).flatMap lyS)/\Owns 0 w.heap.size w' 61 6 t (stpG ke ls ps qs).length ((stpG ke ls ps qs).flatMap gdS)/\Below w.heap.size w w':=by
 obtain ⟨a,cap,rfl,hlc,hcm⟩:=hv.shape
 obtain ⟨a1,cap1,rfl,hlc1,hcm1⟩:=hp.shape
 obtain ⟨a2,cap2,rfl,hlc2,hcm2⟩:=hq.shape
 have HV:=h_ hv
 have HP:=h_ hp
 have HQ:=h_ hq
 obtain ⟨N,hN⟩:=gN (ls.length)
 rw[hN]at hl1 hl2 h12
 have HN:=h_ (And.intro hN (And.intro hl1 hl2))
 have HE:=h_ hE
 rw[hN]at HV ⊢
 rw[hl1]at HP ⊢
 rw[hl2]at HQ ⊢
 clear hv hp hq hE hlc hcm hlc1 hcm1 hlc2 hcm2 hN hl1 hl2
 obtain ⟨V,hV⟩:=gM (w.alloc (.cells #[.int .i64 le,.int .i64 ke] 32))
 have HVV:=h_ hV
 have HWV:Hid (Below w.heap.size w V):=by rw[hV];exact h_ (o_ _ _)
 have HRB:Hid (Box V w.heap.size [.int .i64 le,.int .i64 ke]):=by rw[hV];exact h_ (Box.new w _ 32 rfl)
 have HVS:Hid (V.heap.size=w.heap.size+1):=by rw[hV];exact h_ (by simp)
 obtain ⟨e0,ei,hz0,hz1,hz2⟩:=info_parts infoLy2
 have HEI:=h_ (And.intro ei (And.intro hz0 (And.intro hz1 hz2)))
 obtain ⟨d0,di,hw0,hw1,hw2⟩:=info_parts infoGd
 have HDI:=h_ (And.intro di (And.intro hw0 (And.intro hw1 hw2)))
 clear hV ei hz0 hz1 hz2 di hw0 hw1 hw2
 go_enter Tryz.func31,Tryz.ntmps31
 go_wp2
 rw[<-HVV.out]
 go_loopw [10,11,12] (fun o t c wr=>∃(i:Nat) (xi:Int) (L:List Ly) (D:List (Mx×Mx)),i<=N/\xi=(i:Int)/\c=.int .i64 xi/\L.length=i/\D.length=i/\L++stpL le ke (ls.drop i) (ps.drop i) (qs.drop i)=stpL le ke ls ps qs/\D++stpG ke (ls.drop i) (ps.drop i) (qs.drop i)=stpG ke ls ps qs/\stpE (ls.drop i) (ps.drop i) (qs.drop i)=0/\
  OwnsX (fun b=>t.ownBlock=some b\/b<w.heap.size) (w.heap.size+1) wr 58 7 o i (L.flatMap lyS)/\OwnsX (fun b=>o.ownBlock=some b\/b<w.heap.size) (w.heap.size+1) wr 61 6 t i (D.flatMap gdS)/\(∀b,o.ownBlock=some b->t.ownBlock≠some b)/\Box wr w.heap.size [.int .i64 le,.int .i64 ke]/\Below w.heap.size w wr) (fun _ _ c _=>N - (intOf c).toNat)
 case atStart=>exact ⟨0,0,[],[],Nat.zero_le _,rfl,rfl,rfl,rfl,rfl,rfl,HE.out,OwnsX.nil _ _ _ _ _,OwnsX.nil _ _ _ _ _,(fun b h=>by simp[Value.ownBlock]at h),HRB.out,HWV.out⟩
 case round=>
  obtain ⟨i,xi,L,D,hi,hxi,rfl,hL,hD,hpl,hpd,he,ho1,ho2,hne,hrb,hb⟩:=hrel
  obtain ⟨o10,ho10⟩:=gM (u10)
  subst ho10
  obtain ⟨t11,ht11⟩:=gM (u11)
  subst ht11
  have HXI:=h_ hxi
  have HLD:=h_ (And.intro hL (And.intro hD (And.intro hpl (And.intro hpd he))))
  have HO1:=h_ ho1
  have HO2:=h_ ho2
  have HNE:=h_ hne
  have HR:=h_ hrb
  have HB:=h_ hb
  have hxi0:0<=xi:=by omega
  have hxi1:xi<=12:=by omega
  clear hxi hL hD hpl hpd he ho1 ho2 hne hrb hb
  by_cases hlt:xi<(N:Int)
  ·have hin:i<N:=by have:=HXI.out;omega
   have hxn:xi.toNat=i:=by have:=HXI.out;omega
   obtain ⟨l,hl⟩:∃x,ls[i]?=some x:=⟨ls[i]'(by have:=HN.out.1;omega),List.getElem?_eq_getElem _⟩
   obtain ⟨p,hp⟩:∃x,ps[i]?=some x:=⟨ps[i]'(by have:=HN.out.2.1;omega),List.getElem?_eq_getElem _⟩
   obtain ⟨q,hq⟩:∃x,qs[i]?=some x:=⟨qs[i]'(by have:=HN.out.2.2;omega),List.getElem?_eq_getElem _⟩
   obtain ⟨b,off,cp,sa,sn,sk,ta,tn,tk,ev,k0,k1,k2,k3,k4,k5,k6,hly⟩:=HV.out.at hl
   injection ev with ev1 ev2 ev3
   clear ev2 ev3
   subst ev1
   obtain ⟨b1,off1,cp1,pa,pn,pk,qa,qn,qk,ev,y0,y1,y2,y3,y4,y5,hpw,hpb⟩:=HP.out.at hp
   injection ev with ev1 ev2 ev3
   clear ev2 ev3
   subst ev1
   obtain ⟨b2,off2,cp2,xa,xn,xk,ya,yn,yk,ev,z0,z1,z2,z3,z4,z5,hqw,hqb⟩:=HQ.out.at hq
   injection ev with ev1 ev2 ev3
   clear ev2 ev3
   subst ev1
   rw[<-hxn]at k0 k1 k2 k3 k4 k5 k6 y0 y1 y2 y3 y4 y5 z0 z1 z2 z3 z4 z5
   have HK:=h_ (fun W (h:Below w.heap.size w W)=>And.intro (c_ h k0) (And.intro (c_ h k1) (And.intro (c_ h k2) (And.intro (c_ h k3) (And.intro (c_ h k4) (And.intro (c_ h k5) (And.intro (c_ h k6) (And.intro (c_ h y0) (And.intro (c_ h y1) (And.intro (c_ h y2) (And.intro (c_ h y3) (And.intro (c_ h y4) (And.intro (c_ h y5) (And.intro (c_ h z0) (And.intro (c_ h z1) (And.intro (c_ h z2) (And.intro (c_ h z3) (And.intro (c_ h z4) (c_ h z5)))))))))))))))))))
   have HI:=h_ (And.intro (Y_.ints hly) (And.intro (And.intro hpw hpb) (And.intro hqw hqb)))
   obtain ⟨hL,hD,hpl,hpd,he⟩:=HLD.out
   rw[drop_at hl,drop_at hp,drop_at hq]at hpl hpd he
   have h1E:stp1E l p q=0:=by
    have h':(if stp1E l p q≠0 then stp1E l p q else stpE (ls.drop (i+1)) (ps.drop (i+1)) (qs.drop (i+1)))=0:=he
    by_cases h0:stp1E l p q=0
    ·exact h0
    ·rw[if_pos h0]at h';exact h'
   have hrE:stpE (ls.drop (i+1)) (ps.drop (i+1)) (qs.drop (i+1))=0:=by
    have h':(if stp1E l p q≠0 then stp1E l p q else stpE (ls.drop (i+1)) (ps.drop (i+1)) (qs.drop (i+1)))=0:=he
    rw[if_neg (by simp[h1E])]at h';exact h'
   obtain ⟨⟨R1,C1,gw,gp,gq⟩,⟨R2,C2,gb,gp2,gq2⟩⟩:=stp1_sizes h1E
   obtain ⟨s1,es1⟩:=gN (spdX p.1 q.1 ke)
   obtain ⟨s2,es2⟩:=gN (spdX p.2 q.2 ke)
   obtain ⟨n1,en1⟩:=gN (newX l.w s1 le)
   obtain ⟨n2,en2⟩:=gN (newX l.b s2 le)
   have HNR:=h_ (show n1.rows=l.w.rows/\n1.cols=l.w.cols/\n2.rows=l.b.rows/\n2.cols=l.b.cols from ⟨by rw[<-en1];rfl,by rw[<-en1];rfl,by rw[<-en2];rfl,by rw[<-en2];rfl⟩)
   have HS1:=h_ (show (L++[⟨l.k,n1,n2⟩])++stpL le ke (ls.drop (i+1)) (ps.drop (i+1)) (qs.drop (i+1))=stpL le ke ls ps qs by
    rw[<-hpl];show _=L++(stp1L l p q le ke::_);unfold stp1L;rw[es1,es2,en1,en2];simp)
   have HS2:=h_ (show (D++[(s1,s2)])++stpG ke (ls.drop (i+1)) (ps.drop (i+1)) (qs.drop (i+1))=stpG ke ls ps qs by
    rw[<-hpd];show _=D++(stp1G p q ke::_);unfold stp1G;rw[es1,es2];simp)
   have HRE:=h_ hrE
   have HLL:=h_ (And.intro hL hD)
   have HT:=h_ (fun W (h:Below wr.heap.size wr W)=>rsteppart_any l.w p.1 q.1 R1 C1 le ke sa sn sk pa pn pk xa xn xk W gw gp gq (HI.out.1.1.u_ (b_ HB.out h)) (HI.out.2.1.1.u_ (b_ HB.out h)) (HI.out.2.2.1.u_ (b_ HB.out h)))
   rw[es1,en1]at HT
   have HTB:=h_ (fun W (h:Below w.heap.size w W)=>rsteppart_any l.b p.2 q.2 R2 C2 le ke ta tn tk qa qn qk ya yn yk W gb gp2 gq2 (HI.out.1.2.u_ h) (HI.out.2.1.2.u_ h) (HI.out.2.2.2.u_ h))
   rw[es2,en2]at HTB
   have HSB:Hid (∀W',Below wr.heap.size wr W'->(fun W'=>W'.cell? ⟨b,off+xi.toNat*7+1,none⟩=some (.int .i64 l.w.rows)/\W'.cell? ⟨b,off+xi.toNat*7+2,none⟩=some (.int .i64 l.w.cols)/\W'.cell? ⟨b,off+xi.toNat*7+3,none⟩=some (.slice sa sn sk)/\W'.cell? ⟨b1,off1+xi.toNat*6,none⟩=some (.int .i64 p.1.rows)/\W'.cell? ⟨b1,off1+xi.toNat*6+1,none⟩=some (.int .i64 p.1.cols)/\W'.cell? ⟨b1,off1+xi.toNat*6+2,none⟩=some (.slice pa pn pk)/\W'.cell? ⟨b2,off2+xi.toNat*6,none⟩=some (.int .i64 q.1.rows)/\W'.cell? ⟨b2,off2+xi.toNat*6+1,none⟩=some (.int .i64 q.1.cols)/\W'.cell? ⟨b2,off2+xi.toNat*6+2,none⟩=some (.slice xa xn xk)/\W'.cell? ⟨w.heap.size,0,none⟩=some (.int .i64 le)/\W'.cell? ⟨w.heap.size,1,none⟩=some (.int .i64 ke)) W'):=h_ (fun W' h=>by
    obtain ⟨k0,k1,k2,k3,k4,k5,k6,y0,y1,y2,y3,y4,y5,z0,z1,z2,z3,z4,z5⟩:=HK.out W' (b_ HB.out h)
    exact ⟨k1,k2,k3,y0,y1,y2,z0,z1,z2,(HR.out.u_ h) 0 _ rfl,(HR.out.u_ h) 1 _ rfl⟩)
   clear k0 k1 k2 k3 k4 k5 k6 y0 y1 y2 y3 y4 y5 z0 z1 z2 z3 z4 z5 hly hpw hpb hqw hqb hl hp hq hxn hL hD hpl hpd he h1E hrE gw gp gq gb gp2 gq2 es1 es2 en1 en2 HLD
   have HT12z:=h_ (HT.out ((wr.alloc (.cells #[.int .i64 0,.int .i64 0,.slice none 0 0] 28)).alloc (.cells #[.int .i64 0,.int .i64 0,.slice none 0 0] 28)).drew (d_ (a_ (a_ (Below.refl wr.heap.size wr)))))
   have HT1z:=h_ (HT.out (wr.alloc (.cells #[.int .i64 0,.int .i64 0,.slice none 0 0] 28)).drew (d_ (a_ (Below.refl wr.heap.size wr))))
   have HTz:=h_ (HT.out wr.drew (d_ (Below.refl wr.heap.size wr)))
   obtain ⟨lm0,lm1,lm2,lm3,lm4,lm5,lm6,lm7,lm8,lm9,lm10⟩:=HSB.out wr (Below.refl _ _)
   go_wp2
   go_cut [13,14] from 23 to 42 (fun a1 a2 wx=>∃(B1 B2:Nat) (ja:Option Addr) (jn jk:Nat) (ga:Option Addr) (gn gk:Nat),a1=.pointer (some ⟨B1,0,none⟩)/\a2=.pointer (some ⟨B2,0,none⟩)/\I_ wx (.slice ja jn jk) n1.cells/\I_ wx (.slice ga gn gk) s1.cells/\Cells3 wx B1 (.int .i64 l.w.rows) (.int .i64 l.w.cols) (.slice ja jn jk)/\Cells3 wx B2 (.int .i64 s1.rows) (.int .i64 s1.cols) (.slice ga gn gk)/\wr.heap.size<=B1/\wr.heap.size<=B2/\F_ wr.heap.size (.agg #[.int .i64 l.w.rows,.int .i64 l.w.cols,.slice ja jn jk])/\F_ wr.heap.size (.agg #[.int .i64 s1.rows,.int .i64 s1.cols,.slice ga gn gk])/\Below wr.heap.size wr wx)
   case first=>
    go_region_held3 (fun W'=>W'.cell? ⟨b,off+xi.toNat*7+1,none⟩=some (.int .i64 l.w.rows)/\W'.cell? ⟨b,off+xi.toNat*7+2,none⟩=some (.int .i64 l.w.cols)/\W'.cell? ⟨b,off+xi.toNat*7+3,none⟩=some (.slice sa sn sk)/\W'.cell? ⟨b1,off1+xi.toNat*6,none⟩=some (.int .i64 p.1.rows)/\W'.cell? ⟨b1,off1+xi.toNat*6+1,none⟩=some (.int .i64 p.1.cols)/\W'.cell? ⟨b1,off1+xi.toNat*6+2,none⟩=some (.slice pa pn pk)/\W'.cell? ⟨b2,off2+xi.toNat*6,none⟩=some (.int .i64 q.1.rows)/\W'.cell? ⟨b2,off2+xi.toNat*6+1,none⟩=some (.int .i64 q.1.cols)/\W'.cell? ⟨b2,off2+xi.toNat*6+2,none⟩=some (.slice xa xn xk)/\W'.cell? ⟨w.heap.size,0,none⟩=some (.int .i64 le)/\W'.cell? ⟨w.heap.size,1,none⟩=some (.int .i64 ke)) ((refine HSB.out _ ?_;repeat' (first|with_reducible exact Below.refl _ _|with_reducible exact HB2.out|with_reducible refine d_ ?_|with_reducible refine a_ ?_|with_reducible refine t_ ?_ ?_|exact Nat.le_refl _|exact Nat.le_succ _|exact HB2.out.size|exact Nat.le_succ_of_le HB2.out.size)))
     (first
      |(go_at_call 63;guard_target=Calls _ _ _ (World.drew (World.alloc (World.alloc wr (Obj.cells #[_,_,_] _)) (Obj.cells #[_,_,_] _))) _;refine HT12z.out.mono ?_;intro e wz h;obtain ⟨s',t',rfl,hs1,hs2,hb2,hf1,hf2⟩:=id h;obtain ⟨ja,jn,jk,rfl⟩:=hs1.shape;obtain ⟨ga,gn,gk,rfl⟩:=hs2.shape;have hc2:=b_ (r_ (Below.refl _ ((wr.alloc (.cells #[.int .i64 0,.int .i64 0,.slice none 0 0] 28)).alloc (.cells #[.int .i64 0,.int .i64 0,.slice none 0 0] 28)))) hb2;have HB2:=h_ (show Below wr.heap.size wr wz from (b_ (o_ wr (.cells #[.int .i64 0,.int .i64 0,.slice none 0 0] 28)) (b_ (o_ (wr.alloc (.cells #[.int .i64 0,.int .i64 0,.slice none 0 0] 28)) (.cells #[.int .i64 0,.int .i64 0,.slice none 0 0] 28)) hc2)));have ZB0:=h_ ((Box.new wr [.int .i64 0,.int .i64 0,.slice none 0 0] 28 (B:=wr.heap.size) rfl).u_ (b_ (o_ (wr.alloc (.cells #[.int .i64 0,.int .i64 0,.slice none 0 0] 28)) (.cells #[.int .i64 0,.int .i64 0,.slice none 0 0] 28)) hc2));have ZL0:=h_ (Box.new wr [.int .i64 0,.int .i64 0,.slice none 0 0] 28 (B:=wr.heap.size) rfl).lt;have ZF0:=h_ ((Free.new wr #[.int .i64 0,.int .i64 0,.slice none 0 0] 28 (B:=wr.heap.size) rfl).u_ (b_ (o_ (wr.alloc (.cells #[.int .i64 0,.int .i64 0,.slice none 0 0] 28)) (.cells #[.int .i64 0,.int .i64 0,.slice none 0 0] 28)) hc2) ZL0.out);obtain ⟨z00,z01,z02⟩:=ZB0.out.c3;obtain ⟨f00,f01,f02⟩:=ZF0.out.f3;have lt0:=ZB0.out.lt;have ne0:¬wr.heap.size=wz.heap.size:=Nat.ne_of_lt lt0;have en0:¬wz.heap.size=wr.heap.size:=(Nat.ne_of_lt lt0).symm;have ZB1:=h_ ((Box.new (wr.alloc (.cells #[.int .i64 0,.int .i64 0,.slice none 0 0] 28)) [.int .i64 0,.int .i64 0,.slice none 0 0] 28 (B:=wr.heap.size+1) (World.size_alloc _ _)).u_ hc2);have ZL1:=h_ (Box.new (wr.alloc (.cells #[.int .i64 0,.int .i64 0,.slice none 0 0] 28)) [.int .i64 0,.int .i64 0,.slice none 0 0] 28 (B:=wr.heap.size+1) (World.size_alloc _ _)).lt;have ZF1:=h_ ((Free.new (wr.alloc (.cells #[.int .i64 0,.int .i64 0,.slice none 0 0] 28)) #[.int .i64 0,.int .i64 0,.slice none 0 0] 28 (B:=wr.heap.size+1) (World.size_alloc _ _)).u_ hc2 ZL1.out);obtain ⟨z10,z11,z12⟩:=ZB1.out.c3;obtain ⟨f10,f11,f12⟩:=ZF1.out.f3;have lt1:=ZB1.out.lt;have ne1:¬wr.heap.size+1=wz.heap.size:=Nat.ne_of_lt lt1;have en1:¬wz.heap.size=wr.heap.size+1:=(Nat.ne_of_lt lt1).symm;have sz10:=s_ z10 (B:=wr.heap.size) (Nat.succ_ne_self _) (.int .i64 l.w.rows) (.int .i64 l.w.cols) (.slice ja jn jk);have sz11:=s_ z11 (B:=wr.heap.size) (Nat.succ_ne_self _) (.int .i64 l.w.rows) (.int .i64 l.w.cols) (.slice ja jn jk);have sz12:=s_ z12 (B:=wr.heap.size) (Nat.succ_ne_self _) (.int .i64 l.w.rows) (.int .i64 l.w.cols) (.slice ja jn jk);have sz00:=s_ z00 (B:=wr.heap.size+1) ((Nat.succ_ne_self _).symm) (.int .i64 l.w.rows) (.int .i64 l.w.cols) (.slice ja jn jk);have sz01:=s_ z01 (B:=wr.heap.size+1) ((Nat.succ_ne_self _).symm) (.int .i64 l.w.rows) (.int .i64 l.w.cols) (.slice ja jn jk);have sz02:=s_ z02 (B:=wr.heap.size+1) ((Nat.succ_ne_self _).symm) (.int .i64 l.w.rows) (.int .i64 l.w.cols) (.slice ja jn jk);have ne9:¬wr.heap.size=wr.heap.size+1:=(Nat.succ_ne_self _).symm;have ne8:¬wr.heap.size+1=wr.heap.size:=Nat.succ_ne_self _;have HN0:=h_ (show I_ wz (.slice ja jn jk) n1.cells from hs1);have HF0:=h_ (show F_ (wr.heap.size+2) (.agg #[.int .i64 l.w.rows,.int .i64 l.w.cols,.slice ja jn jk]) from f_ hf1 (szd2 _ _ _));have HG0:=h_ (f_ HF0.out (show wr.heap.size<=wr.heap.size+2 by omega));have HN1:=h_ (show I_ wz (.slice ga gn gk) s1.cells from hs2);have HF1:=h_ (show F_ (wr.heap.size+2) (.agg #[.int .i64 s1.rows,.int .i64 s1.cols,.slice ga gn gk]) from f_ hf2 (szd2 _ _ _));have HG1:=h_ (f_ HF1.out (show wr.heap.size<=wr.heap.size+2 by omega));have HE0:Hid ((Cells3 ((((((wz.setCell ⟨wr.heap.size,0,none⟩ (.int .i64 l.w.rows)).setCell ⟨wr.heap.size,1,none⟩ (.int .i64 l.w.cols)).setCell ⟨wr.heap.size,2,none⟩ (.slice ja jn jk)).setCell ⟨wr.heap.size+1,0,none⟩ (.int .i64 s1.rows)).setCell ⟨wr.heap.size+1,1,none⟩ (.int .i64 s1.cols)).setCell ⟨wr.heap.size+1,2,none⟩ (.slice ga gn gk)) (wr.heap.size) (.int .i64 l.w.rows) (.int .i64 l.w.cols) (.slice ja jn jk))/\(Cells3 ((((((wz.setCell ⟨wr.heap.size,0,none⟩ (.int .i64 l.w.rows)).setCell ⟨wr.heap.size,1,none⟩ (.int .i64 l.w.cols)).setCell ⟨wr.heap.size,2,none⟩ (.slice ja jn jk)).setCell ⟨wr.heap.size+1,0,none⟩ (.int .i64 s1.rows)).setCell ⟨wr.heap.size+1,1,none⟩ (.int .i64 s1.cols)).setCell ⟨wr.heap.size+1,2,none⟩ (.slice ga gn gk)) (wr.heap.size+1) (.int .i64 s1.rows) (.int .i64 s1.cols) (.slice ga gn gk))):=h_ ⟨(c__ (box_set3 (set_three ZB0.out _ _ _) ((Nat.succ_ne_self _).symm) _ _ _)),(c__ (set_three (box_set3 ZB1.out (Nat.succ_ne_self _) _ _ _) _ _ _))⟩;have HE1:Hid ((Cells3 ((((((wz.setCell ⟨wr.heap.size+1,0,none⟩ (.int .i64 l.w.rows)).setCell ⟨wr.heap.size+1,1,none⟩ (.int .i64 l.w.cols)).setCell ⟨wr.heap.size+1,2,none⟩ (.slice ja jn jk)).setCell ⟨wr.heap.size,0,none⟩ (.int .i64 s1.rows)).setCell ⟨wr.heap.size,1,none⟩ (.int .i64 s1.cols)).setCell ⟨wr.heap.size,2,none⟩ (.slice ga gn gk)) (wr.heap.size+1) (.int .i64 l.w.rows) (.int .i64 l.w.cols) (.slice ja jn jk))/\(Cells3 ((((((wz.setCell ⟨wr.heap.size+1,0,none⟩ (.int .i64 l.w.rows)).setCell ⟨wr.heap.size+1,1,none⟩ (.int .i64 l.w.cols)).setCell ⟨wr.heap.size+1,2,none⟩ (.slice ja jn jk)).setCell ⟨wr.heap.size,0,none⟩ (.int .i64 s1.rows)).setCell ⟨wr.heap.size,1,none⟩ (.int .i64 s1.cols)).setCell ⟨wr.heap.size,2,none⟩ (.slice ga gn gk)) (wr.heap.size) (.int .i64 s1.rows) (.int .i64 s1.cols) (.slice ga gn gk))):=h_ ⟨(c__ (box_set3 (set_three ZB1.out _ _ _) (Nat.succ_ne_self _) _ _ _)),(c__ (set_three (box_set3 ZB0.out ((Nat.succ_ne_self _).symm) _ _ _) _ _ _))⟩;have HQ1:=h_ (Nat.le_refl wr.heap.size);have HQ2:=h_ (Nat.le_succ wr.heap.size);have HQ3:=h_ HB2.out.size;have HQ4:=h_ (Nat.le_succ_of_le HB2.out.size);clear h hb2 hc2 hf1 hf2 hs1 hs2)
      |(go_at_call 63;guard_target=Calls _ _ _ (World.drew (World.alloc wr (Obj.cells #[_,_,_] _))) _;refine HT1z.out.mono ?_;intro e wz h;obtain ⟨s',t',rfl,hs1,hs2,hb2,hf1,hf2⟩:=id h;obtain ⟨ja,jn,jk,rfl⟩:=hs1.shape;obtain ⟨ga,gn,gk,rfl⟩:=hs2.shape;have hc2:=b_ (r_ (Below.refl _ (wr.alloc (.cells #[.int .i64 0,.int .i64 0,.slice none 0 0] 28)))) hb2;have HB2:=h_ (show Below wr.heap.size wr wz from (b_ (o_ wr (.cells #[.int .i64 0,.int .i64 0,.slice none 0 0] 28)) hc2));have ZB0:=h_ ((Box.new wr [.int .i64 0,.int .i64 0,.slice none 0 0] 28 (B:=wr.heap.size) rfl).u_ hc2);have ZL0:=h_ (Box.new wr [.int .i64 0,.int .i64 0,.slice none 0 0] 28 (B:=wr.heap.size) rfl).lt;have ZF0:=h_ ((Free.new wr #[.int .i64 0,.int .i64 0,.slice none 0 0] 28 (B:=wr.heap.size) rfl).u_ hc2 ZL0.out);obtain ⟨z00,z01,z02⟩:=ZB0.out.c3;obtain ⟨f00,f01,f02⟩:=ZF0.out.f3;have lt0:=ZB0.out.lt;have ne0:¬wr.heap.size=wz.heap.size:=Nat.ne_of_lt lt0;have en0:¬wz.heap.size=wr.heap.size:=(Nat.ne_of_lt lt0).symm;have yz0:=fun o=>p_ z00 o;have yf0:=fun o=>(World.frozen?_alloc_old wz o ⟨wr.heap.size,0,none⟩ ne0).trans f00;have yz1:=fun o=>p_ z01 o;have yf1:=fun o=>(World.frozen?_alloc_old wz o ⟨wr.heap.size,1,none⟩ ne0).trans f01;have yz2:=fun o=>p_ z02 o;have yf2:=fun o=>(World.frozen?_alloc_old wz o ⟨wr.heap.size,2,none⟩ ne0).trans f02;have HN0:=h_ (show I_ wz (.slice ja jn jk) n1.cells from hs1);have HF0:=h_ (show F_ (wr.heap.size+1) (.agg #[.int .i64 l.w.rows,.int .i64 l.w.cols,.slice ja jn jk]) from f_ hf1 (szd1 _ _));have HG0:=h_ (f_ HF0.out (show wr.heap.size<=wr.heap.size+1 by omega));have HN1:=h_ (show I_ wz (.slice ga gn gk) s1.cells from hs2);have HF1:=h_ (show F_ (wr.heap.size+1) (.agg #[.int .i64 s1.rows,.int .i64 s1.cols,.slice ga gn gk]) from f_ hf2 (szd1 _ _));have HG1:=h_ (f_ HF1.out (show wr.heap.size<=wr.heap.size+1 by omega));have HE0:Hid ((Cells3 ((((wz.setCell ⟨wr.heap.size,0,none⟩ (.int .i64 l.w.rows)).setCell ⟨wr.heap.size,1,none⟩ (.int .i64 l.w.cols)).setCell ⟨wr.heap.size,2,none⟩ (.slice ja jn jk)).alloc (.cells #[.int .i64 s1.rows,.int .i64 s1.cols,.slice ga gn gk] 28)) (wr.heap.size) (.int .i64 l.w.rows) (.int .i64 l.w.cols) (.slice ja jn jk))/\(Cells3 ((((wz.setCell ⟨wr.heap.size,0,none⟩ (.int .i64 l.w.rows)).setCell ⟨wr.heap.size,1,none⟩ (.int .i64 l.w.cols)).setCell ⟨wr.heap.size,2,none⟩ (.slice ja jn jk)).alloc (.cells #[.int .i64 s1.rows,.int .i64 s1.cols,.slice ga gn gk] 28)) (wz.heap.size) (.int .i64 s1.rows) (.int .i64 s1.cols) (.slice ga gn gk))):=h_ ⟨(c__ ((set_three ZB0.out _ _ _).u_ (o_ _ _))),(c__ (Box.new (((wz.setCell ⟨wr.heap.size,0,none⟩ (.int .i64 l.w.rows)).setCell ⟨wr.heap.size,1,none⟩ (.int .i64 l.w.cols)).setCell ⟨wr.heap.size,2,none⟩ (.slice ja jn jk)) [.int .i64 s1.rows,.int .i64 s1.cols,.slice ga gn gk] 28 (size_set3 _ _ _ _ _)))⟩;have HE1:Hid ((Cells3 ((((wz.setCell ⟨wr.heap.size,0,none⟩ (.int .i64 s1.rows)).setCell ⟨wr.heap.size,1,none⟩ (.int .i64 s1.cols)).setCell ⟨wr.heap.size,2,none⟩ (.slice ga gn gk)).alloc (.cells #[.int .i64 l.w.rows,.int .i64 l.w.cols,.slice ja jn jk] 28)) (wz.heap.size) (.int .i64 l.w.rows) (.int .i64 l.w.cols) (.slice ja jn jk))/\(Cells3 ((((wz.setCell ⟨wr.heap.size,0,none⟩ (.int .i64 s1.rows)).setCell ⟨wr.heap.size,1,none⟩ (.int .i64 s1.cols)).setCell ⟨wr.heap.size,2,none⟩ (.slice ga gn gk)).alloc (.cells #[.int .i64 l.w.rows,.int .i64 l.w.cols,.slice ja jn jk] 28)) (wr.heap.size) (.int .i64 s1.rows) (.int .i64 s1.cols) (.slice ga gn gk))):=h_ ⟨(c__ (Box.new (((wz.setCell ⟨wr.heap.size,0,none⟩ (.int .i64 s1.rows)).setCell ⟨wr.heap.size,1,none⟩ (.int .i64 s1.cols)).setCell ⟨wr.heap.size,2,none⟩ (.slice ga gn gk)) [.int .i64 l.w.rows,.int .i64 l.w.cols,.slice ja jn jk] 28 (size_set3 _ _ _ _ _))),(c__ ((set_three ZB0.out _ _ _).u_ (o_ _ _)))⟩;have HQ1:=h_ (Nat.le_refl wr.heap.size);have HQ2:=h_ (Nat.le_succ wr.heap.size);have HQ3:=h_ HB2.out.size;have HQ4:=h_ (Nat.le_succ_of_le HB2.out.size);clear h hb2 hc2 hf1 hf2 hs1 hs2)
      |(go_at_call 63;guard_target=Calls _ _ _ (World.drew wr) _;refine HTz.out.mono ?_;intro e wz h;obtain ⟨s',t',rfl,hs1,hs2,hb2,hf1,hf2⟩:=id h;obtain ⟨ja,jn,jk,rfl⟩:=hs1.shape;obtain ⟨ga,gn,gk,rfl⟩:=hs2.shape;have hc2:=b_ (r_ (Below.refl _ wr)) hb2;have HB2:=h_ (show Below wr.heap.size wr wz from hc2);have HN0:=h_ (show I_ wz (.slice ja jn jk) n1.cells from hs1);have HF0:=h_ (show F_ (wr.heap.size) (.agg #[.int .i64 l.w.rows,.int .i64 l.w.cols,.slice ja jn jk]) from f_ hf1 (Nat.le_refl _));have HG0:=h_ (f_ HF0.out (show wr.heap.size<=wr.heap.size by omega));have HN1:=h_ (show I_ wz (.slice ga gn gk) s1.cells from hs2);have HF1:=h_ (show F_ (wr.heap.size) (.agg #[.int .i64 s1.rows,.int .i64 s1.cols,.slice ga gn gk]) from f_ hf2 (Nat.le_refl _));have HG1:=h_ (f_ HF1.out (show wr.heap.size<=wr.heap.size by omega));have HE0:Hid ((Cells3 ((wz.alloc (.cells #[.int .i64 l.w.rows,.int .i64 l.w.cols,.slice ja jn jk] 28)).alloc (.cells #[.int .i64 s1.rows,.int .i64 s1.cols,.slice ga gn gk] 28)) (wz.heap.size) (.int .i64 l.w.rows) (.int .i64 l.w.cols) (.slice ja jn jk))/\(Cells3 ((wz.alloc (.cells #[.int .i64 l.w.rows,.int .i64 l.w.cols,.slice ja jn jk] 28)).alloc (.cells #[.int .i64 s1.rows,.int .i64 s1.cols,.slice ga gn gk] 28)) (wz.heap.size+1) (.int .i64 s1.rows) (.int .i64 s1.cols) (.slice ga gn gk))):=h_ ⟨(c__ ((Box.new wz [.int .i64 l.w.rows,.int .i64 l.w.cols,.slice ja jn jk] 28 rfl).u_ (o_ _ _))),(c__ (Box.new (wz.alloc (.cells #[.int .i64 l.w.rows,.int .i64 l.w.cols,.slice ja jn jk] 28)) [.int .i64 s1.rows,.int .i64 s1.cols,.slice ga gn gk] 28 (World.size_alloc _ _)))⟩;have HE1:Hid ((Cells3 ((wz.alloc (.cells #[.int .i64 s1.rows,.int .i64 s1.cols,.slice ga gn gk] 28)).alloc (.cells #[.int .i64 l.w.rows,.int .i64 l.w.cols,.slice ja jn jk] 28)) (wz.heap.size+1) (.int .i64 l.w.rows) (.int .i64 l.w.cols) (.slice ja jn jk))/\(Cells3 ((wz.alloc (.cells #[.int .i64 s1.rows,.int .i64 s1.cols,.slice ga gn gk] 28)).alloc (.cells #[.int .i64 l.w.rows,.int .i64 l.w.cols,.slice ja jn jk] 28)) (wz.heap.size) (.int .i64 s1.rows) (.int .i64 s1.cols) (.slice ga gn gk))):=h_ ⟨(c__ (Box.new (wz.alloc (.cells #[.int .i64 s1.rows,.int .i64 s1.cols,.slice ga gn gk] 28)) [.int .i64 l.w.rows,.int .i64 l.w.cols,.slice ja jn jk] 28 (World.size_alloc _ _))),(c__ ((Box.new wz [.int .i64 s1.rows,.int .i64 s1.cols,.slice ga gn gk] 28 rfl).u_ (o_ _ _)))⟩;have HQ1:=h_ (Nat.le_refl wr.heap.size);have HQ2:=h_ (Nat.le_succ wr.heap.size);have HQ3:=h_ HB2.out.size;have HQ4:=h_ (Nat.le_succ_of_le HB2.out.size);clear h hb2 hc2 hf1 hf2 hs1 hs2))
    all_goals go_wp2
    all_goals go_meet
    all_goals
     obtain ⟨a0,b0⟩:=HE0.out
     obtain ⟨a1,b1⟩:=HE1.out
     refine ⟨_,_,ja,jn,jk,ga,gn,gk,rfl,rfl,?_,?_,?_,?_,?_,?_,HG0.out,HG1.out,?_⟩
     ·(refine HN0.out.above HF0.out ?_;repeat' (first|with_reducible exact Above.refl _ _|with_reducible refine abv_drew ?_|with_reducible refine abv_alloc ?_|with_reducible refine v_ ?_ (by omega)))
     ·(refine HN1.out.above HF1.out ?_;repeat' (first|with_reducible exact Above.refl _ _|with_reducible refine abv_drew ?_|with_reducible refine abv_alloc ?_|with_reducible refine v_ ?_ (by omega)))
     ·first|with_reducible exact a0|with_reducible exact a1
     ·first|with_reducible exact b0|with_reducible exact b1
     ·(first|with_reducible exact HQ1.out|with_reducible exact HQ2.out|with_reducible exact HQ3.out|with_reducible exact HQ4.out)
     ·(first|with_reducible exact HQ1.out|with_reducible exact HQ2.out|with_reducible exact HQ3.out|with_reducible exact HQ4.out)
     ·repeat' (first|with_reducible exact Below.refl _ _|with_reducible exact HB2.out|with_reducible refine d_ ?_|with_reducible refine a_ ?_|with_reducible refine t_ ?_ ?_|exact Nat.le_refl _|exact Nat.le_succ _|exact HB2.out.size|exact Nat.le_succ_of_le HB2.out.size)
   case rest=>
    obtain ⟨B1,B2,ja,jn,jk,ga,gn,gk,rfl,rfl,hj,hg,hc1,hc2,hn1,hn2,fhj,fhg,hbc⟩:=hcut
    obtain ⟨wa,hwa⟩:=gM (wc)
    subst hwa
    obtain ⟨C1,hC1⟩:=gM (B1)
    subst hC1
    obtain ⟨C2,hC2⟩:=gM (B2)
    subst hC2
    have HDA:=h_ hbc
    have HBA:=h_ (b_ HB.out hbc)
    have HJG:=h_ (And.intro hj hg)
    have HFJ:=h_ (And.intro fhj fhg)
    have HCA:=h_ (And.intro hc1 hc2)
    have HCN:=h_ (And.intro hn1 hn2)
    clear hj hg fhj fhg hc1 hc2 hn1 hn2 hbc HT HSB HT12z HT1z HTz lm0 lm1 lm2 lm3 lm4 lm5 lm6 lm7 lm8 lm9 lm10
    have HT:=h_ (fun W (h:Below wa.heap.size wa W)=>HTB.out W (b_ HBA.out h))
    have HSB:Hid (∀W',Below wa.heap.size wa W'->(fun W'=>W'.cell? ⟨b,off+xi.toNat*7+4,none⟩=some (.int .i64 l.b.rows)/\W'.cell? ⟨b,off+xi.toNat*7+5,none⟩=some (.int .i64 l.b.cols)/\W'.cell? ⟨b,off+xi.toNat*7+6,none⟩=some (.slice ta tn tk)/\W'.cell? ⟨b1,off1+xi.toNat*6+3,none⟩=some (.int .i64 p.2.rows)/\W'.cell? ⟨b1,off1+xi.toNat*6+4,none⟩=some (.int .i64 p.2.cols)/\W'.cell? ⟨b1,off1+xi.toNat*6+5,none⟩=some (.slice qa qn qk)/\W'.cell? ⟨b2,off2+xi.toNat*6+3,none⟩=some (.int .i64 q.2.rows)/\W'.cell? ⟨b2,off2+xi.toNat*6+4,none⟩=some (.int .i64 q.2.cols)/\W'.cell? ⟨b2,off2+xi.toNat*6+5,none⟩=some (.slice ya yn yk)/\W'.cell? ⟨w.heap.size,0,none⟩=some (.int .i64 le)/\W'.cell? ⟨w.heap.size,1,none⟩=some (.int .i64 ke)) W'):=h_ (fun W' h=>by
     obtain ⟨k0,k1,k2,k3,k4,k5,k6,y0,y1,y2,y3,y4,y5,z0,z1,z2,z3,z4,z5⟩:=HK.out W' (b_ HBA.out h)
     exact ⟨k4,k5,k6,y3,y4,y5,z3,z4,z5,(HR.out.u_ (b_ HDA.out h)) 0 _ rfl,(HR.out.u_ (b_ HDA.out h)) 1 _ rfl⟩)
    have HT12z:=h_ (HT.out ((wa.alloc (.cells #[.int .i64 0,.int .i64 0,.slice none 0 0] 28)).alloc (.cells #[.int .i64 0,.int .i64 0,.slice none 0 0] 28)).drew (d_ (a_ (a_ (Below.refl wa.heap.size wa)))))
    have HT1z:=h_ (HT.out (wa.alloc (.cells #[.int .i64 0,.int .i64 0,.slice none 0 0] 28)).drew (d_ (a_ (Below.refl wa.heap.size wa))))
    have HTz:=h_ (HT.out wa.drew (d_ (Below.refl wa.heap.size wa)))
    obtain ⟨lm0,lm1,lm2,lm3,lm4,lm5,lm6,lm7,lm8,lm9,lm10⟩:=HSB.out wa (Below.refl _ _)
    go_wp2
    go_cut [15,16] from 43 to 62 (fun a1 a2 wx=>∃(B1 B2:Nat) (ma:Option Addr) (mn mk:Nat) (oa:Option Addr) (on ok:Nat),a1=.pointer (some ⟨B1,0,none⟩)/\a2=.pointer (some ⟨B2,0,none⟩)/\I_ wx (.slice ma mn mk) n2.cells/\I_ wx (.slice oa on ok) s2.cells/\Cells3 wx B1 (.int .i64 l.b.rows) (.int .i64 l.b.cols) (.slice ma mn mk)/\Cells3 wx B2 (.int .i64 s2.rows) (.int .i64 s2.cols) (.slice oa on ok)/\wa.heap.size<=B1/\wa.heap.size<=B2/\F_ wa.heap.size (.agg #[.int .i64 l.b.rows,.int .i64 l.b.cols,.slice ma mn mk])/\F_ wa.heap.size (.agg #[.int .i64 s2.rows,.int .i64 s2.cols,.slice oa on ok])/\Below wa.heap.size wa wx)
    case first=>
     go_region_held3 (fun W'=>W'.cell? ⟨b,off+xi.toNat*7+4,none⟩=some (.int .i64 l.b.rows)/\W'.cell? ⟨b,off+xi.toNat*7+5,none⟩=some (.int .i64 l.b.cols)/\W'.cell? ⟨b,off+xi.toNat*7+6,none⟩=some (.slice ta tn tk)/\W'.cell? ⟨b1,off1+xi.toNat*6+3,none⟩=some (.int .i64 p.2.rows)/\W'.cell? ⟨b1,off1+xi.toNat*6+4,none⟩=some (.int .i64 p.2.cols)/\W'.cell? ⟨b1,off1+xi.toNat*6+5,none⟩=some (.slice qa qn qk)/\W'.cell? ⟨b2,off2+xi.toNat*6+3,none⟩=some (.int .i64 q.2.rows)/\W'.cell? ⟨b2,off2+xi.toNat*6+4,none⟩=some (.int .i64 q.2.cols)/\W'.cell? ⟨b2,off2+xi.toNat*6+5,none⟩=some (.slice ya yn yk)/\W'.cell? ⟨w.heap.size,0,none⟩=some (.int .i64 le)/\W'.cell? ⟨w.heap.size,1,none⟩=some (.int .i64 ke)) ((refine HSB.out _ ?_;repeat' (first|with_reducible exact Below.refl _ _|with_reducible exact HB2.out|with_reducible refine d_ ?_|with_reducible refine a_ ?_|with_reducible refine t_ ?_ ?_|exact Nat.le_refl _|exact Nat.le_succ _|exact HB2.out.size|exact Nat.le_succ_of_le HB2.out.size)))
      (first
       |(go_at_call 63;guard_target=Calls _ _ _ (World.drew (World.alloc (World.alloc wa (Obj.cells #[_,_,_] _)) (Obj.cells #[_,_,_] _))) _;refine HT12z.out.mono ?_;intro e wz h;obtain ⟨s',t',rfl,hs1,hs2,hb2,hf1,hf2⟩:=id h;obtain ⟨ma,mn,mk,rfl⟩:=hs1.shape;obtain ⟨oa,on,ok,rfl⟩:=hs2.shape;have hc2:=b_ (r_ (Below.refl _ ((wa.alloc (.cells #[.int .i64 0,.int .i64 0,.slice none 0 0] 28)).alloc (.cells #[.int .i64 0,.int .i64 0,.slice none 0 0] 28)))) hb2;have HB2:=h_ (show Below wa.heap.size wa wz from (b_ (o_ wa (.cells #[.int .i64 0,.int .i64 0,.slice none 0 0] 28)) (b_ (o_ (wa.alloc (.cells #[.int .i64 0,.int .i64 0,.slice none 0 0] 28)) (.cells #[.int .i64 0,.int .i64 0,.slice none 0 0] 28)) hc2)));have ZB0:=h_ ((Box.new wa [.int .i64 0,.int .i64 0,.slice none 0 0] 28 (B:=wa.heap.size) rfl).u_ (b_ (o_ (wa.alloc (.cells #[.int .i64 0,.int .i64 0,.slice none 0 0] 28)) (.cells #[.int .i64 0,.int .i64 0,.slice none 0 0] 28)) hc2));have ZL0:=h_ (Box.new wa [.int .i64 0,.int .i64 0,.slice none 0 0] 28 (B:=wa.heap.size) rfl).lt;have ZF0:=h_ ((Free.new wa #[.int .i64 0,.int .i64 0,.slice none 0 0] 28 (B:=wa.heap.size) rfl).u_ (b_ (o_ (wa.alloc (.cells #[.int .i64 0,.int .i64 0,.slice none 0 0] 28)) (.cells #[.int .i64 0,.int .i64 0,.slice none 0 0] 28)) hc2) ZL0.out);obtain ⟨z00,z01,z02⟩:=ZB0.out.c3;obtain ⟨f00,f01,f02⟩:=ZF0.out.f3;have lt0:=ZB0.out.lt;have ne0:¬wa.heap.size=wz.heap.size:=Nat.ne_of_lt lt0;have en0:¬wz.heap.size=wa.heap.size:=(Nat.ne_of_lt lt0).symm;have ZB1:=h_ ((Box.new (wa.alloc (.cells #[.int .i64 0,.int .i64 0,.slice none 0 0] 28)) [.int .i64 0,.int .i64 0,.slice none 0 0] 28 (B:=wa.heap.size+1) (World.size_alloc _ _)).u_ hc2);have ZL1:=h_ (Box.new (wa.alloc (.cells #[.int .i64 0,.int .i64 0,.slice none 0 0] 28)) [.int .i64 0,.int .i64 0,.slice none 0 0] 28 (B:=wa.heap.size+1) (World.size_alloc _ _)).lt;have ZF1:=h_ ((Free.new (wa.alloc (.cells #[.int .i64 0,.int .i64 0,.slice none 0 0] 28)) #[.int .i64 0,.int .i64 0,.slice none 0 0] 28 (B:=wa.heap.size+1) (World.size_alloc _ _)).u_ hc2 ZL1.out);obtain ⟨z10,z11,z12⟩:=ZB1.out.c3;obtain ⟨f10,f11,f12⟩:=ZF1.out.f3;have lt1:=ZB1.out.lt;have ne1:¬wa.heap.size+1=wz.heap.size:=Nat.ne_of_lt lt1;have en1:¬wz.heap.size=wa.heap.size+1:=(Nat.ne_of_lt lt1).symm;have sz10:=s_ z10 (B:=wa.heap.size) (Nat.succ_ne_self _) (.int .i64 l.b.rows) (.int .i64 l.b.cols) (.slice ma mn mk);have sz11:=s_ z11 (B:=wa.heap.size) (Nat.succ_ne_self _) (.int .i64 l.b.rows) (.int .i64 l.b.cols) (.slice ma mn mk);have sz12:=s_ z12 (B:=wa.heap.size) (Nat.succ_ne_self _) (.int .i64 l.b.rows) (.int .i64 l.b.cols) (.slice ma mn mk);have sz00:=s_ z00 (B:=wa.heap.size+1) ((Nat.succ_ne_self _).symm) (.int .i64 l.b.rows) (.int .i64 l.b.cols) (.slice ma mn mk);have sz01:=s_ z01 (B:=wa.heap.size+1) ((Nat.succ_ne_self _).symm) (.int .i64 l.b.rows) (.int .i64 l.b.cols) (.slice ma mn mk);have sz02:=s_ z02 (B:=wa.heap.size+1) ((Nat.succ_ne_self _).symm) (.int .i64 l.b.rows) (.int .i64 l.b.cols) (.slice ma mn mk);have ne9:¬wa.heap.size=wa.heap.size+1:=(Nat.succ_ne_self _).symm;have ne8:¬wa.heap.size+1=wa.heap.size:=Nat.succ_ne_self _;have HN0:=h_ (show I_ wz (.slice ma mn mk) n2.cells from hs1);have HF0:=h_ (show F_ (wa.heap.size+2) (.agg #[.int .i64 l.b.rows,.int .i64 l.b.cols,.slice ma mn mk]) from f_ hf1 (szd2 _ _ _));have HG0:=h_ (f_ HF0.out (show wa.heap.size<=wa.heap.size+2 by omega));have HN1:=h_ (show I_ wz (.slice oa on ok) s2.cells from hs2);have HF1:=h_ (show F_ (wa.heap.size+2) (.agg #[.int .i64 s2.rows,.int .i64 s2.cols,.slice oa on ok]) from f_ hf2 (szd2 _ _ _));have HG1:=h_ (f_ HF1.out (show wa.heap.size<=wa.heap.size+2 by omega));have HE0:Hid ((Cells3 ((((((wz.setCell ⟨wa.heap.size,0,none⟩ (.int .i64 l.b.rows)).setCell ⟨wa.heap.size,1,none⟩ (.int .i64 l.b.cols)).setCell ⟨wa.heap.size,2,none⟩ (.slice ma mn mk)).setCell ⟨wa.heap.size+1,0,none⟩ (.int .i64 s2.rows)).setCell ⟨wa.heap.size+1,1,none⟩ (.int .i64 s2.cols)).setCell ⟨wa.heap.size+1,2,none⟩ (.slice oa on ok)) (wa.heap.size) (.int .i64 l.b.rows) (.int .i64 l.b.cols) (.slice ma mn mk))/\(Cells3 ((((((wz.setCell ⟨wa.heap.size,0,none⟩ (.int .i64 l.b.rows)).setCell ⟨wa.heap.size,1,none⟩ (.int .i64 l.b.cols)).setCell ⟨wa.heap.size,2,none⟩ (.slice ma mn mk)).setCell ⟨wa.heap.size+1,0,none⟩ (.int .i64 s2.rows)).setCell ⟨wa.heap.size+1,1,none⟩ (.int .i64 s2.cols)).setCell ⟨wa.heap.size+1,2,none⟩ (.slice oa on ok)) (wa.heap.size+1) (.int .i64 s2.rows) (.int .i64 s2.cols) (.slice oa on ok))):=h_ ⟨(c__ (box_set3 (set_three ZB0.out _ _ _) ((Nat.succ_ne_self _).symm) _ _ _)),(c__ (set_three (box_set3 ZB1.out (Nat.succ_ne_self _) _ _ _) _ _ _))⟩;have HE1:Hid ((Cells3 ((((((wz.setCell ⟨wa.heap.size+1,0,none⟩ (.int .i64 l.b.rows)).setCell ⟨wa.heap.size+1,1,none⟩ (.int .i64 l.b.cols)).setCell ⟨wa.heap.size+1,2,none⟩ (.slice ma mn mk)).setCell ⟨wa.heap.size,0,none⟩ (.int .i64 s2.rows)).setCell ⟨wa.heap.size,1,none⟩ (.int .i64 s2.cols)).setCell ⟨wa.heap.size,2,none⟩ (.slice oa on ok)) (wa.heap.size+1) (.int .i64 l.b.rows) (.int .i64 l.b.cols) (.slice ma mn mk))/\(Cells3 ((((((wz.setCell ⟨wa.heap.size+1,0,none⟩ (.int .i64 l.b.rows)).setCell ⟨wa.heap.size+1,1,none⟩ (.int .i64 l.b.cols)).setCell ⟨wa.heap.size+1,2,none⟩ (.slice ma mn mk)).setCell ⟨wa.heap.size,0,none⟩ (.int .i64 s2.rows)).setCell ⟨wa.heap.size,1,none⟩ (.int .i64 s2.cols)).setCell ⟨wa.heap.size,2,none⟩ (.slice oa on ok)) (wa.heap.size) (.int .i64 s2.rows) (.int .i64 s2.cols) (.slice oa on ok))):=h_ ⟨(c__ (box_set3 (set_three ZB1.out _ _ _) (Nat.succ_ne_self _) _ _ _)),(c__ (set_three (box_set3 ZB0.out ((Nat.succ_ne_self _).symm) _ _ _) _ _ _))⟩;have HQ1:=h_ (Nat.le_refl wa.heap.size);have HQ2:=h_ (Nat.le_succ wa.heap.size);have HQ3:=h_ HB2.out.size;have HQ4:=h_ (Nat.le_succ_of_le HB2.out.size);clear h hb2 hc2 hf1 hf2 hs1 hs2)
       |(go_at_call 63;guard_target=Calls _ _ _ (World.drew (World.alloc wa (Obj.cells #[_,_,_] _))) _;refine HT1z.out.mono ?_;intro e wz h;obtain ⟨s',t',rfl,hs1,hs2,hb2,hf1,hf2⟩:=id h;obtain ⟨ma,mn,mk,rfl⟩:=hs1.shape;obtain ⟨oa,on,ok,rfl⟩:=hs2.shape;have hc2:=b_ (r_ (Below.refl _ (wa.alloc (.cells #[.int .i64 0,.int .i64 0,.slice none 0 0] 28)))) hb2;have HB2:=h_ (show Below wa.heap.size wa wz from (b_ (o_ wa (.cells #[.int .i64 0,.int .i64 0,.slice none 0 0] 28)) hc2));have ZB0:=h_ ((Box.new wa [.int .i64 0,.int .i64 0,.slice none 0 0] 28 (B:=wa.heap.size) rfl).u_ hc2);have ZL0:=h_ (Box.new wa [.int .i64 0,.int .i64 0,.slice none 0 0] 28 (B:=wa.heap.size) rfl).lt;have ZF0:=h_ ((Free.new wa #[.int .i64 0,.int .i64 0,.slice none 0 0] 28 (B:=wa.heap.size) rfl).u_ hc2 ZL0.out);obtain ⟨z00,z01,z02⟩:=ZB0.out.c3;obtain ⟨f00,f01,f02⟩:=ZF0.out.f3;have lt0:=ZB0.out.lt;have ne0:¬wa.heap.size=wz.heap.size:=Nat.ne_of_lt lt0;have en0:¬wz.heap.size=wa.heap.size:=(Nat.ne_of_lt lt0).symm;have yz0:=fun o=>p_ z00 o;have yf0:=fun o=>(World.frozen?_alloc_old wz o ⟨wa.heap.size,0,none⟩ ne0).trans f00;have yz1:=fun o=>p_ z01 o;have yf1:=fun o=>(World.frozen?_alloc_old wz o ⟨wa.heap.size,1,none⟩ ne0).trans f01;have yz2:=fun o=>p_ z02 o;have yf2:=fun o=>(World.frozen?_alloc_old wz o ⟨wa.heap.size,2,none⟩ ne0).trans f02;have HN0:=h_ (show I_ wz (.slice ma mn mk) n2.cells from hs1);have HF0:=h_ (show F_ (wa.heap.size+1) (.agg #[.int .i64 l.b.rows,.int .i64 l.b.cols,.slice ma mn mk]) from f_ hf1 (szd1 _ _));have HG0:=h_ (f_ HF0.out (show wa.heap.size<=wa.heap.size+1 by omega));have HN1:=h_ (show I_ wz (.slice oa on ok) s2.cells from hs2);have HF1:=h_ (show F_ (wa.heap.size+1) (.agg #[.int .i64 s2.rows,.int .i64 s2.cols,.slice oa on ok]) from f_ hf2 (szd1 _ _));have HG1:=h_ (f_ HF1.out (show wa.heap.size<=wa.heap.size+1 by omega));have HE0:Hid ((Cells3 ((((wz.setCell ⟨wa.heap.size,0,none⟩ (.int .i64 l.b.rows)).setCell ⟨wa.heap.size,1,none⟩ (.int .i64 l.b.cols)).setCell ⟨wa.heap.size,2,none⟩ (.slice ma mn mk)).alloc (.cells #[.int .i64 s2.rows,.int .i64 s2.cols,.slice oa on ok] 28)) (wa.heap.size) (.int .i64 l.b.rows) (.int .i64 l.b.cols) (.slice ma mn mk))/\(Cells3 ((((wz.setCell ⟨wa.heap.size,0,none⟩ (.int .i64 l.b.rows)).setCell ⟨wa.heap.size,1,none⟩ (.int .i64 l.b.cols)).setCell ⟨wa.heap.size,2,none⟩ (.slice ma mn mk)).alloc (.cells #[.int .i64 s2.rows,.int .i64 s2.cols,.slice oa on ok] 28)) (wz.heap.size) (.int .i64 s2.rows) (.int .i64 s2.cols) (.slice oa on ok))):=h_ ⟨(c__ ((set_three ZB0.out _ _ _).u_ (o_ _ _))),(c__ (Box.new (((wz.setCell ⟨wa.heap.size,0,none⟩ (.int .i64 l.b.rows)).setCell ⟨wa.heap.size,1,none⟩ (.int .i64 l.b.cols)).setCell ⟨wa.heap.size,2,none⟩ (.slice ma mn mk)) [.int .i64 s2.rows,.int .i64 s2.cols,.slice oa on ok] 28 (size_set3 _ _ _ _ _)))⟩;have HE1:Hid ((Cells3 ((((wz.setCell ⟨wa.heap.size,0,none⟩ (.int .i64 s2.rows)).setCell ⟨wa.heap.size,1,none⟩ (.int .i64 s2.cols)).setCell ⟨wa.heap.size,2,none⟩ (.slice oa on ok)).alloc (.cells #[.int .i64 l.b.rows,.int .i64 l.b.cols,.slice ma mn mk] 28)) (wz.heap.size) (.int .i64 l.b.rows) (.int .i64 l.b.cols) (.slice ma mn mk))/\(Cells3 ((((wz.setCell ⟨wa.heap.size,0,none⟩ (.int .i64 s2.rows)).setCell ⟨wa.heap.size,1,none⟩ (.int .i64 s2.cols)).setCell ⟨wa.heap.size,2,none⟩ (.slice oa on ok)).alloc (.cells #[.int .i64 l.b.rows,.int .i64 l.b.cols,.slice ma mn mk] 28)) (wa.heap.size) (.int .i64 s2.rows) (.int .i64 s2.cols) (.slice oa on ok))):=h_ ⟨(c__ (Box.new (((wz.setCell ⟨wa.heap.size,0,none⟩ (.int .i64 s2.rows)).setCell ⟨wa.heap.size,1,none⟩ (.int .i64 s2.cols)).setCell ⟨wa.heap.size,2,none⟩ (.slice oa on ok)) [.int .i64 l.b.rows,.int .i64 l.b.cols,.slice ma mn mk] 28 (size_set3 _ _ _ _ _))),(c__ ((set_three ZB0.out _ _ _).u_ (o_ _ _)))⟩;have HQ1:=h_ (Nat.le_refl wa.heap.size);have HQ2:=h_ (Nat.le_succ wa.heap.size);have HQ3:=h_ HB2.out.size;have HQ4:=h_ (Nat.le_succ_of_le HB2.out.size);clear h hb2 hc2 hf1 hf2 hs1 hs2)
       |(go_at_call 63;guard_target=Calls _ _ _ (World.drew wa) _;refine HTz.out.mono ?_;intro e wz h;obtain ⟨s',t',rfl,hs1,hs2,hb2,hf1,hf2⟩:=id h;obtain ⟨ma,mn,mk,rfl⟩:=hs1.shape;obtain ⟨oa,on,ok,rfl⟩:=hs2.shape;have hc2:=b_ (r_ (Below.refl _ wa)) hb2;have HB2:=h_ (show Below wa.heap.size wa wz from hc2);have HN0:=h_ (show I_ wz (.slice ma mn mk) n2.cells from hs1);have HF0:=h_ (show F_ (wa.heap.size) (.agg #[.int .i64 l.b.rows,.int .i64 l.b.cols,.slice ma mn mk]) from f_ hf1 (Nat.le_refl _));have HG0:=h_ (f_ HF0.out (show wa.heap.size<=wa.heap.size by omega));have HN1:=h_ (show I_ wz (.slice oa on ok) s2.cells from hs2);have HF1:=h_ (show F_ (wa.heap.size) (.agg #[.int .i64 s2.rows,.int .i64 s2.cols,.slice oa on ok]) from f_ hf2 (Nat.le_refl _));have HG1:=h_ (f_ HF1.out (show wa.heap.size<=wa.heap.size by omega));have HE0:Hid ((Cells3 ((wz.alloc (.cells #[.int .i64 l.b.rows,.int .i64 l.b.cols,.slice ma mn mk] 28)).alloc (.cells #[.int .i64 s2.rows,.int .i64 s2.cols,.slice oa on ok] 28)) (wz.heap.size) (.int .i64 l.b.rows) (.int .i64 l.b.cols) (.slice ma mn mk))/\(Cells3 ((wz.alloc (.cells #[.int .i64 l.b.rows,.int .i64 l.b.cols,.slice ma mn mk] 28)).alloc (.cells #[.int .i64 s2.rows,.int .i64 s2.cols,.slice oa on ok] 28)) (wz.heap.size+1) (.int .i64 s2.rows) (.int .i64 s2.cols) (.slice oa on ok))):=h_ ⟨(c__ ((Box.new wz [.int .i64 l.b.rows,.int .i64 l.b.cols,.slice ma mn mk] 28 rfl).u_ (o_ _ _))),(c__ (Box.new (wz.alloc (.cells #[.int .i64 l.b.rows,.int .i64 l.b.cols,.slice ma mn mk] 28)) [.int .i64 s2.rows,.int .i64 s2.cols,.slice oa on ok] 28 (World.size_alloc _ _)))⟩;have HE1:Hid ((Cells3 ((wz.alloc (.cells #[.int .i64 s2.rows,.int .i64 s2.cols,.slice oa on ok] 28)).alloc (.cells #[.int .i64 l.b.rows,.int .i64 l.b.cols,.slice ma mn mk] 28)) (wz.heap.size+1) (.int .i64 l.b.rows) (.int .i64 l.b.cols) (.slice ma mn mk))/\(Cells3 ((wz.alloc (.cells #[.int .i64 s2.rows,.int .i64 s2.cols,.slice oa on ok] 28)).alloc (.cells #[.int .i64 l.b.rows,.int .i64 l.b.cols,.slice ma mn mk] 28)) (wz.heap.size) (.int .i64 s2.rows) (.int .i64 s2.cols) (.slice oa on ok))):=h_ ⟨(c__ (Box.new (wz.alloc (.cells #[.int .i64 s2.rows,.int .i64 s2.cols,.slice oa on ok] 28)) [.int .i64 l.b.rows,.int .i64 l.b.cols,.slice ma mn mk] 28 (World.size_alloc _ _))),(c__ ((Box.new wz [.int .i64 s2.rows,.int .i64 s2.cols,.slice oa on ok] 28 rfl).u_ (o_ _ _)))⟩;have HQ1:=h_ (Nat.le_refl wa.heap.size);have HQ2:=h_ (Nat.le_succ wa.heap.size);have HQ3:=h_ HB2.out.size;have HQ4:=h_ (Nat.le_succ_of_le HB2.out.size);clear h hb2 hc2 hf1 hf2 hs1 hs2))
     all_goals go_wp2
     all_goals go_meet
     all_goals
      obtain ⟨a0,b0⟩:=HE0.out
      obtain ⟨a1,b1⟩:=HE1.out
      refine ⟨_,_,ma,mn,mk,oa,on,ok,rfl,rfl,?_,?_,?_,?_,?_,?_,HG0.out,HG1.out,?_⟩
      ·(refine HN0.out.above HF0.out ?_;repeat' (first|with_reducible exact Above.refl _ _|with_reducible refine abv_drew ?_|with_reducible refine abv_alloc ?_|with_reducible refine v_ ?_ (by omega)))
      ·(refine HN1.out.above HF1.out ?_;repeat' (first|with_reducible exact Above.refl _ _|with_reducible refine abv_drew ?_|with_reducible refine abv_alloc ?_|with_reducible refine v_ ?_ (by omega)))
      ·first|with_reducible exact a0|with_reducible exact a1
      ·first|with_reducible exact b0|with_reducible exact b1
      ·(first|with_reducible exact HQ1.out|with_reducible exact HQ2.out|with_reducible exact HQ3.out|with_reducible exact HQ4.out)
      ·(first|with_reducible exact HQ1.out|with_reducible exact HQ2.out|with_reducible exact HQ3.out|with_reducible exact HQ4.out)
      ·repeat' (first|with_reducible exact Below.refl _ _|with_reducible exact HB2.out|with_reducible refine d_ ?_|with_reducible refine a_ ?_|with_reducible refine t_ ?_ ?_|exact Nat.le_refl _|exact Nat.le_succ _|exact HB2.out.size|exact Nat.le_succ_of_le HB2.out.size)
    case rest=>
     obtain ⟨B1,B2,ma,mn,mk,oa,on,ok,rfl,rfl,hj,hg,hc1,hc2,hn1,hn2,fhj,fhg,hbc⟩:=hcut
     obtain ⟨wb,hwb⟩:=gM (wc)
     subst hwb
     have HDB:=h_ hbc
     have HDR:=h_ (b_ HDA.out hbc)
     have HBB:=h_ (b_ HBA.out hbc)
     have HMO:=h_ (And.intro hj hg)
     have HFM:=h_ (And.intro fhj fhg)
     have HCB:=h_ (And.intro hc1 hc2)
     have HCM:=h_ (And.intro hn1 hn2)
     clear hj hg fhj fhg hc1 hc2 hn1 hn2 hbc HT HSB HT12z HT1z HTz lm0 lm1 lm2 lm3 lm4 lm5 lm6 lm7 lm8 lm9 lm10
     have HGL:=h_ (show ∀x,(fun b=>o10.ownBlock=some b\/(t11.ownBlock=some b\/b<w.heap.size)) x->x<wr.heap.size from fun x hx=>by
      rcases hx with hx|hx|hx
      ·exact (HO1.out.lt x hx).2
      ·exact (HO2.out.lt x hx).2
      ·exact Nat.lt_of_lt_of_le hx HB.out.size)
     have HGA:=h_ (show ∀x,(fun b=>o10.ownBlock=some b\/(t11.ownBlock=some b\/b<w.heap.size)) x->x<wa.heap.size from fun x hx=>Nat.lt_of_lt_of_le (HGL.out x hx) HDA.out.size)
     have HWA:=h_ (show Below wr.heap.size wr (wb.alloc (.cells #[.int .i64 l.k,.int .i64 l.w.rows,.int .i64 l.w.cols,.slice ja jn jk,.int .i64 l.b.rows,.int .i64 l.b.cols,.slice ma mn mk] 58)).drew from d_ (a_ HDR.out))
     have HP1:=h_ (show P_ wb (fun b=>o10.ownBlock=some b\/(t11.ownBlock=some b\/b<w.heap.size)) (.inr n1.cells) (.slice ja jn jk) from (x_ HJG.out.1 HFJ.out.1 HGL.out).u_ HDB.out)
     have HPS:=h_ (show P_ wb (fun b=>o10.ownBlock=some b\/(t11.ownBlock=some b\/b<w.heap.size)) (.inr s1.cells) (.slice ga gn gk) from (x_ HJG.out.2 HFJ.out.2 HGL.out).u_ HDB.out)
     have HP2:=h_ (show P_ wb (fun b=>o10.ownBlock=some b\/(t11.ownBlock=some b\/b<w.heap.size)) (.inr n2.cells) (.slice ma mn mk) from x_ HMO.out.1 HFM.out.1 HGA.out)
     have HPO:=h_ (show P_ wb (fun b=>o10.ownBlock=some b\/(t11.ownBlock=some b\/b<w.heap.size)) (.inr s2.cells) (.slice oa on ok) from x_ HMO.out.2 HFM.out.2 HGA.out)
     have HC13:=h_ (show Cells3 wb C1 (.int .i64 l.w.rows) (.int .i64 l.w.cols) (.slice ja jn jk)/\Cells3 wb C2 (.int .i64 s1.rows) (.int .i64 s1.cols) (.slice ga gn gk) from ⟨⟨c_ HDB.out HCA.out.1.1,c_ HDB.out HCA.out.1.2.1,c_ HDB.out HCA.out.1.2.2⟩,⟨c_ HDB.out HCA.out.2.1,c_ HDB.out HCA.out.2.2.1,c_ HDB.out HCA.out.2.2.2⟩⟩)
     have HKK:=h_ (HK.out wb HBB.out).1
     have HSB:Hid (∀W',Below wb.heap.size wb W'->(fun W'=>W'.cell? ⟨b,off+xi.toNat*7,none⟩=some (.int .i64 l.k)/\W'.cell? ⟨C1,0,none⟩=some (.int .i64 l.w.rows)/\W'.cell? ⟨C1,1,none⟩=some (.int .i64 l.w.cols)/\W'.cell? ⟨C1,2,none⟩=some (.slice ja jn jk)/\W'.cell? ⟨B1,0,none⟩=some (.int .i64 l.b.rows)/\W'.cell? ⟨B1,1,none⟩=some (.int .i64 l.b.cols)/\W'.cell? ⟨B1,2,none⟩=some (.slice ma mn mk)) W'):=h_ (fun W' h=>⟨c_ h HKK.out,c_ h HC13.out.1.1,c_ h HC13.out.1.2.1,c_ h HC13.out.1.2.2,c_ h HCB.out.1.1,c_ h HCB.out.1.2.1,c_ h HCB.out.1.2.2⟩)
     have HOA:=h_ (show OwnsX (fun b=>t11.ownBlock=some b\/b<w.heap.size) (w.heap.size+1) (wb.alloc (.cells #[.int .i64 l.k,.int .i64 l.w.rows,.int .i64 l.w.cols,.slice ja jn jk,.int .i64 l.b.rows,.int .i64 l.b.cols,.slice ma mn mk] 58)).drew 58 7 o10 i (L.flatMap lyS) from HO1.out.u_ HWA.out)
     have HEN:=h_ (show Enc (wb.alloc (.cells #[.int .i64 l.k,.int .i64 l.w.rows,.int .i64 l.w.cols,.slice ja jn jk,.int .i64 l.b.rows,.int .i64 l.b.cols,.slice ma mn mk] 58)).drew (fun b=>o10.ownBlock=some b\/(t11.ownBlock=some b\/b<w.heap.size)) (lyS ⟨l.k,n1,n2⟩) [.int .i64 l.k,.int .i64 l.w.rows,.int .i64 l.w.cols,.slice ja jn jk,.int .i64 l.b.rows,.int .i64 l.b.cols,.slice ma mn mk] by
      have h:=enc_ly2 (l:=⟨l.k,n1,n2⟩) (HP1.out.u_ (d_ (o_ wb (.cells #[.int .i64 l.k,.int .i64 l.w.rows,.int .i64 l.w.cols,.slice ja jn jk,.int .i64 l.b.rows,.int .i64 l.b.cols,.slice ma mn mk] 58)))) (HP2.out.u_ (d_ (o_ wb (.cells #[.int .i64 l.k,.int .i64 l.w.rows,.int .i64 l.w.cols,.slice ja jn jk,.int .i64 l.b.rows,.int .i64 l.b.cols,.slice ma mn mk] 58))))
      rw[HNR.out.1,HNR.out.2.1,HNR.out.2.2.1,HNR.out.2.2.2]at h
      exact h)
     have HNB:=h_ (show Box (wb.alloc (.cells #[.int .i64 l.k,.int .i64 l.w.rows,.int .i64 l.w.cols,.slice ja jn jk,.int .i64 l.b.rows,.int .i64 l.b.cols,.slice ma mn mk] 58)).drew wb.heap.size [.int .i64 l.k,.int .i64 l.w.rows,.int .i64 l.w.cols,.slice ja jn jk,.int .i64 l.b.rows,.int .i64 l.b.cols,.slice ma mn mk] from (Box.new wb [.int .i64 l.k,.int .i64 l.w.rows,.int .i64 l.w.cols,.slice ja jn jk,.int .i64 l.b.rows,.int .i64 l.b.cols,.slice ma mn mk] 58 rfl).u_ (d_ (Below.refl _ _)))
     have HBS:=h_ (show w.heap.size+1<=(wb.alloc (.cells #[.int .i64 l.k,.int .i64 l.w.rows,.int .i64 l.w.cols,.slice ja jn jk,.int .i64 l.b.rows,.int .i64 l.b.cols,.slice ma mn mk] 58)).drew.heap.size from by
      have h1:=HR.out.lt
      have h2:=HWA.out.size
      omega)
     have HXL:=h_ (show ∀x,(t11.ownBlock=some x\/x<w.heap.size)->x<(wb.alloc (.cells #[.int .i64 l.k,.int .i64 l.w.rows,.int .i64 l.w.cols,.slice ja jn jk,.int .i64 l.b.rows,.int .i64 l.b.cols,.slice ma mn mk] 58)).drew.heap.size from fun x hx=>Nat.lt_of_lt_of_le (hx.elim (fun h=>(HO2.out.lt x h).2) (fun h=>Nat.lt_of_lt_of_le h HB.out.size)) HWA.out.size)
     have HM1:=h_ (show i+1<=maxLen by unfold maxLen;omega)
     have HM2:=h_ (show (i+1)*88<=140737488355328 by omega)
     have HBW:=h_ (World.block_lt_of_cell? w _ (show w.cell? ⟨b,off+xi.toNat*7,none⟩=some (.int .i64 l.k) from (HK.out w (Below.refl _ _)).1))
     have HSG:=h_ (show ∀W',(wb.alloc (.cells #[.int .i64 l.k,.int .i64 l.w.rows,.int .i64 l.w.cols,.slice ja jn jk,.int .i64 l.b.rows,.int .i64 l.b.cols,.slice ma mn mk] 58)).drew.grownBy W' o10.ownBlock->(fun W'=>W'.cell? ⟨b,off+xi.toNat*7,none⟩=some (.int .i64 l.k)/\W'.cell? ⟨C1,0,none⟩=some (.int .i64 l.w.rows)/\W'.cell? ⟨C1,1,none⟩=some (.int .i64 l.w.cols)/\W'.cell? ⟨C1,2,none⟩=some (.slice ja jn jk)/\W'.cell? ⟨B1,0,none⟩=some (.int .i64 l.b.rows)/\W'.cell? ⟨B1,1,none⟩=some (.int .i64 l.b.cols)/\W'.cell? ⟨B1,2,none⟩=some (.slice ma mn mk)) W' from fun W' hg=>by
      have ne:∀x,wr.heap.size<=x\/x<w.heap.size->some x≠o10.ownBlock:=fun x hx e=>by
       have:=HO1.out.lt x e.symm
       have:=HB.out.size
       rcases hx with hx|hx<;>omega
      obtain ⟨q0,q1,q2,q3,q4,q5,q6⟩:=HSB.out (wb.alloc (.cells #[.int .i64 l.k,.int .i64 l.w.rows,.int .i64 l.w.cols,.slice ja jn jk,.int .i64 l.b.rows,.int .i64 l.b.cols,.slice ma mn mk] 58)).drew (d_ (o_ _ _))
      have n1:=HCN.out.1
      have n3:=Nat.le_trans HDA.out.size HCM.out.1
      exact ⟨hg.cell q0 (ne _ (.inr HBW.out)),hg.cell q1 (ne _ (.inl n1)),hg.cell q2 (ne _ (.inl n1)),hg.cell q3 (ne _ (.inl n1)),hg.cell q4 (ne _ (.inl n3)),hg.cell q5 (ne _ (.inl n3)),hg.cell q6 (ne _ (.inl n3))⟩)
     obtain ⟨lm0,lm1,lm2,lm3,lm4,lm5,lm6⟩:=HSB.out wb (Below.refl _ _)
     go_wp2
     go_cut [10] from 63 to 73 (fun c wx=>OwnsX (fun b=>t11.ownBlock=some b\/b<w.heap.size) (w.heap.size+1) wx 58 7 c (i+1) (L.flatMap lyS++lyS ⟨l.k,n1,n2⟩)/\(wb.alloc (.cells #[.int .i64 l.k,.int .i64 l.w.rows,.int .i64 l.w.cols,.slice ja jn jk,.int .i64 l.b.rows,.int .i64 l.b.cols,.slice ma mn mk] 58)).drew.grownBy wx o10.ownBlock/\(c.ownBlock=o10.ownBlock\/c.ownBlock=some (wb.alloc (.cells #[.int .i64 l.k,.int .i64 l.w.rows,.int .i64 l.w.cols,.slice ja jn jk,.int .i64 l.b.rows,.int .i64 l.b.cols,.slice ma mn mk] 58)).drew.heap.size)/\(∀b,(t11.ownBlock=some b\/b<w.heap.size)->o10.ownBlock≠some b->c.ownBlock≠some b))
     case first=>
      go_region_held3 (fun W'=>W'.cell? ⟨b,off+xi.toNat*7,none⟩=some (.int .i64 l.k)/\W'.cell? ⟨C1,0,none⟩=some (.int .i64 l.w.rows)/\W'.cell? ⟨C1,1,none⟩=some (.int .i64 l.w.cols)/\W'.cell? ⟨C1,2,none⟩=some (.slice ja jn jk)/\W'.cell? ⟨B1,0,none⟩=some (.int .i64 l.b.rows)/\W'.cell? ⟨B1,1,none⟩=some (.int .i64 l.b.cols)/\W'.cell? ⟨B1,2,none⟩=some (.slice ma mn mk)) (first|exact HSW.out|(refine HSB.out _ ?_;repeat' (first|with_reducible exact Below.refl _ _|with_reducible refine d_ ?_|with_reducible refine a_ ?_|exact Nat.le_refl _|exact Nat.le_succ _)))
       (first
        |((try rw[if_pos (by rfl)]);refine wp_append_ownsX _ _ 22 rfl (w.heap.size+1) 58 e0 (.agg #[.int .i64 0,.int .i64 0,.int .i64 0,.slice none 0 0,.int .i64 0,.int .i64 0,.slice none 0 0]) 7 88 Tryz.underlying22 HEI.out.1 HEI.out.2.1 HEI.out.2.2.1 HEI.out.2.2.2 rfl (by decide) (fun b=>t11.ownBlock=some b\/b<w.heap.size) _ _ _ rfl HOA.out ⟨wb.heap.size,0,none⟩ 1 1 [.int .i64 l.k,.int .i64 l.w.rows,.int .i64 l.w.cols,.slice ja jn jk,.int .i64 l.b.rows,.int .i64 l.b.cols,.slice ma mn mk] rfl rfl (fun q u hq=>by rw[addr_add];exact HNB.out q u hq) (lyS ⟨l.k,n1,n2⟩) HEN.out HM1.out HM2.out HBS.out HXL.out ?_;intro v8 w8 hown hgrow hwh hnx;have H8:=h_ (And.intro hown (And.intro hgrow (And.intro hwh hnx)));have HSW:=h_ (show (fun W'=>W'.cell? ⟨b,off+xi.toNat*7,none⟩=some (.int .i64 l.k)/\W'.cell? ⟨C1,0,none⟩=some (.int .i64 l.w.rows)/\W'.cell? ⟨C1,1,none⟩=some (.int .i64 l.w.cols)/\W'.cell? ⟨C1,2,none⟩=some (.slice ja jn jk)/\W'.cell? ⟨B1,0,none⟩=some (.int .i64 l.b.rows)/\W'.cell? ⟨B1,1,none⟩=some (.int .i64 l.b.cols)/\W'.cell? ⟨B1,2,none⟩=some (.slice ma mn mk)) w8 from HSG.out w8 hgrow);clear hown hgrow hwh hnx))
      go_wp2
      go_meet
      exact H8.out
     case rest=>
      obtain ⟨h81,h82,h83,h84⟩:=hcut
      obtain ⟨v8,hv8⟩:=gM (u10)
      subst hv8
      obtain ⟨w8,hw8⟩:=gM (wc)
      subst hw8
      have HSZ:=h_ (show wb.heap.size<=(wb.alloc (.cells #[.int .i64 l.k,.int .i64 l.w.rows,.int .i64 l.w.cols,.slice ja jn jk,.int .i64 l.b.rows,.int .i64 l.b.cols,.slice ma mn mk] 58)).drew.heap.size from (d_ (o_ wb (.cells #[.int .i64 l.k,.int .i64 l.w.rows,.int .i64 l.w.cols,.slice ja jn jk,.int .i64 l.b.rows,.int .i64 l.b.cols,.slice ma mn mk] 58))).size)
      have nu:∀x,wr.heap.size<=x\/x<w.heap.size+1->some x≠o10.ownBlock:=fun x hx e=>by
       have h1:=HO1.out.lt x e.symm
       rcases hx with hx|hx<;>omega
      have nt:∀x,wr.heap.size<=x\/x<w.heap.size+1->some x≠t11.ownBlock:=fun x hx e=>by
       have h1:=HO2.out.lt x e.symm
       rcases hx with hx|hx<;>omega
      have HNT:=h_ nt
      have HXX:=h_ (show ∀b,v8.ownBlock=some b->t11.ownBlock≠some b from fun b hb he=>h84 b (.inl he) (fun hu=>HNE.out b hu he) hb)
      have HSM:=h_ (show ∀b,b<(wb.alloc (.cells #[.int .i64 l.k,.int .i64 l.w.rows,.int .i64 l.w.cols,.slice ja jn jk,.int .i64 l.b.rows,.int .i64 l.b.cols,.slice ma mn mk] 58)).drew.heap.size->v8.ownBlock=some b->o10.ownBlock=some b from fun b hlt hb=>by
       rcases h83 with h|h
       ·rw[<-h];exact hb
       ·rw[h]at hb
        have:=Option.some.inj hb
        omega)
      have HO8:=h_ (show OwnsX (fun b=>v8.ownBlock=some b\/b<w.heap.size) (w.heap.size+1) w8 61 6 t11 i (D.flatMap gdS) from (HO2.out.u_ HWA.out).kept h82 (fun b hb he=>HNE.out b he hb) (fun b hb=>.inl hb) (fun b hlt hb=>hb.imp (HSM.out b hlt) id))
      have pgk:∀{p:Int⊕List Int} {u:Value},P_ wb (fun b=>o10.ownBlock=some b\/(t11.ownBlock=some b\/b<w.heap.size)) p u->P_ w8 (fun b=>t11.ownBlock=some b\/(v8.ownBlock=some b\/b<w.heap.size)) p u:=fun {p u} hp=>(hp.u_ (d_ (o_ wb (.cells #[.int .i64 l.k,.int .i64 l.w.rows,.int .i64 l.w.cols,.slice ja jn jk,.int .i64 l.b.rows,.int .i64 l.b.cols,.slice ma mn mk] 58)))).grown h82 (fun b hb=>.inl hb) (fun b hlt hb=>hb.elim (fun h=>.inr (.inl h)) (fun h=>h.elim (fun h=>.inl (HSM.out b hlt h)) (fun h=>.inr (.inr h))))
      have HEN2:=h_ (show Enc (w8.alloc (.cells #[.int .i64 s1.rows,.int .i64 s1.cols,.slice ga gn gk,.int .i64 s2.rows,.int .i64 s2.cols,.slice oa on ok] 61)) (fun b=>t11.ownBlock=some b\/(v8.ownBlock=some b\/b<w.heap.size)) (gdS (s1,s2)) [.int .i64 s1.rows,.int .i64 s1.cols,.slice ga gn gk,.int .i64 s2.rows,.int .i64 s2.cols,.slice oa on ok] from enc_gd (d:=(s1,s2)) ((pgk HPS.out).u_ (o_ _ _)) ((pgk HPO.out).u_ (o_ _ _)))
      have c2:Cells3 (wb.alloc (.cells #[.int .i64 l.k,.int .i64 l.w.rows,.int .i64 l.w.cols,.slice ja jn jk,.int .i64 l.b.rows,.int .i64 l.b.cols,.slice ma mn mk] 58)).drew C2 (.int .i64 s1.rows) (.int .i64 s1.cols) (.slice ga gn gk):=⟨c_ (d_ (o_ _ _)) HC13.out.2.1,c_ (d_ (o_ _ _)) HC13.out.2.2.1,c_ (d_ (o_ _ _)) HC13.out.2.2.2⟩
      have c4:Cells3 (wb.alloc (.cells #[.int .i64 l.k,.int .i64 l.w.rows,.int .i64 l.w.cols,.slice ja jn jk,.int .i64 l.b.rows,.int .i64 l.b.cols,.slice ma mn mk] 58)).drew B2 (.int .i64 s2.rows) (.int .i64 s2.cols) (.slice oa on ok):=⟨c_ (d_ (o_ _ _)) HCB.out.2.1,c_ (d_ (o_ _ _)) HCB.out.2.2.1,c_ (d_ (o_ _ _)) HCB.out.2.2.2⟩
      have q0:=h82.cell c2.1 (nu _ (.inl HCN.out.2))
      have q1:=h82.cell c2.2.1 (nu _ (.inl HCN.out.2))
      have q2:=h82.cell c2.2.2 (nu _ (.inl HCN.out.2))
      have q3:=h82.cell c4.1 (nu _ (.inl (Nat.le_trans HDA.out.size HCM.out.2)))
      have q4:=h82.cell c4.2.1 (nu _ (.inl (Nat.le_trans HDA.out.size HCM.out.2)))
      have q5:=h82.cell c4.2.2 (nu _ (.inl (Nat.le_trans HDA.out.size HCM.out.2)))
      have HB8:=h_ (show Below w.heap.size w (w8.alloc (.cells #[.int .i64 s1.rows,.int .i64 s1.cols,.slice ga gn gk,.int .i64 s2.rows,.int .i64 s2.cols,.slice oa on ok] 61)) from a_ ((b_ HB.out HWA.out).grown h82 (Nat.le_trans HB.out.size HWA.out.size) (fun k hk=>by have:=(HO1.out.lt k hk).1;omega)))
      have HR8:=h_ (show Box (w8.alloc (.cells #[.int .i64 s1.rows,.int .i64 s1.cols,.slice ga gn gk,.int .i64 s2.rows,.int .i64 s2.cols,.slice oa on ok] 61)) w.heap.size [.int .i64 le,.int .i64 ke] from Box.u_ (fun j x hx=>h82.cell ((HR.out.u_ HWA.out) j x hx) (nu _ (.inr (Nat.lt_succ_self _)))) (o_ _ _))
      have HOX:=h_ (HO8.out.u_ (o_ w8 (.cells #[.int .i64 s1.rows,.int .i64 s1.cols,.slice ga gn gk,.int .i64 s2.rows,.int .i64 s2.cols,.slice oa on ok] 61)))
      have HO9:=h_ (h81.u_ (o_ w8 (.cells #[.int .i64 s1.rows,.int .i64 s1.cols,.slice ga gn gk,.int .i64 s2.rows,.int .i64 s2.cols,.slice oa on ok] 61)))
      have HNB2:=h_ (show Box (w8.alloc (.cells #[.int .i64 s1.rows,.int .i64 s1.cols,.slice ga gn gk,.int .i64 s2.rows,.int .i64 s2.cols,.slice oa on ok] 61)) w8.heap.size [.int .i64 s1.rows,.int .i64 s1.cols,.slice ga gn gk,.int .i64 s2.rows,.int .i64 s2.cols,.slice oa on ok] from Box.new _ _ _ rfl)
      have HBS2:=h_ (show w.heap.size+1<=(w8.alloc (.cells #[.int .i64 s1.rows,.int .i64 s1.cols,.slice ga gn gk,.int .i64 s2.rows,.int .i64 s2.cols,.slice oa on ok] 61)).heap.size from HR8.out.lt)
      have HXL2:=h_ (show ∀x,(v8.ownBlock=some x\/x<w.heap.size)->x<(w8.alloc (.cells #[.int .i64 s1.rows,.int .i64 s1.cols,.slice ga gn gk,.int .i64 s2.rows,.int .i64 s2.cols,.slice oa on ok] 61)).heap.size from fun x hx=>hx.elim (fun h=>(HO9.out.lt x h).2) (fun h=>by have:=HB8.out.size;omega))
      have HM3:=h_ (show (i+1)*80<=140737488355328 by omega)
      clear h81 h82 h83 h84 nu nt c2 c4 pgk HSB HOA HEN HNB HBS HXL HSG lm0 lm1 lm2 lm3 lm4 lm5 lm6
      go_wp2_with (at_builtin;refine wpList_append_ownsX rfl _ _ 23 rfl (w.heap.size+1) 61 d0 (.agg #[.int .i64 0,.int .i64 0,.slice none 0 0,.int .i64 0,.int .i64 0,.slice none 0 0]) 6 80 Tryz.underlying23 HDI.out.1 HDI.out.2.1 HDI.out.2.2.1 HDI.out.2.2.2 rfl (by decide) (fun b=>v8.ownBlock=some b\/b<w.heap.size) _ _ _ rfl HOX.out ⟨w8.heap.size,0,none⟩ 1 1 [.int .i64 s1.rows,.int .i64 s1.cols,.slice ga gn gk,.int .i64 s2.rows,.int .i64 s2.cols,.slice oa on ok] rfl rfl (fun q u hq=>by rw[addr_add];exact HNB2.out q u hq) (gdS (s1,s2)) HEN2.out HM1.out HM3.out HBS2.out HXL2.out ?_)
      intro v9 w9 hown hgrow hwh hnx
      have HN9:=h_ (show ∀b,v8.ownBlock=some b->v9.ownBlock≠some b from fun b hb=>hnx b (.inl hb) (HXX.out b hb))
      have HL9:=h_ (show OwnsX (fun b=>v9.ownBlock=some b\/b<w.heap.size) (w.heap.size+1) w9 58 7 v8 (i+1) ((L++[(⟨l.k,n1,n2⟩:Ly)]).flatMap lyS) by
       rw[<-flat_snoc]
       exact HO9.out.kept (X':=fun b=>v9.ownBlock=some b\/b<w.heap.size) hgrow (fun b hb he=>HXX.out b hb he) (fun b hb=>.inl hb) (fun b hlt hb=>hb.imp (fun hb=>by
        rcases hwh with h|h
        ·rw[<-h];exact hb
        ·rw[h]at hb
         have:=Option.some.inj hb
         simp at hlt
         omega) id))
      have HG9:=h_ (show OwnsX (fun b=>v8.ownBlock=some b\/b<w.heap.size) (w.heap.size+1) w9 61 6 v9 (i+1) ((D++[(s1,s2)]).flatMap gdS) by rw[<-flat_snoc];exact hown)
      have HB9:=h_ (show Below w.heap.size w w9 from HB8.out.grown hgrow HB8.out.size (fun k hk=>by have:=(HO2.out.lt k hk).1;omega))
      have HR9:=h_ (show Box w9 w.heap.size [.int .i64 le,.int .i64 ke] from fun j x hx=>hgrow.cell (HR8.out j x hx) (HNT.out _ (.inr (Nat.lt_succ_self _))))
      clear hown hgrow hwh hnx q0 q1 q2 q3 q4 q5
      go_wp2
      go_roundw
      case rel=>exact ⟨i+1,_,L++[⟨l.k,n1,n2⟩],D++[(s1,s2)],by omega,by have:=HXI.out;omega,rfl,by rw[List.length_append,HLL.out.1];rfl,by rw[List.length_append,HLL.out.2];rfl,HS1.out,HS2.out,HRE.out,HL9.out,HG9.out,HN9.out,HR9.out,HB9.out⟩
      case measure=>have:=HXI.out;simp[intOf];omega
  ·have hin:i=N:=by have:=HXI.out;omega
   obtain ⟨hL,hD,hpl,hpd,_⟩:=HLD.out
   rw[hin,<-HN.out.1,List.drop_length]at hpl hpd
   replace hpl:L=stpL le ke ls ps qs:=by rw[<-hpl];show L=L++[];simp
   replace hpd:D=stpG ke ls ps qs:=by rw[<-hpd];show D=D++[];simp
   have HM:=h_ (show Owns 0 w.heap.size wr 58 7 o10 (stpL le ke ls ps qs).length ((stpL le ke ls ps qs).flatMap lyS) by rw[<-hpl,hL];exact HO1.out.low (Nat.le_succ _))
   have HM':=h_ (show Owns 0 w.heap.size wr 61 6 t11 (stpG ke ls ps qs).length ((stpG ke ls ps qs).flatMap gdS) by rw[<-hpd,hD];exact HO2.out.low (Nat.le_succ _))
   clear hin hL hD hpl hpd
   go_wp2
   exact bodyPost_ret (v:=.tuple #[o10,t11]) (by simp[results,Tryz.results31,go_sem]) rfl ⟨_,_,rfl,HM.out,HM'.out,HB.out⟩
end Go.Proofs.YtniloklglpchfaeGreatDoor
