/- What Do of package step comes to: the new net and the new speed, or what is wrong. -/
import Derived.Test.YtniloklglpchfafStpC
import Derived.Test.YtniloklglpchfafStpU
import Derived.Test.YtniloklglpchfafLists2
import Derived.Test.YtniloklglpchfafPkTrC3
namespace Go.Proofs.Ytniloklglpchfaf
open Go.RowKit
set_option maxHeartbeats 16000000 in
set_option maxRecDepth 100000 in
theorem stepdo_any(v v1 v2:Value)(ls:List Ly)(ps qs:List (Mx×Mx))(le ke:Int)(w:World)(hv:Y_ w v ls)(hp:D_ w v1 ps)(hq:D_ w v2 qs):
  Calls Try.prog 20 #[v,v1,v2,.agg #[.int .i64 le,.int .i64 ke]] w fun e w'=>∃u t,e=.returned (.tuple #[u,t,errV (stE ls ps qs le ke)])∧Owns 0 w.heap.size w' 52 7 u (doL ls ps qs le ke).length ((doL ls ps qs le ke).flatMap lyS)∧Owns 0 w.heap.size w' 79 6 t (doG ls ps qs le ke).length ((doG ls ps qs le ke).flatMap gdS)∧Below w.heap.size w w':=by
 obtain ⟨a,cap,rfl,hlc,hcm⟩:=hv.shape
 obtain ⟨a1,cap1,rfl,hlc1,hcm1⟩:=hp.shape
 obtain ⟨a2,cap2,rfl,hlc2,hcm2⟩:=hq.shape
 have HV:=h_ hv
 have HP:=h_ hp
 have HQ:=h_ hq
 obtain ⟨N,hN⟩:=gN (ls.length)
 obtain ⟨N1,hN1⟩:=gN (ps.length)
 obtain ⟨N2,hN2⟩:=gN (qs.length)
 have HN:=h_ (And.intro hN (And.intro hN1 hN2))
 have HML:=h_ (show N≤maxLen by omega)
 rw[hN]at HV ⊢
 rw[hN1]at HP ⊢
 rw[hN2]at HQ ⊢
 clear hv hp hq hlc hcm hlc1 hcm1 hlc2 hcm2 hN hN1 hN2
 obtain ⟨E,hE⟩:=gN (stE ls ps qs le ke)
 have HE:=h_ hE
 rw[hE]
 clear hE
 obtain ⟨V,hV⟩:=gM (w.alloc (.cells #[.int .i64 le,.int .i64 ke] 30))
 have HVV:=h_ hV
 have HWV:Hid (Below w.heap.size w V):=by rw[hV];exact h_ (o_ _ _)
 have HRB:Hid (Box V w.heap.size [.int .i64 le,.int .i64 ke]):=by rw[hV];exact h_ (Box.new w _ 30 rfl)
 have HVS:Hid (V.heap.size=w.heap.size+1):=by rw[hV];exact h_ (by simp)
 have HCR:=h_ (rates_any le ke V)
 have HCN:=h_ (fun W=>counts_any a a1 a2 N N1 N2 cap cap1 cap2 W HML.out)
 obtain ⟨hr0,hr1⟩:=HRB.out.c2
 clear hV
 by_cases hbad:badR le ke=true
 ·obtain rfl:E=1:=by rw[←HE.out];unfold stE;rw[if_pos hbad]
  have HLG:=h_ (show doL ls ps qs le ke=[]∧doG ls ps qs le ke=[] by unfold doL doG;rw[HE.out,if_neg (by decide),if_neg (by decide)];exact ⟨rfl,rfl⟩)
  rw[if_pos hbad,n_ (by decide)]at HCR
  rw[n_ (by decide)]
  go_enter Try.func20,Try.ntmps20
  go_wp2_with fail
  rw[←HVV.out]
  refine HCR.out.mono ?_
  rintro e w1 ⟨rfl,hb1⟩
  have HB1:=h_ (b_ HWV.out hb1)
  clear hb1 hr0 hr1
  go_wp2
  exact bodyPost_ret (v:=.tuple #[.slice none 0 0,.slice none 0 0,.iface 65 (.int .i64 1)]) (by simp[results,Try.results20,go_sem]) rfl ⟨_,_,rfl,by rw[HLG.out.1];exact Owns.nil _ _ _ _ _,by rw[HLG.out.2];exact Owns.nil _ _ _ _ _,HB1.out⟩
 ·rw[if_neg hbad,e_ rfl]at HCR
  have HBD:=h_ hbad
  clear hbad
  by_cases hcn:(if 12<N then (3:Int) else if N1≠N∨N2≠N then 2 else 0)=0
  case neg=>
   obtain ⟨C,hC⟩:=gN ((if 12<N then (3:Int) else if N1≠N∨N2≠N then 2 else 0))
   have hEC:E=C:=by
    rw[←HE.out];unfold stE;rw[if_neg HBD.out,HN.out.1,HN.out.2.1,HN.out.2.2]
    by_cases h1:12<N
    ·rw[if_pos h1]at hC ⊢;exact hC
    ·rw[if_neg h1]at hC hcn ⊢
     by_cases h2:N1≠N∨N2≠N
     ·rw[if_pos h2]at hC ⊢;exact hC
     ·rw[if_neg h2]at hcn;exact absurd rfl hcn
   subst hEC
   rw[hC]at hcn HCN
   have HLG:=h_ (show doL ls ps qs le ke=[]∧doG ls ps qs le ke=[] by unfold doL doG;rw[HE.out,if_neg hcn,if_neg hcn];exact ⟨rfl,rfl⟩)
   rw[n_ hcn]at HCN ⊢
   clear hC hcn
   go_enter Try.func20,Try.ntmps20
   go_wp2_with fail
   rw[←HVV.out]
   refine HCR.out.mono ?_
   rintro e w1 ⟨rfl,hb1⟩
   have HB1:=h_ (b_ HWV.out hb1)
   clear hb1 hr0 hr1
   go_wp2_with fail
   refine (HCN.out w1).mono ?_
   rintro e w2 ⟨rfl,rfl⟩
   go_wp2
   exact bodyPost_ret (v:=.tuple #[.slice none 0 0,.slice none 0 0,.iface 65 (.int .i64 E)]) (by simp[results,Try.results20,go_sem]) rfl ⟨_,_,rfl,by rw[HLG.out.1];exact Owns.nil _ _ _ _ _,by rw[HLG.out.2];exact Owns.nil _ _ _ _ _,HB1.out⟩
  case pos=>
  have h3:¬12<N∧N1=N∧N2=N:=by
   by_cases h1:12<N
   ·rw[if_pos h1]at hcn;cases hcn
   ·rw[if_neg h1]at hcn
    by_cases h2:N1≠N∨N2≠N
    ·rw[if_pos h2]at hcn;cases hcn
    ·exact ⟨h1,Decidable.not_not.1 (fun h=>h2 (.inl h)),Decidable.not_not.1 (fun h=>h2 (.inr h))⟩
  rw[hcn,e_ rfl]at HCN
  obtain ⟨h12,e1,e2⟩:=h3
  subst e1
  subst e2
  have HE0:=h_ (show stpE ls ps qs=E by rw[←HE.out];unfold stE;rw[if_neg HBD.out,if_neg (by rw[HN.out.1];exact h12),if_neg (by rw[HN.out.1,HN.out.2.1,HN.out.2.2];simp)])
  have HLG:=h_ (show (E=0→doL ls ps qs le ke=stpL le ke ls ps qs∧doG ls ps qs le ke=stpG ke ls ps qs)∧(E≠0→doL ls ps qs le ke=[]∧doG ls ps qs le ke=[]) by
   unfold doL doG;rw[HE.out]
   exact ⟨fun h=>by rw[if_pos h,if_pos h];exact ⟨rfl,rfl⟩,fun h=>by rw[if_neg h,if_neg h];exact ⟨rfl,rfl⟩⟩)
  have hN12:N2≤12:=by omega
  have hmk:=run_mkL 52 22 7 88 _ Try.underlying22 infoLy2 (N2:Int) N2 rfl (by omega) (by omega)
  have hmk2:=run_mkL 79 23 6 80 _ Try.underlying23 infoGd (N2:Int) N2 rfl (by omega) (by omega)
  obtain ⟨e0,ei,hz0,hz1,hz2⟩:=info_parts infoLy2
  have HEI:=h_ (And.intro ei (And.intro hz0 (And.intro hz1 hz2)))
  obtain ⟨d0,di,hw0,hw1,hw2⟩:=info_parts infoGd
  have HDI:=h_ (And.intro di (And.intro hw0 (And.intro hw1 hw2)))
  clear ei hz0 hz1 hz2 di hw0 hw1 hw2 hcn h12 HE
  go_enter Try.func20,Try.ntmps20
  go_wp2_with fail
  rw[←HVV.out]
  refine HCR.out.mono ?_
  rintro e w0 ⟨rfl,hb1⟩
  have HB1:=h_ (b_ HWV.out hb1)
  have HR1:=h_ (HRB.out.u_ hb1)
  have HS1:=h_ (show w.heap.size+1≤w0.heap.size by rw[←HVS.out];exact hb1.size)
  clear hb1 hr0 hr1 HCR HRB
  go_wp2_with fail
  refine (HCN.out w0).mono ?_
  rintro e w1 ⟨rfl,rfl⟩
  clear HCN
  go_wp2
  clear hmk hmk2
  go_loopw [13,14,39] (fun o t c wr=>∃(i:Nat) (xi:Int) (L:List Ly) (D:List (Mx×Mx)),i≤N2∧xi=(i:Int)∧c=.int .i64 xi∧L.length=i∧D.length=i∧L++stpL le ke (ls.drop i) (ps.drop i) (qs.drop i)=stpL le ke ls ps qs∧D++stpG ke (ls.drop i) (ps.drop i) (qs.drop i)=stpG ke ls ps qs∧stpE (ls.drop i) (ps.drop i) (qs.drop i)=E∧OwnsX (fun b=>t.ownBlock=some b∨b<w.heap.size) (w.heap.size+1) wr 52 7 o i (L.flatMap lyS)∧OwnsX (fun b=>o.ownBlock=some b∨b<w.heap.size) (w.heap.size+1) wr 79 6 t i (D.flatMap gdS)∧(∀b,o.ownBlock=some b→t.ownBlock≠some b)∧Box wr w.heap.size [.int .i64 le,.int .i64 ke]∧Below w.heap.size w wr) (fun _ _ c _=>N2 - (intOf c).toNat)
  case atStart=>
   have s1:=HS1.out
   refine ⟨0,0,[],[],Nat.zero_le _,rfl,rfl,rfl,rfl,rfl,rfl,HE0.out,?_,?_,?_,(HR1.out.u_ (o_ _ _)).u_ (o_ _ _),a_ (a_ HB1.out)⟩
   ·exact (OwnsX.room (X:=_) (rawCells (.agg #[.int .i64 0,.int .i64 0,.int .i64 0,.slice none 0 0,.int .i64 0,.int .i64 0,.slice none 0 0]) (N2*7)) s1 (by unfold maxLen;omega) (rawCells_size _ _)).u_ (o_ _ _)
   ·have h:=OwnsX.room (X:=fun b=>(Value.slice (some ⟨w1.heap.size,0,none⟩) 0 N2).ownBlock=some b∨b<w.heap.size) (w:=(w1.alloc (.cells (rawCells (.agg #[.int .i64 0,.int .i64 0,.int .i64 0,.slice none 0 0,.int .i64 0,.int .i64 0,.slice none 0 0]) (N2*7)) 52))) (base:=w.heap.size+1) (e:=79) (size:=6) (cap:=N2) (rawCells (.agg #[.int .i64 0,.int .i64 0,.slice none 0 0,.int .i64 0,.int .i64 0,.slice none 0 0]) (N2*6)) (by rw[World.size_alloc];omega) (by unfold maxLen;omega) (rawCells_size _ _)
    rw[World.size_alloc]at h
    exact h
   ·intro b hb hb'
    simp[Value.ownBlock]at hb hb'
    omega
  case round=>
   obtain ⟨i,xi,L,D,hi,hxi,rfl,hL,hD,hpl,hpd,he,ho1,ho2,hne,hrb,hb⟩:=hrel
   obtain ⟨o13,ho13⟩:=gM (u13)
   subst ho13
   obtain ⟨t14,ht14⟩:=gM (u14)
   subst ht14
   have HXI:=h_ hxi
   have HLD:=h_ (And.intro hL (And.intro hD (And.intro hpl (And.intro hpd he))))
   have HO1:=h_ ho1
   have HO2:=h_ ho2
   have HNE:=h_ hne
   have HR:=h_ hrb
   have HB:=h_ hb
   have hxi0:0≤xi:=by omega
   have hxi1:xi≤12:=by omega
   clear hxi hL hD hpl hpd he ho1 ho2 hne hrb hb
   by_cases hlt:xi<(N2:Int)
   ·have hin:i<N2:=by have:=HXI.out;omega
    have hxn:xi.toNat=i:=by have:=HXI.out;omega
    obtain ⟨l,hl⟩:∃x,ls[i]?=some x:=⟨ls[i]'(by have:=HN.out.1;omega),List.getElem?_eq_getElem _⟩
    obtain ⟨p,hp⟩:∃x,ps[i]?=some x:=⟨ps[i]'(by have:=HN.out.2.1;omega),List.getElem?_eq_getElem _⟩
    obtain ⟨q,hq⟩:∃x,qs[i]?=some x:=⟨qs[i]'(by have:=HN.out.2.2;omega),List.getElem?_eq_getElem _⟩
    obtain ⟨b,off,cp,sa,sn,sk,ta,tn,tk,ev,k0,k1,k2,k3,k4,k5,k6,hly⟩:=HV.out.at hl
    injection ev with ev1 ev2 ev3
    clear ev2 ev3
    subst ev1
    obtain ⟨b1,off1,cp1,pa,pn,pk,qa,qn,qk,ev,y0,y1,y2,y3,y4,y5,hpw,hpb⟩:=HP.out.at hp
    injection ev with ev1 ev2 ev3
    clear ev2 ev3
    subst ev1
    obtain ⟨b2,off2,cp2,xa,xn,xk,ya,yn,yk,ev,z0,z1,z2,z3,z4,z5,hqw,hqb⟩:=HQ.out.at hq
    injection ev with ev1 ev2 ev3
    clear ev2 ev3
    subst ev1
    rw[←hxn]at k0 k1 k2 k3 k4 k5 k6 y0 y1 y2 y3 y4 y5 z0 z1 z2 z3 z4 z5
    have HK:=h_ (fun W (h:Below w.heap.size w W)=>And.intro (c_ h k0) (And.intro (c_ h k1) (And.intro (c_ h k2) (And.intro (c_ h k3) (And.intro (c_ h k4) (And.intro (c_ h k5) (And.intro (c_ h k6) (And.intro (c_ h y0) (And.intro (c_ h y1) (And.intro (c_ h y2) (And.intro (c_ h y3) (And.intro (c_ h y4) (And.intro (c_ h y5) (And.intro (c_ h z0) (And.intro (c_ h z1) (And.intro (c_ h z2) (And.intro (c_ h z3) (And.intro (c_ h z4) (c_ h z5)))))))))))))))))))
    have HI:=h_ (And.intro (Y_.ints hly) (And.intro (And.intro hpw hpb) (And.intro hqw hqb)))
    obtain ⟨hL,hD,hpl,hpd,he⟩:=HLD.out
    rw[drop_at hl,drop_at hp,drop_at hq]at hpl hpd he
    replace he:(if stp1E l p q≠0 then stp1E l p q else stpE (ls.drop (i+1)) (ps.drop (i+1)) (qs.drop (i+1)))=E:=he
    have HLL:=h_ (And.intro hL hD)
    have HX:=h_ (fun W (h:Below w.heap.size w W)=>chklayer_any l p q sa sn sk ta tn tk pa pn pk qa qn qk xa xn xk ya yn yk W (HI.out.1.1.u_ h) (HI.out.1.2.u_ h) (HI.out.2.1.1.u_ h) (HI.out.2.1.2.u_ h) (HI.out.2.2.1.u_ h) (HI.out.2.2.2.u_ h))
    clear hly hpw hpb hqw hqb hl hp hq hxn hL hD k0 k1 k2 k3 k4 k5 k6 y0 y1 y2 y3 y4 y5 z0 z1 z2 z3 z4 z5 HLD
    obtain ⟨k0,k1,k2,k3,k4,k5,k6,y0,y1,y2,y3,y4,y5,z0,z1,z2,z3,z4,z5⟩:=HK.out wr HB.out
    by_cases h1E:stp1E l p q=0
    ·have hrE:stpE (ls.drop (i+1)) (ps.drop (i+1)) (qs.drop (i+1))=E:=by rw[if_neg (by simp[h1E])]at he;exact he
     obtain ⟨⟨R1,C1,gw,gp,gq⟩,⟨R2,C2,gb,gp2,gq2⟩⟩:=stp1_sizes h1E
     have gs1:=gp.spd gq ke
     have gs2:=gp2.spd gq2 ke
     obtain ⟨s1,es1⟩:=gN (spdX p.1 q.1 ke)
     obtain ⟨s2,es2⟩:=gN (spdX p.2 q.2 ke)
     rw[es1]at gs1
     rw[es2]at gs2
     obtain ⟨n1,en1⟩:=gN (newX l.w s1 le)
     obtain ⟨n2,en2⟩:=gN (newX l.b s2 le)
     have HS1:=h_ (show (L++[⟨l.k,n1,n2⟩])++stpL le ke (ls.drop (i+1)) (ps.drop (i+1)) (qs.drop (i+1))=stpL le ke ls ps qs by
      rw[←hpl];show _=L++(stp1L l p q le ke::_);unfold stp1L;rw[es1,es2,en1,en2];simp)
     have HS2:=h_ (show (D++[(s1,s2)])++stpG ke (ls.drop (i+1)) (ps.drop (i+1)) (qs.drop (i+1))=stpG ke ls ps qs by
      rw[←hpd];show _=D++(stp1G p q ke::_);unfold stp1G;rw[es1,es2];simp)
     have HRE:=h_ hrE
     have HT:=h_ (fun W (h:Below w.heap.size w W)=>speedup_any p q s1 s2 ke gp gq gp2 gq2 es1 es2 pa pn pk qa qn qk xa xn xk ya yn yk W (HI.out.2.1.1.u_ h) (HI.out.2.2.1.u_ h) (HI.out.2.1.2.u_ h) (HI.out.2.2.2.u_ h))
     have HTT:=h_ (fun W (ga:Option Addr) (gn gk:Nat) (oa:Option Addr) (on ok:Nat) (h:Below w.heap.size w W) (h1:I_ W (.slice ga gn gk) s1.cells) (h2:I_ W (.slice oa on ok) s2.cells)=>stpturn_any l s1 s2 n1 n2 le gw gs1 gb gs2 en1 en2 sa sn sk ta tn tk ga gn gk oa on ok W (HI.out.1.1.u_ h) h1 (HI.out.1.2.u_ h) h2)
     clear hpl hpd he hrE gw gp gq gb gp2 gq2 gs1 gs2 es1 es2 en1 en2
     have HX1:=h_ (HX.out (wr.alloc (.cells #[.int .i64 l.k,.int .i64 l.w.rows,.int .i64 l.w.cols,.slice sa sn sk,.int .i64 l.b.rows,.int .i64 l.b.cols,.slice ta tn tk] 52)).drew (d_ (a_ HB.out)))
     rw[h1E,e_ rfl]at HX1
     have HBU:=h_ (show Below w.heap.size w (wr.alloc (.cells #[.int .i64 l.k,.int .i64 l.w.rows,.int .i64 l.w.cols,.slice sa sn sk,.int .i64 l.b.rows,.int .i64 l.b.cols,.slice ta tn tk] 52)) from a_ HB.out)
     have HLB:=h_ (show Box (wr.alloc (.cells #[.int .i64 l.k,.int .i64 l.w.rows,.int .i64 l.w.cols,.slice sa sn sk,.int .i64 l.b.rows,.int .i64 l.b.cols,.slice ta tn tk] 52)) wr.heap.size [.int .i64 l.k,.int .i64 l.w.rows,.int .i64 l.w.cols,.slice sa sn sk,.int .i64 l.b.rows,.int .i64 l.b.cols,.slice ta tn tk] from Box.new _ _ _ rfl)
     go_wp2
     obtain ⟨U,hU⟩:=gM ((wr.alloc (.cells #[.int .i64 l.k,.int .i64 l.w.rows,.int .i64 l.w.cols,.slice sa sn sk,.int .i64 l.b.rows,.int .i64 l.b.cols,.slice ta tn tk] 52)))
     rw[←hU]at HX1 HBU HLB ⊢
     have HRU:=h_ (show Below wr.heap.size wr U by rw[hU];exact o_ _ _)
     clear hU HX k0 k1 k2 k3 k4 k5 k6 y0 y1 y2 y3 y4 y5 z0 z1 z2 z3 z4 z5
     obtain ⟨_,_,_,_,_,_,_,y0,y1,y2,y3,y4,y5,z0,z1,z2,z3,z4,z5⟩:=HK.out U HBU.out
     obtain ⟨b0,b1,b2,b3,b4,b5,b6⟩:=HLB.out.c7
     refine region_tail 9 (by kernel_rfl) (by kernel_rfl) ?_
     simp only[List.take_succ_cons,List.take_zero,List.drop_succ_cons,List.drop_zero]
     repeat still_step
     refine wpStill_nil ?_
     go_wp2_with fail
     refine HX1.out.mono ?_
     rintro e w2 ⟨rfl,hb2⟩
     have HB2:=h_ (show Below U.heap.size U w2 from b_ (r_ (Below.refl _ _)) hb2)
     clear hb2 HX1 y0 y1 y2 y3 y4 y5 z0 z1 z2 z3 z4 z5 b0 b1 b2 b3 b4 b5 b6
     have HDW:=h_ (show Below wr.heap.size wr w2 from b_ HRU.out HB2.out)
     have HBW2:=h_ (show Below w.heap.size w w2 from b_ HBU.out HB2.out)
     have HSB:Hid (∀W',Below w2.heap.size w2 W'→(fun W'=>W'.cell? ⟨b1,off1+xi.toNat*6,none⟩=some (.int .i64 p.1.rows)∧W'.cell? ⟨b1,off1+xi.toNat*6+1,none⟩=some (.int .i64 p.1.cols)∧W'.cell? ⟨b1,off1+xi.toNat*6+2,none⟩=some (.slice pa pn pk)∧W'.cell? ⟨b1,off1+xi.toNat*6+3,none⟩=some (.int .i64 p.2.rows)∧W'.cell? ⟨b1,off1+xi.toNat*6+4,none⟩=some (.int .i64 p.2.cols)∧W'.cell? ⟨b1,off1+xi.toNat*6+5,none⟩=some (.slice qa qn qk)∧W'.cell? ⟨b2,off2+xi.toNat*6,none⟩=some (.int .i64 q.1.rows)∧W'.cell? ⟨b2,off2+xi.toNat*6+1,none⟩=some (.int .i64 q.1.cols)∧W'.cell? ⟨b2,off2+xi.toNat*6+2,none⟩=some (.slice xa xn xk)∧W'.cell? ⟨b2,off2+xi.toNat*6+3,none⟩=some (.int .i64 q.2.rows)∧W'.cell? ⟨b2,off2+xi.toNat*6+4,none⟩=some (.int .i64 q.2.cols)∧W'.cell? ⟨b2,off2+xi.toNat*6+5,none⟩=some (.slice ya yn yk)∧W'.cell? ⟨w.heap.size,1,none⟩=some (.int .i64 ke)) W'):=h_ (fun W' h=>by
      obtain ⟨k0,k1,k2,k3,k4,k5,k6,y0,y1,y2,y3,y4,y5,z0,z1,z2,z3,z4,z5⟩:=HK.out W' (b_ HBW2.out h)
      exact ⟨y0,y1,y2,y3,y4,y5,z0,z1,z2,z3,z4,z5,(HR.out.u_ (b_ HDW.out h)) 1 _ rfl⟩)
     have HT3:=h_ (HT.out (w2.alloc (.cells #[.int .i64 0,.int .i64 0,.slice none 0 0,.int .i64 0,.int .i64 0,.slice none 0 0] 79)).drew (b_ HBW2.out (d_ (a_ (Below.refl w2.heap.size w2)))))
     have HT0:=h_ (HT.out w2.drew (b_ HBW2.out (d_ (Below.refl w2.heap.size w2))))
     obtain ⟨lm0,lm1,lm2,lm3,lm4,lm5,lm6,lm7,lm8,lm9,lm10,lm11,lm12⟩:=HSB.out w2 (Below.refl _ _)
     go_wp2
     go_cut [18] from 57 to 67 (fun a wx=>∃(Bk:Nat) (ga:Option Addr) (gn gk:Nat) (oa:Option Addr) (on ok:Nat),a=.pointer (some ⟨Bk,0,none⟩)∧I_ wx (.slice ga gn gk) s1.cells∧I_ wx (.slice oa on ok) s2.cells∧Cells6 wx Bk (.int .i64 s1.rows) (.int .i64 s1.cols) (.slice ga gn gk) (.int .i64 s2.rows) (.int .i64 s2.cols) (.slice oa on ok)∧F_ w2.heap.size (.agg #[.int .i64 s1.rows,.int .i64 s1.cols,.slice ga gn gk])∧F_ w2.heap.size (.agg #[.int .i64 s2.rows,.int .i64 s2.cols,.slice oa on ok])∧w2.heap.size≤Bk∧Below w2.heap.size w2 wx)
     case first=>
      go_region_held3 (fun W'=>W'.cell? ⟨b1,off1+xi.toNat*6,none⟩=some (.int .i64 p.1.rows)∧W'.cell? ⟨b1,off1+xi.toNat*6+1,none⟩=some (.int .i64 p.1.cols)∧W'.cell? ⟨b1,off1+xi.toNat*6+2,none⟩=some (.slice pa pn pk)∧W'.cell? ⟨b1,off1+xi.toNat*6+3,none⟩=some (.int .i64 p.2.rows)∧W'.cell? ⟨b1,off1+xi.toNat*6+4,none⟩=some (.int .i64 p.2.cols)∧W'.cell? ⟨b1,off1+xi.toNat*6+5,none⟩=some (.slice qa qn qk)∧W'.cell? ⟨b2,off2+xi.toNat*6,none⟩=some (.int .i64 q.1.rows)∧W'.cell? ⟨b2,off2+xi.toNat*6+1,none⟩=some (.int .i64 q.1.cols)∧W'.cell? ⟨b2,off2+xi.toNat*6+2,none⟩=some (.slice xa xn xk)∧W'.cell? ⟨b2,off2+xi.toNat*6+3,none⟩=some (.int .i64 q.2.rows)∧W'.cell? ⟨b2,off2+xi.toNat*6+4,none⟩=some (.int .i64 q.2.cols)∧W'.cell? ⟨b2,off2+xi.toNat*6+5,none⟩=some (.slice ya yn yk)∧W'.cell? ⟨w.heap.size,1,none⟩=some (.int .i64 ke)) ((refine HSB.out _ ?_;repeat' (first|with_reducible exact Below.refl _ _|with_reducible exact HB3.out|with_reducible refine d_ ?_|with_reducible refine a_ ?_|with_reducible refine t_ ?_ ?_|exact Nat.le_refl _|exact Nat.le_succ _|exact HB3.out.size|exact Nat.le_succ_of_le HB3.out.size)))
       (first
        |(go_at_call 43;guard_target=Calls _ _ _ (World.drew (World.alloc w2 (Obj.cells #[_,_,_,_,_,_] _))) _;refine HT3.out.mono ?_;rintro e wz ⟨ga,gn,gk,oa,on,ok,rfl,hi1,hi2,hf1,hf2,hb2⟩;have hc2:=b_ (r_ (Below.refl _ (w2.alloc (.cells #[.int .i64 0,.int .i64 0,.slice none 0 0,.int .i64 0,.int .i64 0,.slice none 0 0] 79)))) hb2;have HB3:=h_ (show Below w2.heap.size w2 wz from b_ (o_ w2 (.cells #[.int .i64 0,.int .i64 0,.slice none 0 0,.int .i64 0,.int .i64 0,.slice none 0 0] 79)) hc2);have ZB3:=h_ ((Box.new w2 [.int .i64 0,.int .i64 0,.slice none 0 0,.int .i64 0,.int .i64 0,.slice none 0 0] 79 (B:=w2.heap.size) rfl).u_ hc2);have ZB3l:=h_ (Box.new w2 [.int .i64 0,.int .i64 0,.slice none 0 0,.int .i64 0,.int .i64 0,.slice none 0 0] 79 (B:=w2.heap.size) rfl).lt;have ZF3:=h_ ((Free.new w2 #[.int .i64 0,.int .i64 0,.slice none 0 0,.int .i64 0,.int .i64 0,.slice none 0 0] 79 (B:=w2.heap.size) rfl).u_ hc2 ZB3l.out);obtain ⟨z30,z31,z32,z33,z34,z35⟩:=ZB3.out.c6;obtain ⟨f30,f31,f32,f33,f34,f35⟩:=ZF3.out.f6;have HEa:Hid (Cells6 ((((((wz.setCell ⟨w2.heap.size,0,none⟩ (.int .i64 s1.rows)).setCell ⟨w2.heap.size,1,none⟩ (.int .i64 s1.cols)).setCell ⟨w2.heap.size,2,none⟩ (.slice ga gn gk)).setCell ⟨w2.heap.size,3,none⟩ (.int .i64 s2.rows)).setCell ⟨w2.heap.size,4,none⟩ (.int .i64 s2.cols)).setCell ⟨w2.heap.size,5,none⟩ (.slice oa on ok)) w2.heap.size (.int .i64 s1.rows) (.int .i64 s1.cols) (.slice ga gn gk) (.int .i64 s2.rows) (.int .i64 s2.cols) (.slice oa on ok)):=h_ (cells6_of (set_six ZB3.out _ _ _ _ _ _));have HF1:=h_ (show F_ (w2.heap.size+1) (.agg #[.int .i64 s1.rows,.int .i64 s1.cols,.slice ga gn gk]) from f_ hf1 (szd1 _ _));have HF2:=h_ (show F_ (w2.heap.size+1) (.agg #[.int .i64 s2.rows,.int .i64 s2.cols,.slice oa on ok]) from f_ hf2 (szd1 _ _));have HG1:=h_ (f_ HF1.out (Nat.le_succ _));have HG2:=h_ (f_ HF2.out (Nat.le_succ _));have HI1:=h_ (show I_ ((((((wz.setCell ⟨w2.heap.size,0,none⟩ (.int .i64 s1.rows)).setCell ⟨w2.heap.size,1,none⟩ (.int .i64 s1.cols)).setCell ⟨w2.heap.size,2,none⟩ (.slice ga gn gk)).setCell ⟨w2.heap.size,3,none⟩ (.int .i64 s2.rows)).setCell ⟨w2.heap.size,4,none⟩ (.int .i64 s2.cols)).setCell ⟨w2.heap.size,5,none⟩ (.slice oa on ok)) (.slice ga gn gk) s1.cells from I_.aboveF hi1 HF1.out (v_ (v_ (v_ (v_ (v_ (v_ (Above.refl _ _) (by omega)) (by omega)) (by omega)) (by omega)) (by omega)) (by omega)));have HI2:=h_ (show I_ ((((((wz.setCell ⟨w2.heap.size,0,none⟩ (.int .i64 s1.rows)).setCell ⟨w2.heap.size,1,none⟩ (.int .i64 s1.cols)).setCell ⟨w2.heap.size,2,none⟩ (.slice ga gn gk)).setCell ⟨w2.heap.size,3,none⟩ (.int .i64 s2.rows)).setCell ⟨w2.heap.size,4,none⟩ (.int .i64 s2.cols)).setCell ⟨w2.heap.size,5,none⟩ (.slice oa on ok)) (.slice oa on ok) s2.cells from I_.aboveF hi2 HF2.out (v_ (v_ (v_ (v_ (v_ (v_ (Above.refl _ _) (by omega)) (by omega)) (by omega)) (by omega)) (by omega)) (by omega)));have HNb:=h_ (Nat.le_refl w2.heap.size);clear hc2;clear hb2 hi1 hi2 hf1 hf2)
        |(go_at_call 43;guard_target=Calls _ _ _ (World.drew w2) _;refine HT0.out.mono ?_;rintro e wz ⟨ga,gn,gk,oa,on,ok,rfl,hi1,hi2,hf1,hf2,hb2⟩;have hc2:=b_ (r_ (Below.refl _ w2)) hb2;have HB3:=h_ (show Below w2.heap.size w2 wz from hc2);have HEa:Hid (Cells6 (wz.alloc (.cells #[.int .i64 s1.rows,.int .i64 s1.cols,.slice ga gn gk,.int .i64 s2.rows,.int .i64 s2.cols,.slice oa on ok] 79)) wz.heap.size (.int .i64 s1.rows) (.int .i64 s1.cols) (.slice ga gn gk) (.int .i64 s2.rows) (.int .i64 s2.cols) (.slice oa on ok)):=h_ (cells6_of (Box.new wz [.int .i64 s1.rows,.int .i64 s1.cols,.slice ga gn gk,.int .i64 s2.rows,.int .i64 s2.cols,.slice oa on ok] 79 rfl));have HG1:=h_ (show F_ w2.heap.size (.agg #[.int .i64 s1.rows,.int .i64 s1.cols,.slice ga gn gk]) from hf1);have HG2:=h_ (show F_ w2.heap.size (.agg #[.int .i64 s2.rows,.int .i64 s2.cols,.slice oa on ok]) from hf2);have HI1:=h_ (show I_ (wz.alloc (.cells #[.int .i64 s1.rows,.int .i64 s1.cols,.slice ga gn gk,.int .i64 s2.rows,.int .i64 s2.cols,.slice oa on ok] 79)) (.slice ga gn gk) s1.cells from hi1.u_ (o_ _ _));have HI2:=h_ (show I_ (wz.alloc (.cells #[.int .i64 s1.rows,.int .i64 s1.cols,.slice ga gn gk,.int .i64 s2.rows,.int .i64 s2.cols,.slice oa on ok] 79)) (.slice oa on ok) s2.cells from hi2.u_ (o_ _ _));have HNb:=h_ HB3.out.size;clear hc2;clear hb2 hi1 hi2 hf1 hf2))
      all_goals go_wp2
      all_goals go_meet
      all_goals
       refine ⟨_,ga,gn,gk,oa,on,ok,rfl,?_,?_,?_,HG1.out,HG2.out,HNb.out,?_⟩
       ·with_reducible exact HI1.out
       ·with_reducible exact HI2.out
       ·with_reducible exact HEa.out
       ·repeat' (first|with_reducible exact Below.refl _ _|with_reducible exact HB3.out|with_reducible refine d_ ?_|with_reducible refine a_ ?_|with_reducible refine t_ ?_ ?_|exact Nat.le_refl _|exact Nat.le_succ _|exact HB3.out.size|exact Nat.le_succ_of_le HB3.out.size)
     case rest=>
     obtain ⟨Bk,ga,gn,gk,oa,on,ok,rfl,hi1,hi2,hc6,hf1,hf2,hBk,hbc⟩:=hcut
     have HCC:=h_ (b_ HDW.out hbc)
     have HBC:=h_ (b_ HB.out HCC.out)
     have HC6:=h_ hc6
     have HBK:=h_ (show wr.heap.size≤Bk from Nat.le_trans HDW.out.size hBk)
     have HGL:=h_ (show ∀x,(fun b=>t14.ownBlock=some b∨(o13.ownBlock=some b∨b<w.heap.size)) x→x<wr.heap.size from fun x hx=>by
      rcases hx with hx|hx|hx
      ·exact (HO2.out.lt x hx).2
      ·exact (HO1.out.lt x hx).2
      ·exact Nat.lt_of_lt_of_le hx HB.out.size)
     have HG2:=h_ (show ∀x,(fun b=>t14.ownBlock=some b∨(o13.ownBlock=some b∨b<w.heap.size)) x→x<w2.heap.size from fun x hx=>Nat.lt_of_lt_of_le (HGL.out x hx) HDW.out.size)
     have HP1:=h_ (show P_ wc (fun b=>t14.ownBlock=some b∨(o13.ownBlock=some b∨b<w.heap.size)) (.inr s1.cells) (.slice ga gn gk) from x_ hi1 hf1 HG2.out)
     have HP2:=h_ (show P_ wc (fun b=>t14.ownBlock=some b∨(o13.ownBlock=some b∨b<w.heap.size)) (.inr s2.cells) (.slice oa on ok) from x_ hi2 hf2 HG2.out)
     have HLC:=h_ (show Box wc wr.heap.size [.int .i64 l.k,.int .i64 l.w.rows,.int .i64 l.w.cols,.slice sa sn sk,.int .i64 l.b.rows,.int .i64 l.b.cols,.slice ta tn tk] from HLB.out.u_ (b_ HB2.out hbc))
     have HOA:=h_ (show OwnsX (fun b=>o13.ownBlock=some b∨b<w.heap.size) (w.heap.size+1) (wc.alloc (.cells #[.int .i64 s1.rows,.int .i64 s1.cols,.slice ga gn gk,.int .i64 s2.rows,.int .i64 s2.cols,.slice oa on ok] 79)) 79 6 t14 i (D.flatMap gdS) from HO2.out.u_ (a_ HCC.out))
     have HEN:=h_ (show Enc (wc.alloc (.cells #[.int .i64 s1.rows,.int .i64 s1.cols,.slice ga gn gk,.int .i64 s2.rows,.int .i64 s2.cols,.slice oa on ok] 79)) (fun b=>t14.ownBlock=some b∨(o13.ownBlock=some b∨b<w.heap.size)) (gdS (s1,s2)) [.int .i64 s1.rows,.int .i64 s1.cols,.slice ga gn gk,.int .i64 s2.rows,.int .i64 s2.cols,.slice oa on ok] from enc_gd (d:=(s1,s2)) (HP1.out.u_ (o_ _ _)) (HP2.out.u_ (o_ _ _)))
     have HNB:=h_ (show Box (wc.alloc (.cells #[.int .i64 s1.rows,.int .i64 s1.cols,.slice ga gn gk,.int .i64 s2.rows,.int .i64 s2.cols,.slice oa on ok] 79)) wc.heap.size [.int .i64 s1.rows,.int .i64 s1.cols,.slice ga gn gk,.int .i64 s2.rows,.int .i64 s2.cols,.slice oa on ok] from Box.new _ _ _ rfl)
     have HBS:=h_ (show w.heap.size+1≤(wc.alloc (.cells #[.int .i64 s1.rows,.int .i64 s1.cols,.slice ga gn gk,.int .i64 s2.rows,.int .i64 s2.cols,.slice oa on ok] 79)).heap.size from by
      have h1:=HR.out.lt
      have h2:=(a_ (o:=(.cells #[.int .i64 s1.rows,.int .i64 s1.cols,.slice ga gn gk,.int .i64 s2.rows,.int .i64 s2.cols,.slice oa on ok] 79)) HCC.out).size
      omega)
     have HXL:=h_ (show ∀x,(o13.ownBlock=some x∨x<w.heap.size)→x<(wc.alloc (.cells #[.int .i64 s1.rows,.int .i64 s1.cols,.slice ga gn gk,.int .i64 s2.rows,.int .i64 s2.cols,.slice oa on ok] 79)).heap.size from fun x hx=>Nat.lt_of_lt_of_le (hx.elim (fun h=>(HO1.out.lt x h).2) (fun h=>Nat.lt_of_lt_of_le h HB.out.size)) (a_ (o:=(.cells #[.int .i64 s1.rows,.int .i64 s1.cols,.slice ga gn gk,.int .i64 s2.rows,.int .i64 s2.cols,.slice oa on ok] 79)) HCC.out).size)
     have HM1:=h_ (show i+1≤maxLen by unfold maxLen;omega)
     have HM2:=h_ (show (i+1)*80≤140737488355328 by omega)
     have HM3:=h_ (show (i+1)*88≤140737488355328 by omega)
     obtain ⟨c0,c1,c2,c3,c4,c5⟩:=hc6
     clear hi1 hi2 hf1 hf2 hBk hbc HT HSB HT0 HT3 lm0 lm1 lm2 lm3 lm4 lm5 lm6 lm7 lm8 lm9 lm10 lm11 lm12
     go_wp2_with (at_builtin;refine wpList_append_ownsX rfl _ _ 23 rfl (w.heap.size+1) 79 d0 (.agg #[.int .i64 0,.int .i64 0,.slice none 0 0,.int .i64 0,.int .i64 0,.slice none 0 0]) 6 80 Try.underlying23 HDI.out.1 HDI.out.2.1 HDI.out.2.2.1 HDI.out.2.2.2 rfl (by decide) (fun b=>o13.ownBlock=some b∨b<w.heap.size) t14 _ _ rfl HOA.out ⟨wc.heap.size,0,none⟩ 1 1 [.int .i64 s1.rows,.int .i64 s1.cols,.slice ga gn gk,.int .i64 s2.rows,.int .i64 s2.cols,.slice oa on ok] rfl rfl (fun q u hq=>by rw[addr_add];exact HNB.out q u hq) (gdS (s1,s2)) HEN.out HM1.out HM2.out HBS.out HXL.out ?_)
     intro v8 w8 h81 h82 h83 h84
     have nt:∀x,wr.heap.size≤x∨x<w.heap.size+1→some x≠t14.ownBlock:=fun x hx e=>by
      have h1:=HO2.out.lt x e.symm
      rcases hx with hx|hx<;>omega
     have nu:∀x,wr.heap.size≤x∨x<w.heap.size+1→some x≠o13.ownBlock:=fun x hx e=>by
      have h1:=HO1.out.lt x e.symm
      rcases hx with hx|hx<;>omega
     have HNU:=h_ nu
     have HSM:=h_ (show ∀b,b<(wc.alloc (.cells #[.int .i64 s1.rows,.int .i64 s1.cols,.slice ga gn gk,.int .i64 s2.rows,.int .i64 s2.cols,.slice oa on ok] 79)).heap.size→v8.ownBlock=some b→t14.ownBlock=some b from fun b hlt hb=>by
      rcases h83 with h|h
      ·rw[←h];exact hb
      ·rw[h]at hb
       have:=Option.some.inj hb
       rw[World.size_alloc]at hlt
       omega)
     have HN8:=h_ (show ∀b,o13.ownBlock=some b→v8.ownBlock≠some b from fun b hb=>h84 b (.inl hb) (fun h=>HNE.out b hb h))
     have HO8:=h_ (show OwnsX (fun b=>v8.ownBlock=some b∨b<w.heap.size) (w.heap.size+1) w8 52 7 o13 i (L.flatMap lyS) from (HO1.out.u_ (a_ HCC.out)).kept h82 (fun b hb he=>HNE.out b hb he) (fun b hb=>.inl hb) (fun b hlt hb=>hb.imp (HSM.out b hlt) id))
     have pgk:∀{p:Int⊕List Int} {u:Value},P_ wc (fun b=>t14.ownBlock=some b∨(o13.ownBlock=some b∨b<w.heap.size)) p u→P_ w8 (fun b=>o13.ownBlock=some b∨(v8.ownBlock=some b∨b<w.heap.size)) p u:=fun {p u} hp=>(hp.u_ (o_ wc (.cells #[.int .i64 s1.rows,.int .i64 s1.cols,.slice ga gn gk,.int .i64 s2.rows,.int .i64 s2.cols,.slice oa on ok] 79))).grown h82 (fun b hb=>.inl hb) (fun b hlt hb=>hb.elim (fun h=>.inr (.inl h)) (fun h=>h.elim (fun h=>.inl (HSM.out b hlt h)) (fun h=>.inr (.inr h))))
     have HB8:=h_ (show Below w.heap.size w w8 from (a_ HBC.out).grown h82 (Nat.le_trans HBC.out.size (o_ wc (.cells #[.int .i64 s1.rows,.int .i64 s1.cols,.slice ga gn gk,.int .i64 s2.rows,.int .i64 s2.cols,.slice oa on ok] 79)).size) (fun k hk=>by have:=(HO2.out.lt k hk).1;omega))
     have HR8:=h_ (show Box w8 w.heap.size [.int .i64 le,.int .i64 ke] from fun j x hx=>h82.cell ((HR.out.u_ (a_ HCC.out)) j x hx) (nt _ (.inr (Nat.lt_succ_self _))))
     have HL8:=h_ (show Box w8 wr.heap.size [.int .i64 l.k,.int .i64 l.w.rows,.int .i64 l.w.cols,.slice sa sn sk,.int .i64 l.b.rows,.int .i64 l.b.cols,.slice ta tn tk] from fun j x hx=>h82.cell ((HLC.out.u_ (o_ _ _)) j x hx) (nt _ (.inl (Nat.le_refl _))))
     have HG8:=h_ (show OwnsX (fun b=>o13.ownBlock=some b∨b<w.heap.size) (w.heap.size+1) w8 79 6 v8 (i+1) ((D++[(s1,s2)]).flatMap gdS) by rw[←flat_snoc];exact h81)
     have HS8:=h_ (show (wc.alloc (.cells #[.int .i64 s1.rows,.int .i64 s1.cols,.slice ga gn gk,.int .i64 s2.rows,.int .i64 s2.cols,.slice oa on ok] 79)).heap.size≤w8.heap.size from h82.size)
     have c0:=h82.cell (p_ HC6.out.1 (.cells #[.int .i64 s1.rows,.int .i64 s1.cols,.slice ga gn gk,.int .i64 s2.rows,.int .i64 s2.cols,.slice oa on ok] 79)) (nt _ (.inl HBK.out))
     have c1:=h82.cell (p_ HC6.out.2.1 (.cells #[.int .i64 s1.rows,.int .i64 s1.cols,.slice ga gn gk,.int .i64 s2.rows,.int .i64 s2.cols,.slice oa on ok] 79)) (nt _ (.inl HBK.out))
     have c2:=h82.cell (p_ HC6.out.2.2.1 (.cells #[.int .i64 s1.rows,.int .i64 s1.cols,.slice ga gn gk,.int .i64 s2.rows,.int .i64 s2.cols,.slice oa on ok] 79)) (nt _ (.inl HBK.out))
     have c3:=h82.cell (p_ HC6.out.2.2.2.1 (.cells #[.int .i64 s1.rows,.int .i64 s1.cols,.slice ga gn gk,.int .i64 s2.rows,.int .i64 s2.cols,.slice oa on ok] 79)) (nt _ (.inl HBK.out))
     have c4:=h82.cell (p_ HC6.out.2.2.2.2.1 (.cells #[.int .i64 s1.rows,.int .i64 s1.cols,.slice ga gn gk,.int .i64 s2.rows,.int .i64 s2.cols,.slice oa on ok] 79)) (nt _ (.inl HBK.out))
     have c5:=h82.cell (p_ HC6.out.2.2.2.2.2 (.cells #[.int .i64 s1.rows,.int .i64 s1.cols,.slice ga gn gk,.int .i64 s2.rows,.int .i64 s2.cols,.slice oa on ok] 79)) (nt _ (.inl HBK.out))
     have r0:=HR8.out 0 _ rfl
     have HX2:=h_ (HTT.out w8 ga gn gk oa on ok HB8.out (pgk HP1.out).1 (pgk HP2.out).1)
     obtain ⟨b0,b1,b2,b3,b4,b5,b6⟩:=HL8.out.c7
     clear h81 h82 h83 h84 nt nu pgk HOA HEN HNB HBS HXL HTT
     go_wp2_with fail
     refine HX2.out.mono ?_
     rintro e w9 ⟨ja,jn,jk,ma,mn,mk,rfl,hj,hm,hf1,hf2,hb9⟩
     have HB9:=h_ (b_ HB8.out hb9)
     have HGL2:=h_ (show ∀x,(fun b=>o13.ownBlock=some b∨(v8.ownBlock=some b∨b<w.heap.size)) x→x<w8.heap.size from fun x hx=>by
      have h0:=HS8.out
      have h1:=(a_ (o:=(.cells #[.int .i64 s1.rows,.int .i64 s1.cols,.slice ga gn gk,.int .i64 s2.rows,.int .i64 s2.cols,.slice oa on ok] 79)) HCC.out).size
      rcases hx with hx|hx|hx
      ·have:=(HO1.out.lt x hx).2;omega
      ·exact (HG8.out.lt x hx).2
      ·exact Nat.lt_of_lt_of_le hx HB8.out.size)
     have HEN2:=h_ (show Enc (w9.alloc (.cells #[.int .i64 l.k,.int .i64 n1.rows,.int .i64 n1.cols,.slice ja jn jk,.int .i64 n2.rows,.int .i64 n2.cols,.slice ma mn mk] 52)) (fun b=>o13.ownBlock=some b∨(v8.ownBlock=some b∨b<w.heap.size)) (lyS ⟨l.k,n1,n2⟩) [.int .i64 l.k,.int .i64 n1.rows,.int .i64 n1.cols,.slice ja jn jk,.int .i64 n2.rows,.int .i64 n2.cols,.slice ma mn mk] from enc_ly2 (l:=⟨l.k,n1,n2⟩) ((x_ hj hf1 HGL2.out).u_ (o_ _ _)) ((x_ hm hf2 HGL2.out).u_ (o_ _ _)))
     have HOX:=h_ (HO8.out.u_ (a_ (o:=(.cells #[.int .i64 l.k,.int .i64 n1.rows,.int .i64 n1.cols,.slice ja jn jk,.int .i64 n2.rows,.int .i64 n2.cols,.slice ma mn mk] 52)) hb9))
     have HG9:=h_ (HG8.out.u_ (a_ (o:=(.cells #[.int .i64 l.k,.int .i64 n1.rows,.int .i64 n1.cols,.slice ja jn jk,.int .i64 n2.rows,.int .i64 n2.cols,.slice ma mn mk] 52)) hb9))
     have HRX:=h_ ((HR8.out.u_ (a_ (o:=(.cells #[.int .i64 l.k,.int .i64 n1.rows,.int .i64 n1.cols,.slice ja jn jk,.int .i64 n2.rows,.int .i64 n2.cols,.slice ma mn mk] 52)) hb9)))
     have HNB2:=h_ (show Box (w9.alloc (.cells #[.int .i64 l.k,.int .i64 n1.rows,.int .i64 n1.cols,.slice ja jn jk,.int .i64 n2.rows,.int .i64 n2.cols,.slice ma mn mk] 52)) w9.heap.size [.int .i64 l.k,.int .i64 n1.rows,.int .i64 n1.cols,.slice ja jn jk,.int .i64 n2.rows,.int .i64 n2.cols,.slice ma mn mk] from Box.new _ _ _ rfl)
     have HBX:=h_ (show Below w.heap.size w (w9.alloc (.cells #[.int .i64 l.k,.int .i64 n1.rows,.int .i64 n1.cols,.slice ja jn jk,.int .i64 n2.rows,.int .i64 n2.cols,.slice ma mn mk] 52)) from a_ HB9.out)
     have HBS2:=h_ (show w.heap.size+1≤(w9.alloc (.cells #[.int .i64 l.k,.int .i64 n1.rows,.int .i64 n1.cols,.slice ja jn jk,.int .i64 n2.rows,.int .i64 n2.cols,.slice ma mn mk] 52)).heap.size from HRX.out.lt)
     have HXL2:=h_ (show ∀x,(v8.ownBlock=some x∨x<w.heap.size)→x<(w9.alloc (.cells #[.int .i64 l.k,.int .i64 n1.rows,.int .i64 n1.cols,.slice ja jn jk,.int .i64 n2.rows,.int .i64 n2.cols,.slice ma mn mk] 52)).heap.size from fun x hx=>hx.elim (fun h=>(HG9.out.lt x h).2) (fun h=>by have:=HBX.out.size;omega))
     clear hj hm hf1 hf2 hb9 c0 c1 c2 c3 c4 c5 r0 b0 b1 b2 b3 b4 b5 b6 HX2
     go_wp2_with (at_builtin;refine wpList_append_ownsX rfl _ _ 22 rfl (w.heap.size+1) 52 e0 (.agg #[.int .i64 0,.int .i64 0,.int .i64 0,.slice none 0 0,.int .i64 0,.int .i64 0,.slice none 0 0]) 7 88 Try.underlying22 HEI.out.1 HEI.out.2.1 HEI.out.2.2.1 HEI.out.2.2.2 rfl (by decide) (fun b=>v8.ownBlock=some b∨b<w.heap.size) o13 _ _ rfl HOX.out ⟨w9.heap.size,0,none⟩ 1 1 [.int .i64 l.k,.int .i64 n1.rows,.int .i64 n1.cols,.slice ja jn jk,.int .i64 n2.rows,.int .i64 n2.cols,.slice ma mn mk] rfl rfl (fun q u hq=>by rw[addr_add];exact HNB2.out q u hq) (lyS ⟨l.k,n1,n2⟩) HEN2.out HM1.out HM3.out HBS2.out HXL2.out ?_)
     intro va wa ha1 ha2 ha3 ha4
     have HNA:=h_ (show ∀b,va.ownBlock=some b→v8.ownBlock≠some b from fun b hb he=>ha4 b (.inl he) (fun h=>HN8.out b h he) hb)
     have HLA:=h_ (show OwnsX (fun b=>v8.ownBlock=some b∨b<w.heap.size) (w.heap.size+1) wa 52 7 va (i+1) ((L++[(⟨l.k,n1,n2⟩:Ly)]).flatMap lyS) by rw[←flat_snoc];exact ha1)
     have HGA:=h_ (show OwnsX (fun b=>va.ownBlock=some b∨b<w.heap.size) (w.heap.size+1) wa 79 6 v8 (i+1) ((D++[(s1,s2)]).flatMap gdS) from HG9.out.kept ha2 (fun b hb he=>HN8.out b he hb) (fun b hb=>.inl hb) (fun b hlt hb=>hb.imp (fun hb=>by
      rcases ha3 with h|h
      ·rw[←h];exact hb
      ·rw[h]at hb
       have:=Option.some.inj hb
       rw[World.size_alloc]at hlt
       omega) id))
     have HBA:=h_ (show Below w.heap.size w wa from HBX.out.grown ha2 HBX.out.size (fun k hk=>by have:=(HO1.out.lt k hk).1;omega))
     have HRA:=h_ (show Box wa w.heap.size [.int .i64 le,.int .i64 ke] from fun j x hx=>ha2.cell (HRX.out j x hx) (HNU.out _ (.inr (Nat.lt_succ_self _))))
     clear ha1 ha2 ha3 ha4
     go_wp2
     go_roundw
     case rel=>exact ⟨i+1,_,L++[⟨l.k,n1,n2⟩],D++[(s1,s2)],by omega,by have:=HXI.out;omega,rfl,by rw[List.length_append,HLL.out.1];rfl,by rw[List.length_append,HLL.out.2];rfl,HS1.out,HS2.out,HRE.out,HLA.out,HGA.out,HNA.out,HRA.out,HBA.out⟩
     case measure=>have:=HXI.out;simp[intOf];omega
    ·have HEE:=h_ (show stp1E l p q=E by rw[if_pos h1E]at he;exact he)
     have HEZ:=h_ (show E≠0 by rw[←HEE.out];exact h1E)
     have HLG2:=h_ (HLG.out.2 HEZ.out)
     clear hpl hpd he h1E
     have HX1:=h_ (HX.out (wr.alloc (.cells #[.int .i64 l.k,.int .i64 l.w.rows,.int .i64 l.w.cols,.slice sa sn sk,.int .i64 l.b.rows,.int .i64 l.b.cols,.slice ta tn tk] 52)).drew (d_ (a_ HB.out)))
     rw[HEE.out,n_ HEZ.out]at HX1
     have HBU:=h_ (show Below w.heap.size w (wr.alloc (.cells #[.int .i64 l.k,.int .i64 l.w.rows,.int .i64 l.w.cols,.slice sa sn sk,.int .i64 l.b.rows,.int .i64 l.b.cols,.slice ta tn tk] 52)) from a_ HB.out)
     have HLB:=h_ (show Box (wr.alloc (.cells #[.int .i64 l.k,.int .i64 l.w.rows,.int .i64 l.w.cols,.slice sa sn sk,.int .i64 l.b.rows,.int .i64 l.b.cols,.slice ta tn tk] 52)) wr.heap.size [.int .i64 l.k,.int .i64 l.w.rows,.int .i64 l.w.cols,.slice sa sn sk,.int .i64 l.b.rows,.int .i64 l.b.cols,.slice ta tn tk] from Box.new _ _ _ rfl)
     go_wp2
     obtain ⟨U,hU⟩:=gM ((wr.alloc (.cells #[.int .i64 l.k,.int .i64 l.w.rows,.int .i64 l.w.cols,.slice sa sn sk,.int .i64 l.b.rows,.int .i64 l.b.cols,.slice ta tn tk] 52)))
     rw[←hU]at HX1 HBU HLB ⊢
     have HRU:=h_ (show Below wr.heap.size wr U by rw[hU];exact o_ _ _)
     clear hU HX k0 k1 k2 k3 k4 k5 k6 y0 y1 y2 y3 y4 y5 z0 z1 z2 z3 z4 z5
     obtain ⟨_,_,_,_,_,_,_,y0,y1,y2,y3,y4,y5,z0,z1,z2,z3,z4,z5⟩:=HK.out U HBU.out
     obtain ⟨b0,b1,b2,b3,b4,b5,b6⟩:=HLB.out.c7
     refine region_tail 9 (by kernel_rfl) (by kernel_rfl) ?_
     simp only[List.take_succ_cons,List.take_zero,List.drop_succ_cons,List.drop_zero]
     repeat still_step
     refine wpStill_nil ?_
     go_wp2_with fail
     refine HX1.out.mono ?_
     rintro e w2 ⟨rfl,hb2⟩
     have HB2:=h_ (show Below U.heap.size U w2 from b_ (r_ (Below.refl _ _)) hb2)
     clear hb2 HX1 y0 y1 y2 y3 y4 y5 z0 z1 z2 z3 z4 z5 b0 b1 b2 b3 b4 b5 b6
     go_wp2
     exact bodyPost_ret (v:=.tuple #[.slice none 0 0,.slice none 0 0,.iface 65 (.int .i64 E)]) (by simp[results,Try.results20,go_sem]) rfl ⟨_,_,by rw[n_ HEZ.out],by rw[HLG2.out.1];exact Owns.nil _ _ _ _ _,by rw[HLG2.out.2];exact Owns.nil _ _ _ _ _,b_ HBU.out HB2.out⟩
   ·have hin:i=N2:=by have:=HXI.out;omega
    obtain ⟨hL,hD,hpl,hpd,he⟩:=HLD.out
    rw[hin,←HN.out.1,List.drop_length]at hpl hpd he
    replace hpl:L=stpL le ke ls ps qs:=by rw[←hpl];show L=L++[];simp
    replace hpd:D=stpG ke ls ps qs:=by rw[←hpd];show D=D++[];simp
    replace he:0=E:=he
    subst he
    obtain ⟨g1,g2⟩:=HLG.out.1 rfl
    have HM:=h_ (show Owns 0 w.heap.size wr 52 7 o13 (doL ls ps qs le ke).length ((doL ls ps qs le ke).flatMap lyS) by rw[g1,←hpl,hL];exact HO1.out.low (Nat.le_succ _))
    have HM':=h_ (show Owns 0 w.heap.size wr 79 6 t14 (doG ls ps qs le ke).length ((doG ls ps qs le ke).flatMap gdS) by rw[g2,←hpd,hD];exact HO2.out.low (Nat.le_succ _))
    clear hin hL hD hpl hpd g1 g2
    go_wp2
    exact bodyPost_ret (v:=.tuple #[o13,t14,.nilIface]) (by simp[results,Try.results20,go_sem]) rfl ⟨_,_,rfl,HM.out,HM'.out,HB.out⟩
end Go.Proofs.Ytniloklglpchfaf
