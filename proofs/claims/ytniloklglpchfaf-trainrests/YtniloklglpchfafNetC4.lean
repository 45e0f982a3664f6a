/- What addGrads and Gather of package net come to: two Grads, two lists of Grads, added one by one, or what is wrong. Condition of Gather: not more than 1,759,218,604,390 of them. -/
import Derived.Test.YtniloklglpchfafNetC2
import Derived.Test.YtniloklglpchfafPkReg
namespace Go.Proofs.Ytniloklglpchfaf
open Go.RowKit
def AddEnd (w:World) (p q:Mx×Mx) (e:Ending) (w':World):Prop:=Below w.heap.size w w'∧((gat1E p q=0∧∃pa pn pk qa qn qk,e=.returned (.tuple #[.agg #[.int .i64 (addX p.1 q.1).rows,.int .i64 (addX p.1 q.1).cols,.slice pa pn pk,.int .i64 (addX p.2 q.2).rows,.int .i64 (addX p.2 q.2).cols,.slice qa qn qk],.nilIface])∧
  I_ w' (.slice pa pn pk) (addX p.1 q.1).cells∧I_ w' (.slice qa qn qk) (addX p.2 q.2).cells∧F_ w.heap.size (.agg #[.int .i64 (addX p.1 q.1).rows,.int .i64 (addX p.1 q.1).cols,.slice pa pn pk])∧F_ w.heap.size (.agg #[.int .i64 (addX p.2 q.2).rows,.int .i64 (addX p.2 q.2).cols,.slice qa qn qk]))∨
 (gat1E p q≠0∧e=.returned (.tuple #[.agg #[.int .i64 0,.int .i64 0,.slice none 0 0,.int .i64 0,.int .i64 0,.slice none 0 0],errV (gat1E p q)])))
set_option maxHeartbeats 4000000 in
set_option maxRecDepth 100000 in
theorem addgrads_any(p q:Mx×Mx)(sa:Option Addr)(sn sk:Nat)(ta:Option Addr)(tn tk:Nat)(xa:Option Addr)(xn xk:Nat)(ya:Option Addr)(yn yk:Nat)(w:World)(hs:I_ w (.slice sa sn sk) p.1.cells)(ht:I_ w (.slice ta tn tk) p.2.cells)(hx:I_ w (.slice xa xn xk) q.1.cells)(hy:I_ w (.slice ya yn yk) q.2.cells):
  Calls Try.prog 61 #[.agg #[.int .i64 p.1.rows,.int .i64 p.1.cols,.slice sa sn sk,.int .i64 p.2.rows,.int .i64 p.2.cols,.slice ta tn tk],.agg #[.int .i64 q.1.rows,.int .i64 q.1.cols,.slice xa xn xk,.int .i64 q.2.rows,.int .i64 q.2.cols,.slice ya yn yk]] w (AddEnd w p q):=by
 obtain ⟨V,hV⟩:=gM (((w.alloc (.cells #[.int .i64 p.1.rows,.int .i64 p.1.cols,.slice sa sn sk,.int .i64 p.2.rows,.int .i64 p.2.cols,.slice ta tn tk] 79)).alloc (.cells #[.int .i64 q.1.rows,.int .i64 q.1.cols,.slice xa xn xk,.int .i64 q.2.rows,.int .i64 q.2.cols,.slice ya yn yk] 79)).alloc (.cells #[.int .i64 0,.int .i64 0,.slice none 0 0,.int .i64 0,.int .i64 0,.slice none 0 0] 79))
 have HV:=h_ hV
 have HWV:Hid (Below w.heap.size w V):=by rw[hV];exact h_ (a_ (a_ (a_ (Below.refl _ _))))
 have HVS:Hid (V.heap.size=w.heap.size+3):=by rw[hV];exact h_ (by simp)
 have HXA:Hid (Box V w.heap.size [.int .i64 p.1.rows,.int .i64 p.1.cols,.slice sa sn sk,.int .i64 p.2.rows,.int .i64 p.2.cols,.slice ta tn tk]):=by rw[hV];exact h_ (((Box.new w [.int .i64 p.1.rows,.int .i64 p.1.cols,.slice sa sn sk,.int .i64 p.2.rows,.int .i64 p.2.cols,.slice ta tn tk] 79 rfl).u_ (o_ _ _)).u_ (o_ _ _))
 have HXB:Hid (Box V (w.heap.size+1) [.int .i64 q.1.rows,.int .i64 q.1.cols,.slice xa xn xk,.int .i64 q.2.rows,.int .i64 q.2.cols,.slice ya yn yk]):=by rw[hV];exact h_ ((Box.new _ [.int .i64 q.1.rows,.int .i64 q.1.cols,.slice xa xn xk,.int .i64 q.2.rows,.int .i64 q.2.cols,.slice ya yn yk] 79 (by simp)).u_ (o_ _ _))
 have HXZ:Hid (Box V (w.heap.size+1+1) [.int .i64 0,.int .i64 0,.slice none 0 0,.int .i64 0,.int .i64 0,.slice none 0 0]):=by rw[hV];exact h_ (Box.new _ [.int .i64 0,.int .i64 0,.slice none 0 0,.int .i64 0,.int .i64 0,.slice none 0 0] 79 (by simp))
 have HXF:Hid (Free V (w.heap.size+1+1)):=by rw[hV];exact h_ (Free.new _ _ _ (by simp))
 have HC1:=h_ (madd_any (.agg #[.int .i64 p.1.rows,.int .i64 p.1.cols,.slice sa sn sk]) (.agg #[.int .i64 q.1.rows,.int .i64 q.1.cols,.slice xa xn xk]) p.1 q.1 V ⟨_,rfl,hs.u_ HWV.out⟩ ⟨_,rfl,hx.u_ HWV.out⟩)
 have HC2:=h_ (fun W (h:Below w.heap.size w W)=>madd_any (.agg #[.int .i64 p.2.rows,.int .i64 p.2.cols,.slice ta tn tk]) (.agg #[.int .i64 q.2.rows,.int .i64 q.2.cols,.slice ya yn yk]) p.2 q.2 W ⟨_,rfl,ht.u_ h⟩ ⟨_,rfl,hy.u_ h⟩)
 obtain ⟨X1,e1⟩:=gN (addX p.1 q.1)
 obtain ⟨X2,e2⟩:=gN (addX p.2 q.2)
 obtain ⟨E1,e3⟩:=gN (addE p.1 q.1)
 obtain ⟨E2,e4⟩:=gN (addE p.2 q.2)
 rw[e1,e3]at HC1
 rw[e2,e4]at HC2
 have HE:=h_ (And.intro e1 (And.intro e2 (And.intro e3 e4)))
 clear hV hs ht hx hy e1 e2 e3 e4
 obtain ⟨d0,d1,d2⟩:=HXA.out.c3
 obtain ⟨g0,g1,g2⟩:=HXB.out.c3
 rw[HV.out]at d0 d1 d2 g0 g1 g2
 go_enter Try.func61,Try.ntmps61
 go_wp2_with fail
 rw[←HV.out]
 refine HC1.out.mono ?_
 rintro e w1 ⟨v',rfl,⟨s1,rfl,hs1⟩,hb1,hf1⟩
 obtain ⟨pa,pn,pk,rfl⟩:=hs1.shape
 have HB1:=h_ hb1
 have HS1:=h_ hs1
 have HF1:=h_ hf1
 clear hs1 hb1 hf1 HC1 d0 d1 d2 g0 g1 g2
 by_cases hz1:E1=0
 ·subst hz1
  rw[e_ rfl]
  have HBB:=h_ (show Below V.heap.size V (w1.alloc (.cells #[.int .i64 X1.rows,.int .i64 X1.cols,.slice pa pn pk] 28)) from a_ HB1.out)
  have HC:=h_ (HC2.out (w1.alloc (.cells #[.int .i64 X1.rows,.int .i64 X1.cols,.slice pa pn pk] 28)) (b_ HWV.out HBB.out))
  obtain ⟨d3,d4,d5⟩:=(HXA.out.u_ HBB.out).c35
  obtain ⟨g3,g4,g5⟩:=(HXB.out.u_ HBB.out).c35
  go_wp2_with fail
  refine HC.out.mono ?_
  rintro e w2 ⟨v',rfl,⟨s2,rfl,hs2⟩,hb2,hf2⟩
  obtain ⟨qa,qn,qk,rfl⟩:=hs2.shape
  have HB2:=h_ hb2
  have HS2:=h_ hs2
  have HF2:=h_ (f_ hf2 (Nat.le_trans HBB.out.size (Nat.le_refl _)))
  have HBC:=h_ (show Below V.heap.size V (w2.alloc (.cells #[.int .i64 X2.rows,.int .i64 X2.cols,.slice qa qn qk] 28)) from a_ (b_ HBB.out hb2))
  clear hs2 hb2 hf2 HC HC2 d3 d4 d5 g3 g4 g5
  obtain ⟨t0,t1,t2,t3,t4,t5⟩:=(HXZ.out.u_ HBC.out).c6
  obtain ⟨f0,f1,f2,f3,f4,f5⟩:=(HXF.out.u_ HBC.out HXZ.out.lt).f6
  obtain ⟨c0,c1,c2⟩:=((Box.new w1 [.int .i64 X1.rows,.int .i64 X1.cols,.slice pa pn pk] 28 rfl).u_ (a_ (o:=.cells #[.int .i64 X2.rows,.int .i64 X2.cols,.slice qa qn qk] 28) HB2.out)).c3
  by_cases hz2:E2=0
  ·subst hz2
   rw[e_ rfl]
   have HEE:=h_ (show gat1E p q=0 by unfold gat1E;rw[HE.out.2.2.1,HE.out.2.2.2];simp)
   have HI1:=h_ (show I_ (((((((w2.alloc (.cells #[.int .i64 X2.rows,.int .i64 X2.cols,.slice qa qn qk] 28)).setCell ⟨w.heap.size+1+1,0,none⟩ (.int .i64 X1.rows)).setCell ⟨w.heap.size+1+1,1,none⟩ (.int .i64 X1.cols)).setCell ⟨w.heap.size+1+1,2,none⟩ (.slice pa pn pk)).setCell ⟨w.heap.size+1+1,3,none⟩ (.int .i64 X2.rows)).setCell ⟨w.heap.size+1+1,4,none⟩ (.int .i64 X2.cols)).setCell ⟨w.heap.size+1+1,5,none⟩ (.slice qa qn qk)) (.slice pa pn pk) X1.cells from I_.aboveF ((HS1.out.u_ (o_ _ (.cells #[.int .i64 X1.rows,.int .i64 X1.cols,.slice pa pn pk] 28))).u_ (a_ HB2.out)) HF1.out (v_ (v_ (v_ (v_ (v_ (v_ (Above.refl _ _) (by have:=HVS.out;omega)) (by have:=HVS.out;omega)) (by have:=HVS.out;omega)) (by have:=HVS.out;omega)) (by have:=HVS.out;omega)) (by have:=HVS.out;omega)))
   have HI2:=h_ (show I_ (((((((w2.alloc (.cells #[.int .i64 X2.rows,.int .i64 X2.cols,.slice qa qn qk] 28)).setCell ⟨w.heap.size+1+1,0,none⟩ (.int .i64 X1.rows)).setCell ⟨w.heap.size+1+1,1,none⟩ (.int .i64 X1.cols)).setCell ⟨w.heap.size+1+1,2,none⟩ (.slice pa pn pk)).setCell ⟨w.heap.size+1+1,3,none⟩ (.int .i64 X2.rows)).setCell ⟨w.heap.size+1+1,4,none⟩ (.int .i64 X2.cols)).setCell ⟨w.heap.size+1+1,5,none⟩ (.slice qa qn qk)) (.slice qa qn qk) X2.cells from I_.aboveF (HS2.out.u_ (o_ _ _)) HF2.out (v_ (v_ (v_ (v_ (v_ (v_ (Above.refl _ _) (by have:=HVS.out;omega)) (by have:=HVS.out;omega)) (by have:=HVS.out;omega)) (by have:=HVS.out;omega)) (by have:=HVS.out;omega)) (by have:=HVS.out;omega)))
   have HBE:=h_ (show Below w.heap.size w (((((((w2.alloc (.cells #[.int .i64 X2.rows,.int .i64 X2.cols,.slice qa qn qk] 28)).setCell ⟨w.heap.size+1+1,0,none⟩ (.int .i64 X1.rows)).setCell ⟨w.heap.size+1+1,1,none⟩ (.int .i64 X1.cols)).setCell ⟨w.heap.size+1+1,2,none⟩ (.slice pa pn pk)).setCell ⟨w.heap.size+1+1,3,none⟩ (.int .i64 X2.rows)).setCell ⟨w.heap.size+1+1,4,none⟩ (.int .i64 X2.cols)).setCell ⟨w.heap.size+1+1,5,none⟩ (.slice qa qn qk)) from t_ (t_ (t_ (t_ (t_ (t_ (b_ HWV.out HBC.out) (by omega)) (by omega)) (by omega)) (by omega)) (by omega)) (by omega))
   go_wp2
   exact bodyPost_ret (v:=.tuple #[.agg #[.int .i64 X1.rows,.int .i64 X1.cols,.slice pa pn pk,.int .i64 X2.rows,.int .i64 X2.cols,.slice qa qn qk],.nilIface]) (by simp[results,Try.results61,go_sem,t0,t1,t2,t3,t4,t5]) rfl ⟨HBE.out,.inl ⟨HEE.out,by rw[HE.out.1,HE.out.2.1];exact ⟨pa,pn,pk,qa,qn,qk,rfl,HI1.out,HI2.out,f_ HF1.out HWV.out.size,f_ HF2.out HWV.out.size⟩⟩⟩
  ·have HEE:=h_ (show gat1E p q=E2 by unfold gat1E;rw[HE.out.2.2.1,HE.out.2.2.2];simp)
   have HG:=h_ hz2
   rw[n_ hz2]
   have HBE:=h_ (show Below w.heap.size w (((((((w2.alloc (.cells #[.int .i64 X2.rows,.int .i64 X2.cols,.slice qa qn qk] 28)).setCell ⟨w.heap.size+1+1,0,none⟩ (.int .i64 0)).setCell ⟨w.heap.size+1+1,1,none⟩ (.int .i64 0)).setCell ⟨w.heap.size+1+1,2,none⟩ (.slice none 0 0)).setCell ⟨w.heap.size+1+1,3,none⟩ (.int .i64 0)).setCell ⟨w.heap.size+1+1,4,none⟩ (.int .i64 0)).setCell ⟨w.heap.size+1+1,5,none⟩ (.slice none 0 0)) from t_ (t_ (t_ (t_ (t_ (t_ (b_ HWV.out HBC.out) (by omega)) (by omega)) (by omega)) (by omega)) (by omega)) (by omega))
   clear hz2
   go_wp2
   exact bodyPost_ret (v:=.tuple #[.agg #[.int .i64 0,.int .i64 0,.slice none 0 0,.int .i64 0,.int .i64 0,.slice none 0 0],.iface 65 (.int .i64 E2)]) (by simp[results,Try.results61,go_sem,t0,t1,t2,t3,t4,t5]) rfl ⟨HBE.out,.inr (by rw[HEE.out,n_ HG.out];exact ⟨HG.out,rfl⟩)⟩
 ·have HEE:=h_ (show gat1E p q=E1 by unfold gat1E;rw[HE.out.2.2.1,if_pos hz1])
  have HG:=h_ hz1
  rw[n_ hz1]
  have HBB:=h_ (show Below V.heap.size V (w1.alloc (.cells #[.int .i64 X1.rows,.int .i64 X1.cols,.slice pa pn pk] 28)) from a_ HB1.out)
  obtain ⟨t0,t1,t2,t3,t4,t5⟩:=(HXZ.out.u_ HBB.out).c6
  obtain ⟨f0,f1,f2,f3,f4,f5⟩:=(HXF.out.u_ HBB.out HXZ.out.lt).f6
  have HBE:=h_ (show Below w.heap.size w (((((((w1.alloc (.cells #[.int .i64 X1.rows,.int .i64 X1.cols,.slice pa pn pk] 28)).setCell ⟨w.heap.size+1+1,0,none⟩ (.int .i64 0)).setCell ⟨w.heap.size+1+1,1,none⟩ (.int .i64 0)).setCell ⟨w.heap.size+1+1,2,none⟩ (.slice none 0 0)).setCell ⟨w.heap.size+1+1,3,none⟩ (.int .i64 0)).setCell ⟨w.heap.size+1+1,4,none⟩ (.int .i64 0)).setCell ⟨w.heap.size+1+1,5,none⟩ (.slice none 0 0)) from t_ (t_ (t_ (t_ (t_ (t_ (b_ HWV.out HBB.out) (by omega)) (by omega)) (by omega)) (by omega)) (by omega)) (by omega))
  clear hz1
  go_wp2
  exact bodyPost_ret (v:=.tuple #[.agg #[.int .i64 0,.int .i64 0,.slice none 0 0,.int .i64 0,.int .i64 0,.slice none 0 0],.iface 65 (.int .i64 E1)]) (by simp[results,Try.results61,go_sem,t0,t1,t2,t3,t4,t5]) rfl ⟨HBE.out,.inr (by rw[HEE.out,n_ HG.out];exact ⟨HG.out,rfl⟩)⟩
set_option maxHeartbeats 8000000 in
set_option maxRecDepth 100000 in
theorem netgather_owns(v v':Value)(ps qs:List (Mx×Mx))(w:World)(hv:D_ w v ps)(hv':D_ w v' qs)(hle:ps.length≤1759218604390):
  Calls Try.prog 39 #[v,v'] w fun e w'=>∃u,e=.returned (.tuple #[u,errV (gaE ps qs)])∧Owns 0 w.heap.size w' 79 6 u (gaX ps qs).length ((gaX ps qs).flatMap gdS)∧Below w.heap.size w w':=by
 obtain ⟨a,cap,rfl,_,_⟩:=hv.shape
 obtain ⟨a',cap',rfl,_,hcm⟩:=hv'.shape
 have H0:=h_ hv
 have H1:=h_ hv'
 obtain ⟨N,hN⟩:=gN (ps.length)
 obtain ⟨N',hN'⟩:=gN (qs.length)
 have HN:=h_ (And.intro hN hN')
 obtain ⟨X,hX⟩:=gN (gaX ps qs)
 obtain ⟨E,hE⟩:=gN (gaE ps qs)
 have HX:=h_ (And.intro hX hE)
 rw[hN]at hle
 rw[hX,hE]
 rw[hN]at H0 ⊢
 rw[hN']at H1 ⊢
 clear hX hE hv hv' hN hN' hcm
 by_cases hll:N=N'
 ·subst hll
  have HE0:=h_ (show gatE ps qs=E by have h:=HX.out.2;unfold gaE at h;rw[if_neg (by rw[HN.out.1,HN.out.2];simp)]at h;exact h)
  have HX0:=h_ (show (if E=0 then gatX ps qs else [])=X by have h:=HX.out.1;unfold gaX at h;rw[HX.out.2]at h;exact h)
  have hmk:=run_mkL 79 23 6 80 _ Try.underlying23 infoGd (N:Int) N rfl (by omega) (by omega)
  have HO0:=h_ (show Owns 0 w.heap.size (w.alloc (.cells (rawCells (.agg #[.int .i64 0,.int .i64 0,.slice none 0 0,.int .i64 0,.int .i64 0,.slice none 0 0]) (N*6)) 79)) 79 6 (.slice (some ⟨w.heap.size,0,none⟩) 0 N) 0 [] from
   Owns.room _ (Nat.le_refl _) (by unfold maxLen;omega) (rawCells_size _ _))
  obtain ⟨e0,ei,hz0,hz1,hz2⟩:=info_parts infoGd
  have HEI:=h_ (And.intro ei (And.intro hz0 (And.intro hz1 hz2)))
  have hN63:(N:Int)≤1759218604390:=by omega
  have hNN:((N:Int) !=(N:Int))=false:=by simp
  have HLE:=h_ hle
  clear ei hz0 hz1 hz2 hle
  go_enter Try.func39,Try.ntmps39
  go_wp2
  clear hmk
  go_loopw [6,21] (fun o a wr=>∃(i:Nat) (xi:Int) (pre:List (Mx×Mx)),i≤N∧xi=(i:Int)∧a=.int .i64 xi∧pre.length=i∧pre++gatX (ps.drop i) (qs.drop i)=gatX ps qs∧gatE (ps.drop i) (qs.drop i)=E∧Owns 0 w.heap.size wr 79 6 o i (pre.flatMap gdS)∧Below w.heap.size w wr) (fun _ a _=>N - (intOf a).toNat)
  case atStart=>exact ⟨0,0,[],Nat.zero_le _,rfl,rfl,rfl,rfl,HE0.out,HO0.out,o_ _ _⟩
  case round=>
   obtain ⟨i,xi,pre,hi,hxi,rfl,hpl,hpr,he,how,hb⟩:=hrel
   have HXI:=h_ hxi
   have HPL:=h_ (And.intro hpl (And.intro hpr he))
   have HO:=h_ how
   have HB:=h_ hb
   have hxi0:0≤xi:=by omega
   have hxi1:xi≤1759218604390:=by omega
   clear hxi hpl hpr he how hb HO0
   by_cases hlt:xi<(N:Int)
   ·have hin:i<N:=by have:=HXI.out;omega
    have hxn:xi.toNat=i:=by have:=HXI.out;omega
    obtain ⟨p,hp⟩:∃p,ps[i]?=some p:=⟨ps[i]'(by have:=HN.out.1;omega),List.getElem?_eq_getElem _⟩
    obtain ⟨q,hq⟩:∃q,qs[i]?=some q:=⟨qs[i]'(by have:=HN.out.2;omega),List.getElem?_eq_getElem _⟩
    obtain ⟨b,off,cp,sa,sn,sk,ta,tn,tk,ev,k0,k1,k2,k3,k4,k5,hs,ht⟩:=H0.out.at hp
    injection ev with ev1 ev2 ev3
    clear ev2 ev3
    subst ev1
    obtain ⟨b',off',cp',xa,xn,xk,ya,yn,yk,ev,y0,y1,y2,y3,y4,y5,hs',ht'⟩:=H1.out.at hq
    injection ev with ev1 ev2 ev3
    clear ev2 ev3
    subst ev1
    rw[←hxn]at k0 k1 k2 k3 k4 k5 y0 y1 y2 y3 y4 y5
    have HK:=h_ (fun W (h:Below w.heap.size w W)=>(And.intro (c_ h k0) (And.intro (c_ h k1) (And.intro (c_ h k2) (And.intro (c_ h k3) (And.intro (c_ h k4) (And.intro (c_ h k5) (And.intro (c_ h y0) (And.intro (c_ h y1) (And.intro (c_ h y2) (And.intro (c_ h y3) (And.intro (c_ h y4) (c_ h y5)))))))))))))
    have HI:=h_ (And.intro (And.intro hs hs') (And.intro ht ht'))
    obtain ⟨x1,hx1⟩:=gN (addX p.1 q.1)
    obtain ⟨x2,hx2⟩:=gN (addX p.2 q.2)
    have HXX:=h_ (And.intro hx1 hx2)
    obtain ⟨hpl,hpr,he⟩:=HPL.out
    rw[drop_at hp,drop_at hq]at hpr he
    have HE2:=h_ (show (if gat1E p q≠0 then gat1E p q else gatE (ps.drop (i+1)) (qs.drop (i+1)))=E from he)
    have HP2:=h_ (show (pre++[(x1,x2)])++gatX (ps.drop (i+1)) (qs.drop (i+1))=gatX ps qs by rw[←hpr];show _=pre++(gat1X p q::gatX (ps.drop (i+1)) (qs.drop (i+1)));unfold gat1X;rw[hx1,hx2];simp)
    have HPN:=h_ hpl
    clear k0 k1 k2 k3 k4 k5 y0 y1 y2 y3 y4 y5 hs ht hs' ht' hp hq hxn hx1 hx2 hpl hpr he HPL
    by_cases hg:gat1E p q=0
    ·have HE3:=h_ (show gatE (ps.drop (i+1)) (qs.drop (i+1))=E by rw[←HE2.out,if_neg (by simp[hg])])
     have HT:Hid (∀W,Below wr.heap.size wr W→Calls Try.prog 61 #[.agg #[.int .i64 p.1.rows,.int .i64 p.1.cols,.slice sa sn sk,.int .i64 p.2.rows,.int .i64 p.2.cols,.slice ta tn tk],.agg #[.int .i64 q.1.rows,.int .i64 q.1.cols,.slice xa xn xk,.int .i64 q.2.rows,.int .i64 q.2.cols,.slice ya yn yk]] W fun e w'=>Below W.heap.size W w'∧∃pa pn pk qa qn qk,e=.returned (.tuple #[.agg #[.int .i64 x1.rows,.int .i64 x1.cols,.slice pa pn pk,.int .i64 x2.rows,.int .i64 x2.cols,.slice qa qn qk],.nilIface])∧I_ w' (.slice pa pn pk) x1.cells∧I_ w' (.slice qa qn qk) x2.cells∧F_ W.heap.size (.agg #[.int .i64 x1.rows,.int .i64 x1.cols,.slice pa pn pk])∧F_ W.heap.size (.agg #[.int .i64 x2.rows,.int .i64 x2.cols,.slice qa qn qk])):=h_ (fun W h=>(addgrads_any p q sa sn sk ta tn tk xa xn xk ya yn yk W (HI.out.1.1.u_ (b_ HB.out h)) (HI.out.2.1.u_ (b_ HB.out h)) (HI.out.1.2.u_ (b_ HB.out h)) (HI.out.2.2.u_ (b_ HB.out h))).mono (fun e w' hh=>⟨hh.1,by
      rcases hh.2 with ⟨h1,h2⟩|⟨h1,h2⟩
      ·rw[HXX.out.1,HXX.out.2]at h2;exact h2
      ·exact absurd hg h1⟩))
     have HSB:Hid (∀W',Below wr.heap.size wr W'→(fun W'=>W'.cell? ⟨b,off+xi.toNat*6,none⟩=some (.int .i64 p.1.rows)∧W'.cell? ⟨b,off+xi.toNat*6+1,none⟩=some (.int .i64 p.1.cols)∧W'.cell? ⟨b,off+xi.toNat*6+2,none⟩=some (.slice sa sn sk)∧W'.cell? ⟨b,off+xi.toNat*6+3,none⟩=some (.int .i64 p.2.rows)∧W'.cell? ⟨b,off+xi.toNat*6+4,none⟩=some (.int .i64 p.2.cols)∧W'.cell? ⟨b,off+xi.toNat*6+5,none⟩=some (.slice ta tn tk)∧W'.cell? ⟨b',off'+xi.toNat*6,none⟩=some (.int .i64 q.1.rows)∧W'.cell? ⟨b',off'+xi.toNat*6+1,none⟩=some (.int .i64 q.1.cols)∧W'.cell? ⟨b',off'+xi.toNat*6+2,none⟩=some (.slice xa xn xk)∧W'.cell? ⟨b',off'+xi.toNat*6+3,none⟩=some (.int .i64 q.2.rows)∧W'.cell? ⟨b',off'+xi.toNat*6+4,none⟩=some (.int .i64 q.2.cols)∧W'.cell? ⟨b',off'+xi.toNat*6+5,none⟩=some (.slice ya yn yk)) W'):=h_ (fun W' h=>HK.out W' (b_ HB.out h))
     have HT3:=h_ (HT.out (wr.alloc (.cells #[.int .i64 0,.int .i64 0,.slice none 0 0,.int .i64 0,.int .i64 0,.slice none 0 0] 79)).drew (d_ (a_ (Below.refl wr.heap.size wr))))
     have HT0:=h_ (HT.out wr.drew (d_ (Below.refl wr.heap.size wr)))
     obtain ⟨lm0,lm1,lm2,lm3,lm4,lm5,lm6,lm7,lm8,lm9,lm10,lm11⟩:=HSB.out wr (Below.refl _ _)
     clear hg
     go_wp2
     go_cut [8,9] from 24 to 35 (fun a c wx=>∃(Bk:Nat) (pa:Option Addr) (pn pk:Nat) (qa:Option Addr) (qn qk:Nat),a=.pointer (some ⟨Bk,0,none⟩)∧c=.nilIface∧I_ wx (.slice pa pn pk) x1.cells∧I_ wx (.slice qa qn qk) x2.cells∧Cells6 wx Bk (.int .i64 x1.rows) (.int .i64 x1.cols) (.slice pa pn pk) (.int .i64 x2.rows) (.int .i64 x2.cols) (.slice qa qn qk)∧F_ wr.heap.size (.agg #[.int .i64 x1.rows,.int .i64 x1.cols,.slice pa pn pk])∧F_ wr.heap.size (.agg #[.int .i64 x2.rows,.int .i64 x2.cols,.slice qa qn qk])∧Below wr.heap.size wr wx)
     case first=>
      go_region_held3 (fun W'=>W'.cell? ⟨b,off+xi.toNat*6,none⟩=some (.int .i64 p.1.rows)∧W'.cell? ⟨b,off+xi.toNat*6+1,none⟩=some (.int .i64 p.1.cols)∧W'.cell? ⟨b,off+xi.toNat*6+2,none⟩=some (.slice sa sn sk)∧W'.cell? ⟨b,off+xi.toNat*6+3,none⟩=some (.int .i64 p.2.rows)∧W'.cell? ⟨b,off+xi.toNat*6+4,none⟩=some (.int .i64 p.2.cols)∧W'.cell? ⟨b,off+xi.toNat*6+5,none⟩=some (.slice ta tn tk)∧W'.cell? ⟨b',off'+xi.toNat*6,none⟩=some (.int .i64 q.1.rows)∧W'.cell? ⟨b',off'+xi.toNat*6+1,none⟩=some (.int .i64 q.1.cols)∧W'.cell? ⟨b',off'+xi.toNat*6+2,none⟩=some (.slice xa xn xk)∧W'.cell? ⟨b',off'+xi.toNat*6+3,none⟩=some (.int .i64 q.2.rows)∧W'.cell? ⟨b',off'+xi.toNat*6+4,none⟩=some (.int .i64 q.2.cols)∧W'.cell? ⟨b',off'+xi.toNat*6+5,none⟩=some (.slice ya yn yk)) ((refine HSB.out _ ?_;repeat' (first|with_reducible exact Below.refl _ _|with_reducible exact HB2.out|with_reducible refine d_ ?_|with_reducible refine a_ ?_|with_reducible refine t_ ?_ ?_|exact Nat.le_refl _|exact Nat.le_succ _|exact HB2.out.size|exact Nat.le_succ_of_le HB2.out.size)))
       (first
        |(go_at_call 61;guard_target=Calls _ _ _ (World.drew (World.alloc wr (Obj.cells #[_,_,_,_,_,_] _))) _;refine HT3.out.mono ?_;rintro e wz ⟨hb2,pa,pn,pk,qa,qn,qk,rfl,hi1,hi2,hf1,hf2⟩;have hc2:=b_ (r_ (Below.refl _ (wr.alloc (.cells #[.int .i64 0,.int .i64 0,.slice none 0 0,.int .i64 0,.int .i64 0,.slice none 0 0] 79)))) hb2;have HB2:=h_ (show Below wr.heap.size wr wz from b_ (o_ wr (.cells #[.int .i64 0,.int .i64 0,.slice none 0 0,.int .i64 0,.int .i64 0,.slice none 0 0] 79)) hc2);have ZB3:=h_ ((Box.new wr [.int .i64 0,.int .i64 0,.slice none 0 0,.int .i64 0,.int .i64 0,.slice none 0 0] 79 (B:=wr.heap.size) rfl).u_ hc2);have ZB3l:=h_ (Box.new wr [.int .i64 0,.int .i64 0,.slice none 0 0,.int .i64 0,.int .i64 0,.slice none 0 0] 79 (B:=wr.heap.size) rfl).lt;have ZF3:=h_ ((Free.new wr #[.int .i64 0,.int .i64 0,.slice none 0 0,.int .i64 0,.int .i64 0,.slice none 0 0] 79 (B:=wr.heap.size) rfl).u_ hc2 ZB3l.out);obtain ⟨z30,z31,z32,z33,z34,z35⟩:=ZB3.out.c6;obtain ⟨f30,f31,f32,f33,f34,f35⟩:=ZF3.out.f6;have HEa:Hid (Cells6 ((((((wz.setCell ⟨wr.heap.size,0,none⟩ (.int .i64 x1.rows)).setCell ⟨wr.heap.size,1,none⟩ (.int .i64 x1.cols)).setCell ⟨wr.heap.size,2,none⟩ (.slice pa pn pk)).setCell ⟨wr.heap.size,3,none⟩ (.int .i64 x2.rows)).setCell ⟨wr.heap.size,4,none⟩ (.int .i64 x2.cols)).setCell ⟨wr.heap.size,5,none⟩ (.slice qa qn qk)) wr.heap.size (.int .i64 x1.rows) (.int .i64 x1.cols) (.slice pa pn pk) (.int .i64 x2.rows) (.int .i64 x2.cols) (.slice qa qn qk)):=h_ (cells6_of (set_six ZB3.out _ _ _ _ _ _));have HF1:=h_ (show F_ (wr.heap.size+1) (.agg #[.int .i64 x1.rows,.int .i64 x1.cols,.slice pa pn pk]) from f_ hf1 (szd1 _ _));have HF2:=h_ (show F_ (wr.heap.size+1) (.agg #[.int .i64 x2.rows,.int .i64 x2.cols,.slice qa qn qk]) from f_ hf2 (szd1 _ _));have HG1:=h_ (f_ HF1.out (Nat.le_succ _));have HG2:=h_ (f_ HF2.out (Nat.le_succ _));have HI1:=h_ (show I_ ((((((wz.setCell ⟨wr.heap.size,0,none⟩ (.int .i64 x1.rows)).setCell ⟨wr.heap.size,1,none⟩ (.int .i64 x1.cols)).setCell ⟨wr.heap.size,2,none⟩ (.slice pa pn pk)).setCell ⟨wr.heap.size,3,none⟩ (.int .i64 x2.rows)).setCell ⟨wr.heap.size,4,none⟩ (.int .i64 x2.cols)).setCell ⟨wr.heap.size,5,none⟩ (.slice qa qn qk)) (.slice pa pn pk) x1.cells from I_.aboveF hi1 HF1.out (v_ (v_ (v_ (v_ (v_ (v_ (Above.refl _ _) (by omega)) (by omega)) (by omega)) (by omega)) (by omega)) (by omega)));have HI2:=h_ (show I_ ((((((wz.setCell ⟨wr.heap.size,0,none⟩ (.int .i64 x1.rows)).setCell ⟨wr.heap.size,1,none⟩ (.int .i64 x1.cols)).setCell ⟨wr.heap.size,2,none⟩ (.slice pa pn pk)).setCell ⟨wr.heap.size,3,none⟩ (.int .i64 x2.rows)).setCell ⟨wr.heap.size,4,none⟩ (.int .i64 x2.cols)).setCell ⟨wr.heap.size,5,none⟩ (.slice qa qn qk)) (.slice qa qn qk) x2.cells from I_.aboveF hi2 HF2.out (v_ (v_ (v_ (v_ (v_ (v_ (Above.refl _ _) (by omega)) (by omega)) (by omega)) (by omega)) (by omega)) (by omega)));clear hc2;clear hb2 hi1 hi2 hf1 hf2)
        |(go_at_call 61;guard_target=Calls _ _ _ (World.drew wr) _;refine HT0.out.mono ?_;rintro e wz ⟨hb2,pa,pn,pk,qa,qn,qk,rfl,hi1,hi2,hf1,hf2⟩;have hc2:=b_ (r_ (Below.refl _ wr)) hb2;have HB2:=h_ (show Below wr.heap.size wr wz from hc2);clear hc2;have HEa:Hid (Cells6 (wz.alloc (.cells #[.int .i64 x1.rows,.int .i64 x1.cols,.slice pa pn pk,.int .i64 x2.rows,.int .i64 x2.cols,.slice qa qn qk] 79)) wz.heap.size (.int .i64 x1.rows) (.int .i64 x1.cols) (.slice pa pn pk) (.int .i64 x2.rows) (.int .i64 x2.cols) (.slice qa qn qk)):=h_ (cells6_of (Box.new wz [.int .i64 x1.rows,.int .i64 x1.cols,.slice pa pn pk,.int .i64 x2.rows,.int .i64 x2.cols,.slice qa qn qk] 79 rfl));have HG1:=h_ (show F_ wr.heap.size (.agg #[.int .i64 x1.rows,.int .i64 x1.cols,.slice pa pn pk]) from hf1);have HG2:=h_ (show F_ wr.heap.size (.agg #[.int .i64 x2.rows,.int .i64 x2.cols,.slice qa qn qk]) from hf2);have HI1:=h_ (show I_ (wz.alloc (.cells #[.int .i64 x1.rows,.int .i64 x1.cols,.slice pa pn pk,.int .i64 x2.rows,.int .i64 x2.cols,.slice qa qn qk] 79)) (.slice pa pn pk) x1.cells from hi1.u_ (o_ _ _));have HI2:=h_ (show I_ (wz.alloc (.cells #[.int .i64 x1.rows,.int .i64 x1.cols,.slice pa pn pk,.int .i64 x2.rows,.int .i64 x2.cols,.slice qa qn qk] 79)) (.slice qa qn qk) x2.cells from hi2.u_ (o_ _ _));clear hb2 hi1 hi2 hf1 hf2))
      all_goals go_wp2
      all_goals go_meet
      all_goals
       refine ⟨_,pa,pn,pk,qa,qn,qk,rfl,rfl,?_,?_,?_,HG1.out,HG2.out,?_⟩
       ·with_reducible exact HI1.out
       ·with_reducible exact HI2.out
       ·with_reducible exact HEa.out
       ·repeat' (first|with_reducible exact Below.refl _ _|with_reducible exact HB2.out|with_reducible refine d_ ?_|with_reducible refine a_ ?_|with_reducible refine t_ ?_ ?_|exact Nat.le_refl _|exact Nat.le_succ _|exact HB2.out.size|exact Nat.le_succ_of_le HB2.out.size)
     case rest=>
      obtain ⟨B1,pa,pn,pk,qa,qn,qk,rfl,rfl,hi1,hi2,⟨c0,c1,c2,c3,c4,c5⟩,hf1,hf2,hbc⟩:=hcut
      have HBC:=h_ (b_ HB.out hbc)
      have HBD:=h_ hbc
      have HGL:=h_ (show ∀b,(fun b=>u6.ownBlock=some b∨(0≤b∧b<w.heap.size)) b→b<wr.heap.size from fun b hb=>by
       rcases hb with hb|hb
       ·exact (HO.out.lt b hb).2
       ·have:=HB.out.size;omega)
      have HOA:=h_ (HO.out.u_ (a_ (o:=(.cells #[.int .i64 x1.rows,.int .i64 x1.cols,.slice pa pn pk,.int .i64 x2.rows,.int .i64 x2.cols,.slice qa qn qk] 79)) hbc))
      have HEN:=h_ (show Enc (wc.alloc (.cells #[.int .i64 x1.rows,.int .i64 x1.cols,.slice pa pn pk,.int .i64 x2.rows,.int .i64 x2.cols,.slice qa qn qk] 79)) (fun b=>u6.ownBlock=some b∨(0≤b∧b<w.heap.size)) (gdS (x1,x2)) [.int .i64 x1.rows,.int .i64 x1.cols,.slice pa pn pk,.int .i64 x2.rows,.int .i64 x2.cols,.slice qa qn qk] from enc_gd (d:=(x1,x2)) ((x_ hi1 hf1 HGL.out).u_ (o_ _ _)) ((x_ hi2 hf2 HGL.out).u_ (o_ _ _)))
      have HNB:=h_ (show Box (wc.alloc (.cells #[.int .i64 x1.rows,.int .i64 x1.cols,.slice pa pn pk,.int .i64 x2.rows,.int .i64 x2.cols,.slice qa qn qk] 79)) wc.heap.size [.int .i64 x1.rows,.int .i64 x1.cols,.slice pa pn pk,.int .i64 x2.rows,.int .i64 x2.cols,.slice qa qn qk] from Box.new _ _ _ rfl)
      have HBS:=h_ (show w.heap.size≤(wc.alloc (.cells #[.int .i64 x1.rows,.int .i64 x1.cols,.slice pa pn pk,.int .i64 x2.rows,.int .i64 x2.cols,.slice qa qn qk] 79)).heap.size from Nat.le_trans HBC.out.size (o_ wc (.cells #[.int .i64 x1.rows,.int .i64 x1.cols,.slice pa pn pk,.int .i64 x2.rows,.int .i64 x2.cols,.slice qa qn qk] 79)).size)
      clear hi1 hi2 hf1 hf2 hbc HT HSB HT0 HT3 lm0 lm1 lm2 lm3 lm4 lm5 lm6 lm7 lm8 lm9 lm10 lm11
      go_wp2_with (at_builtin;refine wpList_append_owns rfl _ _ 23 rfl w.heap.size 79 e0 (.agg #[.int .i64 0,.int .i64 0,.slice none 0 0,.int .i64 0,.int .i64 0,.slice none 0 0]) 6 80 Try.underlying23 HEI.out.1 HEI.out.2.1 HEI.out.2.2.1 HEI.out.2.2.2 rfl (by decide) 0 _ _ _ rfl HOA.out ⟨wc.heap.size,0,none⟩ 1 1 [.int .i64 x1.rows,.int .i64 x1.cols,.slice pa pn pk,.int .i64 x2.rows,.int .i64 x2.cols,.slice qa qn qk] rfl rfl (fun q u hq=>by rw[addr_add];exact HNB.out q u hq) (gdS (x1,x2)) HEN.out ?d3 ?d4 HBS.out ?_)
      case d3=>unfold maxLen;have:=HLE.out;omega
      case d4=>have:=HLE.out;omega
      intro v' w' hown' hgrow hwh
      have HBW:=h_ (show Below w.heap.size w w' from (a_ (o:=(.cells #[.int .i64 x1.rows,.int .i64 x1.cols,.slice pa pn pk,.int .i64 x2.rows,.int .i64 x2.cols,.slice qa qn qk] 79)) HBC.out).grown hgrow HBS.out (fun k hk=>(HO.out.lt k hk).1))
      rw[flat_snoc]at hown'
      have HOW:=h_ hown'
      clear hown' hgrow hwh
      go_wp2
      go_roundw
      case rel=>exact ⟨i+1,_,pre++[(x1,x2)],by omega,by have:=HXI.out;omega,rfl,by rw[List.length_append,HPN.out];rfl,HP2.out,HE3.out,HOW.out,HBW.out⟩
      case measure=>have:=HXI.out;simp[intOf];omega
    ·have HGE:=h_ (show gat1E p q=E by rw[←HE2.out,if_pos hg])
     have HEZ:=h_ (show E≠0 by rw[←HGE.out];exact hg)
     obtain rfl:X=[]:=by rw[←HX0.out,if_neg HEZ.out]
     have HT:Hid (∀W,Below wr.heap.size wr W→Calls Try.prog 61 #[.agg #[.int .i64 p.1.rows,.int .i64 p.1.cols,.slice sa sn sk,.int .i64 p.2.rows,.int .i64 p.2.cols,.slice ta tn tk],.agg #[.int .i64 q.1.rows,.int .i64 q.1.cols,.slice xa xn xk,.int .i64 q.2.rows,.int .i64 q.2.cols,.slice ya yn yk]] W fun e w'=>Below W.heap.size W w'∧e=.returned (.tuple #[.agg #[.int .i64 0,.int .i64 0,.slice none 0 0,.int .i64 0,.int .i64 0,.slice none 0 0],.iface 65 (.int .i64 E)])):=h_ (fun W h=>(addgrads_any p q sa sn sk ta tn tk xa xn xk ya yn yk W (HI.out.1.1.u_ (b_ HB.out h)) (HI.out.2.1.u_ (b_ HB.out h)) (HI.out.1.2.u_ (b_ HB.out h)) (HI.out.2.2.u_ (b_ HB.out h))).mono (fun e w' hh=>⟨hh.1,by
      rcases hh.2 with ⟨h1,h2⟩|⟨h1,h2⟩
      ·exact absurd h1 (by rw[HGE.out];exact HEZ.out)
      ·rw[HGE.out,n_ HEZ.out]at h2;exact h2⟩))
     have HSB:Hid (∀W',Below wr.heap.size wr W'→(fun W'=>W'.cell? ⟨b,off+xi.toNat*6,none⟩=some (.int .i64 p.1.rows)∧W'.cell? ⟨b,off+xi.toNat*6+1,none⟩=some (.int .i64 p.1.cols)∧W'.cell? ⟨b,off+xi.toNat*6+2,none⟩=some (.slice sa sn sk)∧W'.cell? ⟨b,off+xi.toNat*6+3,none⟩=some (.int .i64 p.2.rows)∧W'.cell? ⟨b,off+xi.toNat*6+4,none⟩=some (.int .i64 p.2.cols)∧W'.cell? ⟨b,off+xi.toNat*6+5,none⟩=some (.slice ta tn tk)∧W'.cell? ⟨b',off'+xi.toNat*6,none⟩=some (.int .i64 q.1.rows)∧W'.cell? ⟨b',off'+xi.toNat*6+1,none⟩=some (.int .i64 q.1.cols)∧W'.cell? ⟨b',off'+xi.toNat*6+2,none⟩=some (.slice xa xn xk)∧W'.cell? ⟨b',off'+xi.toNat*6+3,none⟩=some (.int .i64 q.2.rows)∧W'.cell? ⟨b',off'+xi.toNat*6+4,none⟩=some (.int .i64 q.2.cols)∧W'.cell? ⟨b',off'+xi.toNat*6+5,none⟩=some (.slice ya yn yk)) W'):=h_ (fun W' h=>HK.out W' (b_ HB.out h))
     have HT3:=h_ (HT.out (wr.alloc (.cells #[.int .i64 0,.int .i64 0,.slice none 0 0,.int .i64 0,.int .i64 0,.slice none 0 0] 79)).drew (d_ (a_ (Below.refl wr.heap.size wr))))
     have HT0:=h_ (HT.out wr.drew (d_ (Below.refl wr.heap.size wr)))
     obtain ⟨lm0,lm1,lm2,lm3,lm4,lm5,lm6,lm7,lm8,lm9,lm10,lm11⟩:=HSB.out wr (Below.refl _ _)
     clear hg
     go_wp2
     go_cut [8,9] from 24 to 35 (fun a c wx=>∃(Bk:Nat),a=.pointer (some ⟨Bk,0,none⟩)∧c=.iface 65 (.int .i64 E)∧Below wr.heap.size wr wx)
     case first=>
      go_region_held3 (fun W'=>W'.cell? ⟨b,off+xi.toNat*6,none⟩=some (.int .i64 p.1.rows)∧W'.cell? ⟨b,off+xi.toNat*6+1,none⟩=some (.int .i64 p.1.cols)∧W'.cell? ⟨b,off+xi.toNat*6+2,none⟩=some (.slice sa sn sk)∧W'.cell? ⟨b,off+xi.toNat*6+3,none⟩=some (.int .i64 p.2.rows)∧W'.cell? ⟨b,off+xi.toNat*6+4,none⟩=some (.int .i64 p.2.cols)∧W'.cell? ⟨b,off+xi.toNat*6+5,none⟩=some (.slice ta tn tk)∧W'.cell? ⟨b',off'+xi.toNat*6,none⟩=some (.int .i64 q.1.rows)∧W'.cell? ⟨b',off'+xi.toNat*6+1,none⟩=some (.int .i64 q.1.cols)∧W'.cell? ⟨b',off'+xi.toNat*6+2,none⟩=some (.slice xa xn xk)∧W'.cell? ⟨b',off'+xi.toNat*6+3,none⟩=some (.int .i64 q.2.rows)∧W'.cell? ⟨b',off'+xi.toNat*6+4,none⟩=some (.int .i64 q.2.cols)∧W'.cell? ⟨b',off'+xi.toNat*6+5,none⟩=some (.slice ya yn yk)) ((refine HSB.out _ ?_;repeat' (first|with_reducible exact Below.refl _ _|with_reducible exact HB2.out|with_reducible refine d_ ?_|with_reducible refine a_ ?_|with_reducible refine t_ ?_ ?_|exact Nat.le_refl _|exact Nat.le_succ _|exact HB2.out.size|exact Nat.le_succ_of_le HB2.out.size)))
       (first
        |(go_at_call 61;guard_target=Calls _ _ _ (World.drew (World.alloc wr (Obj.cells #[_,_,_,_,_,_] _))) _;refine HT3.out.mono ?_;rintro e wz ⟨hb2,rfl⟩;have hc2:=b_ (r_ (Below.refl _ (wr.alloc (.cells #[.int .i64 0,.int .i64 0,.slice none 0 0,.int .i64 0,.int .i64 0,.slice none 0 0] 79)))) hb2;have HB2:=h_ (show Below wr.heap.size wr wz from b_ (o_ wr (.cells #[.int .i64 0,.int .i64 0,.slice none 0 0,.int .i64 0,.int .i64 0,.slice none 0 0] 79)) hc2);have ZB3:=h_ ((Box.new wr [.int .i64 0,.int .i64 0,.slice none 0 0,.int .i64 0,.int .i64 0,.slice none 0 0] 79 (B:=wr.heap.size) rfl).u_ hc2);have ZB3l:=h_ (Box.new wr [.int .i64 0,.int .i64 0,.slice none 0 0,.int .i64 0,.int .i64 0,.slice none 0 0] 79 (B:=wr.heap.size) rfl).lt;have ZF3:=h_ ((Free.new wr #[.int .i64 0,.int .i64 0,.slice none 0 0,.int .i64 0,.int .i64 0,.slice none 0 0] 79 (B:=wr.heap.size) rfl).u_ hc2 ZB3l.out);obtain ⟨z30,z31,z32,z33,z34,z35⟩:=ZB3.out.c6;obtain ⟨f30,f31,f32,f33,f34,f35⟩:=ZF3.out.f6;clear hc2;clear hb2)
        |(go_at_call 61;guard_target=Calls _ _ _ (World.drew wr) _;refine HT0.out.mono ?_;rintro e wz ⟨hb2,rfl⟩;have hc2:=b_ (r_ (Below.refl _ wr)) hb2;have HB2:=h_ (show Below wr.heap.size wr wz from hc2);clear hc2;clear hb2))
      all_goals go_wp2
      all_goals go_meet
      all_goals
       refine ⟨_,rfl,rfl,?_⟩
       repeat' (first|with_reducible exact Below.refl _ _|with_reducible exact HB2.out|with_reducible refine d_ ?_|with_reducible refine a_ ?_|with_reducible refine t_ ?_ ?_|exact Nat.le_refl _|exact Nat.le_succ _|exact HB2.out.size|exact Nat.le_succ_of_le HB2.out.size)
     case rest=>
      obtain ⟨B1,rfl,rfl,hbc⟩:=hcut
      have HBC:=h_ (b_ HB.out hbc)
      clear hbc HT HSB HT0 HT3 lm0 lm1 lm2 lm3 lm4 lm5 lm6 lm7 lm8 lm9 lm10 lm11
      go_wp2
      exact bodyPost_ret (v:=.tuple #[.slice none 0 0,.iface 65 (.int .i64 E)]) (by simp[results,Try.results39,go_sem]) rfl ⟨_,by rw[n_ HEZ.out],Owns.nil _ _ _ _ _,HBC.out⟩
   ·have hin:i=N:=by have:=HXI.out;omega
    obtain ⟨hpl,hpr,he⟩:=HPL.out
    rw[hin,←HN.out.1,List.drop_length]at hpr he
    replace hpr:pre=gatX ps qs:=by rw[←hpr];show pre=pre++[];simp
    replace he:0=E:=he
    subst he
    obtain rfl:pre=X:=by rw[hpr,←HX0.out,if_pos rfl]
    have HM:=h_ (show Owns 0 w.heap.size wr 79 6 u6 pre.length (pre.flatMap gdS) by rw[hpl];exact HO.out)
    clear hpr hin hpl
    go_wp2
    exact bodyPost_ret (v:=.tuple #[u6,.nilIface]) (by simp[results,Try.results39,go_sem]) rfl ⟨_,rfl,HM.out,HB.out⟩
 ·obtain rfl:E=2:=by rw[←HX.out.2];unfold gaE;rw[if_pos (by rw[HN.out.1,HN.out.2];exact hll)]
  obtain rfl:X=[]:=by rw[←HX.out.1];unfold gaX;rw[HX.out.2,if_neg (by decide)]
  have hNN:((N:Int) !=(N':Int))=true:=by simp;omega
  go_enter Try.func39,Try.ntmps39
  go_wp2
  exact bodyPost_ret (v:=.tuple #[.slice none 0 0,.iface 65 (.int .i64 2)]) (by simp[results,Try.results39,go_sem]) rfl ⟨_,rfl,Owns.nil _ _ _ _ _,Below.refl _ _⟩
theorem netgather_any(v v':Value)(ps qs:List (Mx×Mx))(w:World)(hv:D_ w v ps)(hv':D_ w v' qs)(hle:ps.length≤1759218604390):
  Calls Try.prog 39 #[v,v'] w fun e w'=>∃u,e=.returned (.tuple #[u,errV (gaE ps qs)])∧D_ w' u (gaX ps qs)∧Below w.heap.size w w':=by
 refine (netgather_owns v v' ps qs w hv hv' hle).mono ?_
 rintro e w1 ⟨u,h1,h2,h3⟩
 exact ⟨u,h1,h2.reads,h3⟩
end Go.Proofs.Ytniloklglpchfaf
