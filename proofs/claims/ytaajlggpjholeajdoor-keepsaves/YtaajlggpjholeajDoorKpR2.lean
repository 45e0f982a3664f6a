/- What SaveOf of the document's answer comes to. -/
import Derived.Test.YtaajlggpjholeajDoorKpR1
namespace Go.Proofs.YtaajlggpjholeajDoor
open Go.RowKit
set_option maxHeartbeats 16000000 in
set_option maxRecDepth 100000 in
theorem rsaveof_any(v v1:Value)(n:Int)(xs:List (Ly×(Mx×Mx)))(ls:List Ly)(ps:List (Mx×Mx))(w:World)(hls:ls=xs.map (·.1))(hps:ps=xs.map (·.2))(hv:Y_ w v ls)(hp:D_ w v1 ps)(hf:stF (n,xs)=0):
  Calls Tryd.prog 8 #[.agg #[v,v1,.int .i64 n]] w fun e w'=>∃s,e=.returned s∧OwnY w' w.heap.size s (savB n xs)∧Below w.heap.size w w':=by
 obtain ⟨a,cap,rfl,hlc,hcm⟩:=hv.shape
 obtain ⟨a1,cap1,rfl,hlc1,hcm1⟩:=hp.shape
 obtain ⟨N,hN⟩:=gN (xs.length)
 have hln:ls.length=N:=by rw[hls,List.length_map,hN]
 have hpn:ps.length=N:=by rw[hps,List.length_map,hN]
 have HV:=h_ hv
 have HP:=h_ hp
 have HLS:=h_ hls
 have HPS:=h_ hps
 obtain ⟨f1,f2,f3,f4⟩:=stF_zero hf
 have HF4:=h_ f4
 have HN:=h_ hN
 have HLE:=h_ (fun i=>stK_le hf i)
 have hN12:N≤12:=by omega
 have HNS:=h_ (show okN n.toNat∧okN N by
  unfold okN
  exact ⟨Nat.lt_of_le_of_lt (show n.toNat≤1000000000 by omega) (by decide),Nat.lt_of_le_of_lt hN12 (by decide)⟩)
 rw[hln]at HV ⊢
 rw[hpn]at HP ⊢
 obtain ⟨W1,hW1⟩:=gM (w.alloc (.cells #[.slice a N cap,.slice a1 N cap1,.int .i64 n] 25))
 have HW1:=h_ hW1
 have HB1:=h_ (show Below w.heap.size w W1 by rw[hW1];exact o_ _ _)
 have HX1:=h_ (show WBk W1 w.heap.size #[.slice a N cap,.slice a1 N cap1,.int .i64 n] 25 by rw[hW1];exact WBk.new _ _ _)
 have HS1:=h_ (show w.heap.size≤W1.heap.size from HB1.out.size)
 have HS11:=h_ (show W1.heap.size=w.heap.size+1 by rw[hW1,World.size_alloc])
 obtain ⟨W2,hW2⟩:=gM (W1.alloc (.cells #[.int .u8 71,.int .u8 1] 5))
 have HW2:=h_ (show W2=(w.alloc (.cells #[.slice a N cap,.slice a1 N cap1,.int .i64 n] 25)).alloc (.cells #[.int .u8 71,.int .u8 1] 5) by rw[hW2,hW1])
 have HKW2:=h_ (show OwnY W2 W1.heap.size (.slice (some ⟨w.heap.size+1,0,none⟩) 2 2) [71,1]∧Below W1.heap.size W1 W2 from ⟨by
  have h:=OwnY.lit W1 [71,1] (by simp) (fun z hz=>by simp at hz;omega)
  rw[←HS11.out,hW2]
  exact h,by rw[hW2];exact o_ _ _⟩)
 obtain ⟨_,_,x2⟩:=(HX1.out.kept HKW2.out.2).c3
 have HC1:=h_ (rseven_any 9 n.toNat n W2 (by omega) HNS.out.1 (by decide) (by decide))
 clear hv hp hls hps hf f4 hN hln hpn hlc hcm hlc1 hcm1 hW1 hW2 f1
 go_enter Tryd.func8,Tryd.ntmps8
 go_wp2_with fail
 rw[←HW2.out]
 go_wp2_with (first
  |(go_at_call 20;refine HC1.out.mono ?_;rintro e w3 ⟨sv,rfl,ho,hb⟩;have HOw3:=h_ ho;have HJw3:=h_ (show OwnY w3 W1.heap.size (.slice (some ⟨w.heap.size+1,0,none⟩) 2 2) ([71,1])∧Below W1.heap.size W1 w3∧Below W2.heap.size W2 w3 from ⟨HKW2.out.1.u_ hb,bel_on HKW2.out.2 hb,hb⟩);clear ho hb)
  |(at_builtin;refine app_bysW rfl _ _ rfl W1.heap.size (.slice (some ⟨w.heap.size+1,0,none⟩) 2 2) sv ([71,1]) (sevF 9 n.toNat) rfl HJw3.out.1 rfl HOw3.out.isBys HOw3.out.nilOk ?h1w4 ?h2w4 ?_))
 case h1w4=>have:(sevF 9 n.toNat).length≤9:=sevF_len 9 _;simp;omega
 case h2w4=>exact HJw3.out.2.1.size
 intro vw4 w4 hown hgr has hsz
 have HKw4:=h_ (show OwnY w4 W1.heap.size vw4 ([71,1]++sevF 9 n.toNat)∧Below W1.heap.size W1 w4 from ⟨hown,hgr W1 HJw3.out.2.1 (Nat.le_refl _)⟩)
 clear hown hgr has hsz x2
 obtain ⟨x0,_,_⟩:=(HX1.out.kept HKw4.out.2).c3
 have HC2:=h_ (rseven_any 9 N (N:Int) w4 rfl HNS.out.2 (by decide) (by decide))
 go_wp2_with (first
  |(go_at_call 20;refine HC2.out.mono ?_;rintro e w5 ⟨sv,rfl,ho,hb⟩;have HOw5:=h_ ho;have HJw5:=h_ (show OwnY w5 W1.heap.size vw4 ([71,1]++sevF 9 n.toNat)∧Below W1.heap.size W1 w5∧Below w4.heap.size w4 w5 from ⟨HKw4.out.1.u_ hb,bel_on HKw4.out.2 hb,hb⟩);clear ho hb)
  |(at_builtin;refine app_bysW rfl _ _ rfl W1.heap.size vw4 sv ([71,1]++sevF 9 n.toNat) (sevF 9 N) rfl HJw5.out.1 rfl HOw5.out.isBys HOw5.out.nilOk ?h1w6 ?h2w6 ?_))
 case h1w6=>have h1:(sevF 9 n.toNat).length≤9:=sevF_len 9 _;have h2:(sevF 9 N).length≤9:=sevF_len 9 _;simp;omega
 case h2w6=>exact HJw5.out.2.1.size
 intro vw6 w6 hown hgr has hsz
 have HKw6:=h_ (show OwnY w6 W1.heap.size vw6 (stK n xs 0)∧Below W1.heap.size W1 w6 from ⟨by rw[stK_zero,HN.out];exact hown,hgr W1 HJw5.out.2.1 (Nat.le_refl _)⟩)
 clear hown hgr has hsz x0
 go_wp2
 go_loopw [3,4,5] (fun bv _ q wr=>∃(i:Nat) (xi:Int),i≤N∧xi=(i:Int)∧q=.int .i64 xi∧OwnY wr W1.heap.size bv (stK n xs i)∧Below W1.heap.size W1 wr) (fun _ _ q _=>N - (intOf q).toNat)
 case atStart=>exact ⟨0,0,Nat.zero_le _,rfl,rfl,HKw6.out⟩
 case round=>
  obtain ⟨i,xi,hi,hxi,rfl,hown,hbw⟩:=hrel
  obtain ⟨V,hV⟩:=gM (wr)
  subst hV
  obtain ⟨bv,hbv⟩:=gM (u3)
  subst hbv
  have HXI:=h_ hxi
  have HKV:=h_ (And.intro hown hbw)
  have hxi0:0≤xi:=by omega
  have hxi1:xi≤12:=by omega
  obtain ⟨x0,x1,_⟩:=(HX1.out.kept hbw).c3
  clear hxi hown hbw
  by_cases hlt:xi<(N:Int)
  ·have hin:i<N:=by have:=HXI.out;omega
   have hxn:xi.toNat=i:=by have:=HXI.out;omega
   obtain ⟨x,hx⟩:∃x,xs[i]?=some x:=⟨xs[i]'(by rw[HN.out];exact hin),List.getElem?_eq_getElem _⟩
   have HX:=h_ hx
   have HFX:=h_ (HF4.out x (List.mem_of_getElem? hx))
   obtain ⟨l,p⟩:=x
   have hl:ls[i]?=some l:=by rw[HLS.out,List.getElem?_map,hx];rfl
   have hpp:ps[i]?=some p:=by rw[HPS.out,List.getElem?_map,hx];rfl
   obtain ⟨b,off,cp,sa,sn,sk,ta,tn,tk,ev,k0,k1,k2,k3,k4,k5,k6,hly⟩:=HV.out.at hl
   obtain ⟨b1,off1,cp1,pa,pn,pk,qa,qn,qk,ev1,y0,y1,y2,y3,y4,y5,j1,j2⟩:=HP.out.at hpp
   obtain rfl:=(Value.slice.inj ev).1
   obtain rfl:=(Value.slice.inj ev1).1
   rw[←hxn]at k0 k1 k2 k3 k4 k5 k6 y0 y1 y2 y3 y4 y5
   have HK7:=h_ (And.intro k0 (And.intro k1 (And.intro k2 (And.intro k3 (And.intro k4 (And.intro k5 k6))))))
   have HY:=h_ (And.intro y0 (And.intro y1 (And.intro y2 (And.intro y3 (And.intro y4 y5)))))
   obtain ⟨i1,i2⟩:=Y_.ints hly
   have hkb:0≤l.k∧l.k≤4:=by
    obtain ⟨q1,q2,_⟩:=lgood_of HFX.out.1
    replace q1:1≤l.k:=q1
    replace q2:l.k≤4:=q2
    omega
   obtain ⟨_,_,g1,g2,_⟩:=lgood_of HFX.out.1
   have HM0:=h_ (fun W (hb:Below w.heap.size w W)=>rmatof_any (.agg #[.int .i64 l.w.rows,.int .i64 l.w.cols,.slice sa sn sk]) l.w W ⟨_,rfl,i1.u_ hb⟩ g1)
   have HM1:=h_ (fun W (hb:Below w.heap.size w W)=>rmatof_any (.agg #[.int .i64 l.b.rows,.int .i64 l.b.cols,.slice ta tn tk]) l.b W ⟨_,rfl,i2.u_ hb⟩ g2)
   have HM2:=h_ (fun W (hb:Below w.heap.size w W)=>rmatof_any (.agg #[.int .i64 p.1.rows,.int .i64 p.1.cols,.slice pa pn pk]) p.1 W ⟨_,rfl,j1.u_ hb⟩ HFX.out.2.1)
   have HM3:=h_ (fun W (hb:Below w.heap.size w W)=>rmatof_any (.agg #[.int .i64 p.2.rows,.int .i64 p.2.cols,.slice qa qn qk]) p.2 W ⟨_,rfl,j2.u_ hb⟩ HFX.out.2.2)
   have HN0:=h_ (show wrNs (lyK (l,p) 1)=wrNs (lyK (l,p) 0)++wrNs (mxN l.w) from lyK_next rfl)
   have HN1:=h_ (show wrNs (lyK (l,p) 2)=wrNs (lyK (l,p) 1)++wrNs (mxN l.b) from lyK_next rfl)
   have HN2:=h_ (show wrNs (lyK (l,p) 3)=wrNs (lyK (l,p) 2)++wrNs (mxN p.1) from lyK_next rfl)
   have HN3:=h_ (show wrNs (lyK (l,p) 4)=wrNs (lyK (l,p) 3)++wrNs (mxN p.2) from lyK_next rfl)
   have HE0:=h_ (mxN_le g1)
   have HE1:=h_ (mxN_le g2)
   have HE2:=h_ (mxN_le HFX.out.2.1)
   have HE3:=h_ (mxN_le HFX.out.2.2)
   obtain ⟨lk,hlk⟩:=gN (l.k)
   obtain ⟨r0,hr0⟩:=gN (l.w.rows)
   obtain ⟨c0,hc0⟩:=gN (l.w.cols)
   obtain ⟨r1,hr1⟩:=gN (l.b.rows)
   obtain ⟨c1,hc1⟩:=gN (l.b.cols)
   obtain ⟨r2,hr2⟩:=gN (p.1.rows)
   obtain ⟨c2,hc2⟩:=gN (p.1.cols)
   obtain ⟨r3,hr3⟩:=gN (p.2.rows)
   obtain ⟨c3,hc3⟩:=gN (p.2.cols)
   rw[hr0,hc0]at HM0
   rw[hr1,hc1]at HM1
   rw[hr2,hc2]at HM2
   rw[hr3,hc3]at HM3
   rw[hlk,hr0,hc0,hr1,hc1]at HK7
   rw[hr2,hc2,hr3,hc3]at HY
   have HLK:=h_ hlk
   rw[hlk]at hkb
   have HLEK:=h_ (fun k=>lyK_le (x:=(l,p)) HFX.out k)
   clear ev ev1 hly i1 i2 j1 j2 hl hpp hxn hx hlk hr0 hc0 hr1 hc1 hr2 hc2 hr3 hc3 g1 g2 k0 k1 k2 k3 k4 k5 k6 y0 y1 y2 y3 y4 y5
   have HCK:=h_ (rseven_any 9 lk.toNat lk V (by omega) (Nat.lt_of_le_of_lt (show lk.toNat≤4 by omega) (by decide)) (by decide) (by decide))
   have HBW:=h_ (b_ HB1.out HKV.out.2)
   have k0:=c_ HBW.out HK7.out.1
   go_wp2_with (first
    |(go_at_call 20;refine HCK.out.mono ?_;rintro e w7 ⟨sv,rfl,ho,hb⟩;have HOw7:=h_ ho;have HJw7:=h_ (show OwnY w7 W1.heap.size bv (stK n xs i)∧Below W1.heap.size W1 w7∧Below V.heap.size V w7 from ⟨HKV.out.1.u_ hb,bel_on HKV.out.2 hb,hb⟩);clear ho hb)
    |(at_builtin;refine app_bysW rfl _ _ rfl W1.heap.size bv sv (stK n xs i) (sevF 9 lk.toNat) rfl HJw7.out.1 rfl HOw7.out.isBys HOw7.out.nilOk ?h1z0 ?h2z0 ?_))
   case h1z0=>have h1:=HLE.out i;have h2:(sevF 9 lk.toNat).length≤9:=sevF_len 9 _;omega
   case h2z0=>exact HJw7.out.2.1.size
   intro vz0 z0 hown hgr has hsz
   have HKz0:=h_ (show OwnY z0 W1.heap.size vz0 (stK n xs i++wrNs (lyK (l,p) 0))∧Below W1.heap.size W1 z0 from ⟨by rw[lyK_zero,HLK.out];exact hown,hgr W1 HJw7.out.2.1 (Nat.le_refl _)⟩)
   clear hown hgr has hsz k0 x0 x1
   have HBQ0:=h_ (b_ HB1.out HKz0.out.2)
   obtain ⟨x0,x1,_⟩:=(HX1.out.kept HKz0.out.2).c3
   have HCM0:=h_ (HM0.out z0 HBQ0.out)
   have g0:=c_ HBQ0.out HK7.out.2.1
   have g1:=c_ HBQ0.out HK7.out.2.2.1
   have g2:=c_ HBQ0.out HK7.out.2.2.2.1
   go_wp2_with (first
    |(go_at_call 21;refine HCM0.out.mono ?_;rintro e q0 ⟨sv,rfl,ho,hb⟩;have HOq0:=h_ ho;have HJq0:=h_ (show OwnY q0 W1.heap.size vz0 (stK n xs i++wrNs (lyK (l,p) 0))∧Below W1.heap.size W1 q0∧Below z0.heap.size z0 q0 from ⟨HKz0.out.1.u_ hb,bel_on HKz0.out.2 hb,hb⟩);clear ho hb)
    |(at_builtin;refine app_bysW rfl _ _ rfl W1.heap.size vz0 sv (stK n xs i++wrNs (lyK (l,p) 0)) (wrNs (mxN l.w)) rfl HJq0.out.1 rfl HOq0.out.isBys HOq0.out.nilOk ?h1z1 ?h2z1 ?_))
   case h1z1=>have h1:=HLE.out i;have h2:=HLEK.out 0;have h3:=HE0.out;rw[List.length_append];omega
   case h2z1=>exact HJq0.out.2.1.size
   intro vz1 z1 hown hgr has hsz
   have HKz1:=h_ (show OwnY z1 W1.heap.size vz1 (stK n xs i++wrNs (lyK (l,p) 1))∧Below W1.heap.size W1 z1 from ⟨by rw[HN0.out];first|exact hown|(rw[←List.append_assoc];exact hown),hgr W1 HJq0.out.2.1 (Nat.le_refl _)⟩)
   clear hown hgr has hsz x0 x1 g0 g1 g2
   have HBQ1:=h_ (b_ HB1.out HKz1.out.2)
   obtain ⟨x0,x1,_⟩:=(HX1.out.kept HKz1.out.2).c3
   have HCM1:=h_ (HM1.out z1 HBQ1.out)
   have g0:=c_ HBQ1.out HK7.out.2.2.2.2.1
   have g1:=c_ HBQ1.out HK7.out.2.2.2.2.2.1
   have g2:=c_ HBQ1.out HK7.out.2.2.2.2.2.2
   go_wp2_with (first
    |(go_at_call 21;refine HCM1.out.mono ?_;rintro e q1 ⟨sv,rfl,ho,hb⟩;have HOq1:=h_ ho;have HJq1:=h_ (show OwnY q1 W1.heap.size vz1 (stK n xs i++wrNs (lyK (l,p) 1))∧Below W1.heap.size W1 q1∧Below z1.heap.size z1 q1 from ⟨HKz1.out.1.u_ hb,bel_on HKz1.out.2 hb,hb⟩);clear ho hb)
    |(at_builtin;refine app_bysW rfl _ _ rfl W1.heap.size vz1 sv (stK n xs i++wrNs (lyK (l,p) 1)) (wrNs (mxN l.b)) rfl HJq1.out.1 rfl HOq1.out.isBys HOq1.out.nilOk ?h1z2 ?h2z2 ?_))
   case h1z2=>have h1:=HLE.out i;have h2:=HLEK.out 1;have h3:=HE1.out;rw[List.length_append];omega
   case h2z2=>exact HJq1.out.2.1.size
   intro vz2 z2 hown hgr has hsz
   have HKz2:=h_ (show OwnY z2 W1.heap.size vz2 (stK n xs i++wrNs (lyK (l,p) 2))∧Below W1.heap.size W1 z2 from ⟨by rw[HN1.out];first|exact hown|(rw[←List.append_assoc];exact hown),hgr W1 HJq1.out.2.1 (Nat.le_refl _)⟩)
   clear hown hgr has hsz x0 x1 g0 g1 g2
   have HBQ2:=h_ (b_ HB1.out HKz2.out.2)
   obtain ⟨x0,x1,_⟩:=(HX1.out.kept HKz2.out.2).c3
   have HCM2:=h_ (HM2.out z2 HBQ2.out)
   have g0:=c_ HBQ2.out HY.out.1
   have g1:=c_ HBQ2.out HY.out.2.1
   have g2:=c_ HBQ2.out HY.out.2.2.1
   go_wp2_with (first
    |(go_at_call 21;refine HCM2.out.mono ?_;rintro e q2 ⟨sv,rfl,ho,hb⟩;have HOq2:=h_ ho;have HJq2:=h_ (show OwnY q2 W1.heap.size vz2 (stK n xs i++wrNs (lyK (l,p) 2))∧Below W1.heap.size W1 q2∧Below z2.heap.size z2 q2 from ⟨HKz2.out.1.u_ hb,bel_on HKz2.out.2 hb,hb⟩);clear ho hb)
    |(at_builtin;refine app_bysW rfl _ _ rfl W1.heap.size vz2 sv (stK n xs i++wrNs (lyK (l,p) 2)) (wrNs (mxN p.1)) rfl HJq2.out.1 rfl HOq2.out.isBys HOq2.out.nilOk ?h1z3 ?h2z3 ?_))
   case h1z3=>have h1:=HLE.out i;have h2:=HLEK.out 2;have h3:=HE2.out;rw[List.length_append];omega
   case h2z3=>exact HJq2.out.2.1.size
   intro vz3 z3 hown hgr has hsz
   have HKz3:=h_ (show OwnY z3 W1.heap.size vz3 (stK n xs i++wrNs (lyK (l,p) 3))∧Below W1.heap.size W1 z3 from ⟨by rw[HN2.out];first|exact hown|(rw[←List.append_assoc];exact hown),hgr W1 HJq2.out.2.1 (Nat.le_refl _)⟩)
   clear hown hgr has hsz x0 x1 g0 g1 g2
   have HBQ3:=h_ (b_ HB1.out HKz3.out.2)
   obtain ⟨x0,x1,_⟩:=(HX1.out.kept HKz3.out.2).c3
   have HCM3:=h_ (HM3.out z3 HBQ3.out)
   have g0:=c_ HBQ3.out HY.out.2.2.2.1
   have g1:=c_ HBQ3.out HY.out.2.2.2.2.1
   have g2:=c_ HBQ3.out HY.out.2.2.2.2.2
   go_wp2_with (first
    |(go_at_call 21;refine HCM3.out.mono ?_;rintro e q3 ⟨sv,rfl,ho,hb⟩;have HOq3:=h_ ho;have HJq3:=h_ (show OwnY q3 W1.heap.size vz3 (stK n xs i++wrNs (lyK (l,p) 3))∧Below W1.heap.size W1 q3∧Below z3.heap.size z3 q3 from ⟨HKz3.out.1.u_ hb,bel_on HKz3.out.2 hb,hb⟩);clear ho hb)
    |(at_builtin;refine app_bysW rfl _ _ rfl W1.heap.size vz3 sv (stK n xs i++wrNs (lyK (l,p) 3)) (wrNs (mxN p.2)) rfl HJq3.out.1 rfl HOq3.out.isBys HOq3.out.nilOk ?h1z4 ?h2z4 ?_))
   case h1z4=>have h1:=HLE.out i;have h2:=HLEK.out 3;have h3:=HE3.out;rw[List.length_append];omega
   case h2z4=>exact HJq3.out.2.1.size
   intro vz4 z4 hown hgr has hsz
   have HKz4:=h_ (show OwnY z4 W1.heap.size vz4 (stK n xs i++wrNs (lyK (l,p) 4))∧Below W1.heap.size W1 z4 from ⟨by rw[HN3.out];first|exact hown|(rw[←List.append_assoc];exact hown),hgr W1 HJq3.out.2.1 (Nat.le_refl _)⟩)
   clear hown hgr has hsz x0 x1 g0 g1 g2
   have HKN:=h_ (show OwnY z4 W1.heap.size vz4 (stK n xs (i+1))∧Below W1.heap.size W1 z4 from ⟨by
    rw[stK_next HX.out,←lyK_all]
    exact HKz4.out.1,HKz4.out.2⟩)
   go_wp2
   go_roundw
   case rel=>exact ⟨i+1,_,by omega,by have:=HXI.out;omega,rfl,HKN.out.1,HKN.out.2⟩
   case measure=>have:=HXI.out;simp[intOf];omega
  ·have HKB:=h_ (show OwnY V W1.heap.size bv (stB n xs)∧Below W1.heap.size W1 V from ⟨by
    rw[←stK_all n xs (i:=i) (by rw[HN.out];have:=HXI.out;omega)]
    exact HKV.out.1,HKV.out.2⟩)
   have HBL:=h_ (show (stB n xs).length≤70000 by rw[←stK_all n xs (i:=xs.length) (Nat.le_refl _)];exact HLE.out _)
   have HKV:=HKB
   have HSU:=h_ (rsums_any bv (stB n xs) V HKB.out.1.isBys (by have:=HBL.out;omega))
   go_wp2_with (first
    |(go_at_call 22;refine HSU.out.mono ?_;rintro e wq ⟨sv,rfl,ho,hb⟩;have HOwq:=h_ ho;have HJwq:=h_ (show OwnY wq W1.heap.size bv (stB n xs)∧Below W1.heap.size W1 wq∧Below V.heap.size V wq from ⟨HKV.out.1.u_ hb,bel_on HKV.out.2 hb,hb⟩);clear ho hb)
    |(at_builtin;refine app_bysW rfl _ _ rfl W1.heap.size bv sv (stB n xs) (sumsG 0 0 (stB n xs)) rfl HJwq.out.1 rfl HOwq.out.isBys HOwq.out.nilOk ?h1wz ?h2wz ?_))
   case h1wz=>have:=HBL.out;rw[sumsG_len];omega
   case h2wz=>exact HJwq.out.2.1.size
   intro vwz wz hown hgr has hsz
   have HR:=h_ (show OwnY wz W1.heap.size vwz (savB n xs)∧Below W1.heap.size W1 wz from ⟨hown,hgr W1 HJwq.out.2.1 (Nat.le_refl _)⟩)
   clear hown hgr has hsz
   go_wp2
   exact bodyPost_ret (v:=vwz) (by simp[results,Tryd.results8,go_sem]) rfl ⟨vwz,rfl,HR.out.1.base HS1.out,b_ HB1.out HR.out.2⟩
end Go.Proofs.YtaajlggpjholeajDoor
