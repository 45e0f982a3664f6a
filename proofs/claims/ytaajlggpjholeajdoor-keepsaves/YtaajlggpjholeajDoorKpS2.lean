/- What written of package keep comes to, walked. -/
import Derived.Test.YtaajlggpjholeajDoorKpS1
import Derived.Test.YtaajlggpjholeajDoorTrC1
import Derived.Deep.RegionHeld3
namespace Go.Proofs.YtaajlggpjholeajDoor
open Go.RowKit
set_option maxHeartbeats 16000000 in
set_option maxRecDepth 100000 in
theorem kwritten_any(v v1:Value)(n:Int)(xs:List (Ly×(Mx×Mx)))(ls:List Ly)(ps:List (Mx×Mx))(w:World)(hls:ls=xs.map (·.1))(hps:ps=xs.map (·.2))(hv:Y_ w v ls)(hp:D_ w v1 ps)(hf:stF (n,xs)=0):
  Calls Tryd.prog 16 #[.agg #[v,v1,.int .i64 n]] w fun e w'=>∃s,e=.returned s∧OwnY w' w.heap.size s (savB n xs)∧Below w.heap.size w w':=by
 obtain ⟨a,cap,rfl,hlc,hcm⟩:=hv.shape
 obtain ⟨a1,cap1,rfl,hlc1,hcm1⟩:=hp.shape
 obtain ⟨N,hN⟩:=gN (xs.length)
 have hln:ls.length=N:=by rw[hls,List.length_map,hN]
 have hpn:ps.length=N:=by rw[hps,List.length_map,hN]
 have HV:=h_ hv
 have HP:=h_ hp
 have HLS:=h_ hls
 have HPS:=h_ hps
 obtain ⟨f1,f2,f3,f4⟩:=stF_zero hf
 have HF4:=h_ f4
 have HN:=h_ hN
 have HLE:=h_ (fun i=>stK_le hf i)
 have hN12:N≤12:=by omega
 have HNS:=h_ (show okN n.toNat∧okN N by
  unfold okN
  exact ⟨Nat.lt_of_le_of_lt (show n.toNat≤1000000000 by omega) (by decide),Nat.lt_of_le_of_lt hN12 (by decide)⟩)
 rw[hln]at HV ⊢
 rw[hpn]at HP ⊢
 obtain ⟨W1,hW1⟩:=gM (w.alloc (.cells #[.slice a N cap,.slice a1 N cap1,.int .i64 n] 26))
 have HW1:=h_ hW1
 have HB1:=h_ (show Below w.heap.size w W1 by rw[hW1];exact o_ _ _)
 have HX1:=h_ (show WBk W1 w.heap.size #[.slice a N cap,.slice a1 N cap1,.int .i64 n] 26 by rw[hW1];exact WBk.new _ _ _)
 have HS1:=h_ (show w.heap.size≤W1.heap.size from HB1.out.size)
 have HS11:=h_ (show W1.heap.size=w.heap.size+1 by rw[hW1,World.size_alloc])
 obtain ⟨W2,hW2⟩:=gM (W1.alloc (.cells #[.int .u8 71,.int .u8 1] 5 (2,3)))
 have HW2:=h_ (show W2=(w.alloc (.cells #[.slice a N cap,.slice a1 N cap1,.int .i64 n] 26)).alloc (.cells #[.int .u8 71,.int .u8 1] 5 (2,3)) by rw[hW2,hW1])
 have hcv:=Joins.run_convert_bytes_const_at (P:=Tryd.prog) (w.alloc (.cells #[.slice a N cap,.slice a1 N cap1,.int .i64 n] 26)) 28 5 #[.int .u8 71,.int .u8 1] 2 2 (w.heap.size+1) (by rw[World.size_alloc]) (by kernel_rfl) (by kernel_rfl)
 have HG2:=h_ (show IsBys W2 (.slice (some ⟨w.heap.size+1,0,none⟩) 2 2) [71,1] from ⟨_,2,rfl,Nat.le_refl _,by unfold maxLen;omega,fun x hx=>by simp at hx;omega,.inr ⟨w.heap.size+1,0,rfl,fun i x hx=>by
  have hb:W2.heap[w.heap.size+1]?=some (.cells #[.int .u8 71,.int .u8 1] 5 (2,3)):=by rw[hW2,←HS11.out];exact heap_alloc_new W1 _
  rw[Joins.cell_of_block hb]
  match i,hx with
  |0,hx=>obtain rfl:=Option.some.inj hx;rfl
  |1,hx=>obtain rfl:=Option.some.inj hx;rfl⟩⟩)
 have HB2:=h_ (show Below W1.heap.size W1 W2 by rw[hW2];exact o_ _ _)
 obtain ⟨_,_,x2⟩:=(HX1.out.kept HB2.out).c3
 have HC1:=h_ (wwn_any n.toNat n W2 (by omega) HNS.out.1)
 clear hv hp hls hps hf f4 hN hln hpn hlc hcm hlc1 hcm1 hW1 hW2 f1
 go_enter Tryd.func16,Tryd.ntmps16
 go_wp2_with fail
 rw[←HW2.out]
 clear hcv
 go_wp2_with (first
  |(go_at_call 31;refine HC1.out.mono ?_;rintro e w3 ⟨sv,rfl,ho,hb⟩;have HOw3:=h_ ho;have HJw3:=h_ (show IsBys w3 (.slice (some ⟨w.heap.size+1,0,none⟩) 2 2) [71,1]∧Below W1.heap.size W1 w3 from ⟨HG2.out.u_ hb,bel_on HB2.out hb⟩);clear ho hb)
  |(at_builtin;refine app_bysG rfl _ _ rfl ⟨w.heap.size+1,0,none⟩ 2 sv [71,1] (sev n.toNat) rfl HJw3.out.1 rfl HOw3.out.isBys HOw3.out.nilOk ?h0w4 ?h1w4 ?_))
 case h0w4=>exact fun e=>by have:=sev_pos n.toNat;rw[e]at this;simp at this
 case h1w4=>have:(sev n.toNat).length≤9:=sevF_len 9 _;simp;omega
 intro vw4 w4 hown hb4
 have HKw4:=h_ (show OwnY w4 W1.heap.size vw4 ([71,1]++sev n.toNat)∧Below W1.heap.size W1 w4 from ⟨hown.base (HJw3.out.2.size),bel_on HJw3.out.2 hb4⟩)
 clear hown hb4 x2
 obtain ⟨x0,_,_⟩:=(HX1.out.kept HKw4.out.2).c3
 have HC2:=h_ (wwn_any N (N:Int) w4 rfl HNS.out.2)
 go_wp2_with (first
  |(go_at_call 31;refine HC2.out.mono ?_;rintro e w5 ⟨sv,rfl,ho,hb⟩;have HOw5:=h_ ho;have HJw5:=h_ (show OwnY w5 W1.heap.size vw4 ([71,1]++sev n.toNat)∧Below W1.heap.size W1 w5∧Below w4.heap.size w4 w5 from ⟨HKw4.out.1.u_ hb,bel_on HKw4.out.2 hb,hb⟩);clear ho hb)
  |(at_builtin;refine app_bysW rfl _ _ rfl W1.heap.size vw4 sv ([71,1]++sev n.toNat) (sev N) rfl HJw5.out.1 rfl HOw5.out.isBys HOw5.out.nilOk ?h1w6 ?h2w6 ?_))
 case h1w6=>have h1:(sev n.toNat).length≤9:=sevF_len 9 _;have h2:(sev N).length≤9:=sevF_len 9 _;simp;omega
 case h2w6=>exact HJw5.out.2.1.size
 intro vw6 w6 hown hgr has hsz
 have HKw6:=h_ (show OwnY w6 W1.heap.size vw6 (stK n xs 0)∧Below W1.heap.size W1 w6 from ⟨by rw[stK_zero,HN.out];exact hown,hgr W1 HJw5.out.2.1 (Nat.le_refl _)⟩)
 clear hown hgr has hsz x0
 obtain ⟨x0,_,_⟩:=(HX1.out.kept HKw6.out.2).c3
 go_wp2
 clear x0
 go_loopw [3,25] (fun bv q wr=>∃(i:Nat) (xi:Int),i≤N∧xi=(i:Int)∧q=.int .i64 xi∧OwnY wr W1.heap.size bv (stK n xs i)∧Below W1.heap.size W1 wr) (fun _ q _=>N - (intOf q).toNat)
 case atStart=>exact ⟨0,0,Nat.zero_le _,rfl,rfl,HKw6.out⟩
 case round=>
  obtain ⟨i,xi,hi,hxi,rfl,hown,hbw⟩:=hrel
  obtain ⟨V,hV⟩:=gM (wr)
  subst hV
  obtain ⟨bv,hbv⟩:=gM (u3)
  subst hbv
  have HXI:=h_ hxi
  have HKV:=h_ (And.intro hown hbw)
  have HBV:=h_ (b_ HB1.out hbw)
  have hxi0:0≤xi:=by omega
  have hxi1:xi≤12:=by omega
  clear hxi hown hbw
  by_cases hlt:xi<(N:Int)
  ·have hin:i<N:=by have:=HXI.out;omega
   have hxn:xi.toNat=i:=by have:=HXI.out;omega
   obtain ⟨x,hx⟩:∃x,xs[i]?=some x:=⟨xs[i]'(by rw[HN.out];exact hin),List.getElem?_eq_getElem _⟩
   have HX:=h_ hx
   have HFX:=h_ (HF4.out x (List.mem_of_getElem? hx))
   obtain ⟨l,p⟩:=x
   have hl:ls[i]?=some l:=by rw[HLS.out,List.getElem?_map,hx];rfl
   have hpp:ps[i]?=some p:=by rw[HPS.out,List.getElem?_map,hx];rfl
   obtain ⟨b,off,cp,sa,sn,sk,ta,tn,tk,ev,k0,k1,k2,k3,k4,k5,k6,hly⟩:=HV.out.at hl
   obtain ⟨b1,off1,cp1,pa,pn,pk,qa,qn,qk,ev1,y0,y1,y2,y3,y4,y5,j1,j2⟩:=HP.out.at hpp
   obtain rfl:=(Value.slice.inj ev).1
   obtain rfl:=(Value.slice.inj ev1).1
   rw[←hxn]at k0 k1 k2 k3 k4 k5 k6 y0 y1 y2 y3 y4 y5
   have HY:=h_ (And.intro y0 (And.intro y1 (And.intro y2 (And.intro y3 (And.intro y4 y5)))))
   replace k0:=c_ HBV.out k0
   replace k1:=c_ HBV.out k1
   replace k2:=c_ HBV.out k2
   replace k3:=c_ HBV.out k3
   replace k4:=c_ HBV.out k4
   replace k5:=c_ HBV.out k5
   replace k6:=c_ HBV.out k6
   obtain ⟨i1,i2⟩:=Y_.ints hly
   have hkb:0≤l.k∧l.k≤4:=by
    obtain ⟨q1,q2,_⟩:=lgood_of HFX.out.1
    replace q1:1≤l.k:=q1
    replace q2:l.k≤4:=q2
    omega
   have HIN:=h_ (show ∀k:Nat,k<4→∃(m:Mx) (ua:Option Addr) (un uk:Nat),(layM (l,p))[k]?=some m∧q_ m=0∧I_ w (.slice ua un uk) m.cells∧∀W:World,(Instr.index 73 (.agg #[.int .i64 l.w.rows,.int .i64 l.w.cols,.slice sa sn sk,.int .i64 l.b.rows,.int .i64 l.b.cols,.slice ta tn tk,.int .i64 p.1.rows,.int .i64 p.1.cols,.slice pa pn pk,.int .i64 p.2.rows,.int .i64 p.2.cols,.slice qa qn qk]) (.int .i64 (k:Int))).run Tryd.prog W=.ok (.agg #[.int .i64 m.rows,.int .i64 m.cols,.slice ua un uk]) W from fun k hk=>by
    obtain ⟨_,_,g1,g2,_⟩:=lgood_of HFX.out.1
    match k,hk with
    |0,_=>exact ⟨l.w,sa,sn,sk,rfl,g1,i1,fun W=>kidx0 _ _ _ _ _ _ _ _ _ _ _ _ W⟩
    |1,_=>exact ⟨l.b,ta,tn,tk,rfl,g2,i2,fun W=>kidx1 _ _ _ _ _ _ _ _ _ _ _ _ W⟩
    |2,_=>exact ⟨p.1,pa,pn,pk,rfl,HFX.out.2.1,j1,fun W=>kidx2 _ _ _ _ _ _ _ _ _ _ _ _ W⟩
    |3,_=>exact ⟨p.2,qa,qn,qk,rfl,HFX.out.2.2,j2,fun W=>kidx3 _ _ _ _ _ _ _ _ _ _ _ _ W⟩)
   obtain ⟨lk,hlk⟩:=gN (l.k)
   obtain ⟨r0,hr0⟩:=gN (l.w.rows)
   obtain ⟨c0,hc0⟩:=gN (l.w.cols)
   obtain ⟨r1,hr1⟩:=gN (l.b.rows)
   obtain ⟨c1,hc1⟩:=gN (l.b.cols)
   obtain ⟨r2,hr2⟩:=gN (p.1.rows)
   obtain ⟨c2,hc2⟩:=gN (p.1.cols)
   obtain ⟨r3,hr3⟩:=gN (p.2.rows)
   obtain ⟨c3,hc3⟩:=gN (p.2.cols)
   rw[hr0,hc0,hr1,hc1,hr2,hc2,hr3,hc3]at HIN
   rw[hlk]at k0
   rw[hr0]at k1
   rw[hc0]at k2
   rw[hr1]at k4
   rw[hc1]at k5
   rw[hr2,hc2,hr3,hc3]at HY
   have HLK:=h_ hlk
   rw[hlk]at hkb
   obtain ⟨U,hU⟩:=gM (V.alloc (.cells #[.int .i64 lk,.int .i64 r0,.int .i64 c0,.slice sa sn sk,.int .i64 r1,.int .i64 c1,.slice ta tn tk] 53))
   have HU:=h_ hU
   have HBU:=h_ (show Below V.heap.size V U by rw[hU];exact o_ _ _)
   have HLB:=h_ (show WBk U V.heap.size #[.int .i64 lk,.int .i64 r0,.int .i64 c0,.slice sa sn sk,.int .i64 r1,.int .i64 c1,.slice ta tn tk] 53 by rw[hU];exact WBk.new _ _ _)
   have HKU:=h_ (show OwnY U W1.heap.size bv (stK n xs i)∧Below W1.heap.size W1 U from ⟨HKV.out.1.u_ HBU.out,bel_on HKV.out.2 HBU.out⟩)
   have HAP:=h_ HKV.out.1.apart
   have HCK:=h_ (wwn_any lk.toNat lk U (by omega) (by unfold okN;exact Nat.lt_of_le_of_lt (show lk.toNat≤4 by omega) (by decide)))
   obtain ⟨b0,_⟩:=HLB.out.c7
   clear ev ev1 hly i1 i2 j1 j2 hl hpp hxn hx hlk hr0 hc0 hr1 hc1 hr2 hc2 hr3 hc3 hU y0 y1 y2 y3 y4 y5
   go_wp2_with fail
   rw[←HU.out]
   clear k0 k1 k2 k3 k4 k5 k6
   go_wp2_with (first
    |(go_at_call 31;refine HCK.out.mono ?_;rintro e w7 ⟨sv,rfl,ho,hb⟩;have HOw7:=h_ ho;have HJw7:=h_ (show OwnY w7 W1.heap.size bv (stK n xs i)∧Below W1.heap.size W1 w7∧Below U.heap.size U w7 from ⟨HKU.out.1.u_ hb,bel_on HKU.out.2 hb,hb⟩);clear ho hb)
    |(at_builtin;refine app_bysW rfl _ _ rfl W1.heap.size bv sv (stK n xs i) (sev lk.toNat) rfl HJw7.out.1 rfl HOw7.out.isBys HOw7.out.nilOk ?h1w8 ?h2w8 ?_))
   case h1w8=>have h1:=HLE.out i;have h2:(sev lk.toNat).length≤9:=sevF_len 9 _;omega
   case h2w8=>exact HJw7.out.2.1.size
   intro vw8 w8 hown hgr has hsz
   have HKw8:=h_ (show OwnY w8 W1.heap.size vw8 (stK n xs i++wrNs (lyK (l,p) 0))∧Below W1.heap.size W1 w8 from ⟨by rw[lyK_zero,HLK.out];exact hown,hgr W1 HJw7.out.2.1 (Nat.le_refl _)⟩)
   have HL8:=h_ (show WBk w8 V.heap.size #[.int .i64 lk,.int .i64 r0,.int .i64 c0,.slice sa sn sk,.int .i64 r1,.int .i64 c1,.slice ta tn tk] 53 from (HLB.out.kept HJw7.out.2.2).asideY has HAP.out)
   have HB8:=h_ (b_ HB1.out HKw8.out.2)
   clear hown hgr has hsz b0
   obtain ⟨_,b1,b2,b3,b4,b5,b6⟩:=HL8.out.c7
   obtain ⟨_,x1,_⟩:=(HX1.out.kept HKw8.out.2).c3
   have y0:=c_ HB8.out HY.out.1
   have y1:=c_ HB8.out HY.out.2.1
   have y2:=c_ HB8.out HY.out.2.2.1
   have y3:=c_ HB8.out HY.out.2.2.2.1
   have y4:=c_ HB8.out HY.out.2.2.2.2.1
   have y5:=c_ HB8.out HY.out.2.2.2.2.2
   go_wp2
   go_region
   clear b1 b2 b3 b4 b5 b6 x1 y0 y1 y2 y3 y4 y5
   go_wp2
   go_loopw [3,52] (fun cv q wr=>∃(k:Nat) (xk:Int),k≤4∧xk=(k:Int)∧q=.int .i64 xk∧OwnY wr W1.heap.size cv (stK n xs i++wrNs (lyK (l,p) k))∧Below W1.heap.size W1 wr) (fun _ q _=>4 - (intOf q).toNat)
   case atStart=>exact ⟨0,0,Nat.zero_le _,rfl,rfl,HKw8.out.1,r_ HKw8.out.2⟩
   case round=>
    obtain ⟨k,xk,hk4,hxk,rfl,hown,hbw⟩:=hrel
    obtain ⟨V2,hV⟩:=gM (wr)
    subst hV
    obtain ⟨cv,hcv⟩:=gM (u3)
    subst hcv
    have HXK:=h_ hxk
    have HKV2:=h_ (And.intro hown hbw)
    have hxk0:0≤xk:=by omega
    have hxk1:xk≤4:=by omega
    clear hown hbw
    by_cases hl4:xk<4
    ·obtain ⟨m,ua,un,uk,hm1,hm2,hm3,hm4⟩:=HIN.out k (by omega)
     rw[←hxk]at hm4
     have HM1:=h_ hm1
     have HLEK:=h_ (lyK_le (x:=(l,p)) HFX.out k)
     have HME:=h_ (mxN_le hm2)
     obtain ⟨mr,hmr⟩:=gN (m.rows)
     obtain ⟨mc,hmc⟩:=gN (m.cols)
     obtain ⟨U2,hU2⟩:=gM (V2.alloc (.cells #[.int .i64 mr,.int .i64 mc,.slice ua un uk] 51))
     have HU2:=h_ hU2
     have HBU2:=h_ (show Below V2.heap.size V2 U2 by rw[hU2];exact o_ _ _)
     have HKU2:=h_ (show OwnY U2 W1.heap.size cv (stK n xs i++wrNs (lyK (l,p) k))∧Below W1.heap.size W1 U2 from ⟨HKV2.out.1.u_ HBU2.out,bel_on HKV2.out.2 HBU2.out⟩)
     have HMB:=h_ (show WBk U2 V2.heap.size #[.int .i64 mr,.int .i64 mc,.slice ua un uk] 51 by rw[hU2];exact WBk.new _ _ _)
     have HCM:=h_ (wwm_any (.agg #[.int .i64 m.rows,.int .i64 m.cols,.slice ua un uk]) m U2 ⟨_,rfl,hm3.u_ (b_ HB1.out HKU2.out.2)⟩ hm2)
     rw[hmr,hmc]at hm4 HCM
     obtain ⟨m0,m1,m2⟩:=HMB.out.c3
     clear hm1 hm2 hm3 hmr hmc hU2 hxk
     go_wp2_with fail
     rw[←HU2.out]
     go_wp2_with (first
      |(go_at_call 32;refine HCM.out.mono ?_;rintro e w9 ⟨sv,rfl,ho,hb⟩;have HOw9:=h_ ho;have HJw9:=h_ (show OwnY w9 W1.heap.size cv (stK n xs i++wrNs (lyK (l,p) k))∧Below W1.heap.size W1 w9∧Below U2.heap.size U2 w9 from ⟨HKU2.out.1.u_ hb,bel_on HKU2.out.2 hb,hb⟩);clear ho hb)
      |(at_builtin;refine app_bysW rfl _ _ rfl W1.heap.size cv sv (stK n xs i++wrNs (lyK (l,p) k)) (wrNs (mxN m)) rfl HJw9.out.1 rfl HOw9.out.isBys HOw9.out.nilOk ?h1wt ?h2wt ?_))
     case h1wt=>have h1:=HLE.out i;have h2:=HLEK.out;have h3:=HME.out;rw[List.length_append];omega
     case h2wt=>exact HJw9.out.2.1.size
     intro vwt wt hown hgr has hsz
     have HKwt:=h_ (show OwnY wt W1.heap.size vwt (stK n xs i++wrNs (lyK (l,p) (k+1)))∧Below W1.heap.size W1 wt from ⟨by rw[lyK_next HM1.out];first|exact hown|(rw[←List.append_assoc];exact hown),hgr W1 HJw9.out.2.1 (Nat.le_refl _)⟩)
     clear hown hgr has hsz m0 m1 m2 hm4
     go_wp2
     go_roundw
     case rel=>exact ⟨k+1,_,by have:=HXK.out;omega,by have:=HXK.out;omega,rfl,HKwt.out.1,HKwt.out.2⟩
     case measure=>have:=HXK.out;simp[intOf];omega
    ·have HKN:=h_ (show OwnY V2 W1.heap.size cv (stK n xs (i+1))∧Below W1.heap.size W1 V2 from ⟨by
      rw[stK_next HX.out,←lyK_all,show 4=k by have:=HXK.out;omega]
      exact HKV2.out.1,HKV2.out.2⟩)
     clear hxk
     go_wp2
     go_roundw
     case rel=>exact ⟨i+1,_,by omega,by have:=HXI.out;omega,rfl,HKN.out.1,HKN.out.2⟩
     case measure=>have:=HXI.out;simp[intOf];omega
  ·have HKB:=h_ (show OwnY V W1.heap.size bv (stB n xs)∧Below W1.heap.size W1 V from ⟨by
    rw[←stK_all n xs (i:=i) (by rw[HN.out];have:=HXI.out;omega)]
    exact HKV.out.1,HKV.out.2⟩)
   have HBL:=h_ (show (stB n xs).length≤70000 by rw[←stK_all n xs (i:=xs.length) (Nat.le_refl _)];exact HLE.out _)
   have HSU:=h_ (wsums_any bv (stB n xs) V HKB.out.1.isBys)
   go_wp2_with (first
    |(go_at_call 33;refine HSU.out.mono ?_;rintro e wq ⟨s0,s1,rfl,hs,p0,p1,p2,p3,hb5⟩;have HSQ:=h_ hs;have HB5:=h_ hb5;have HUT:=h_ (two_bys wq s0 s1 74 p0 p1 p2 p3);clear hs hb5)
    |(at_builtin;refine app_bys rfl _ _ rfl W1.heap.size bv (.slice (some ⟨wq.heap.size,0,none⟩) 2 2) (stB n xs) [s0,s1] rfl (HKB.out.1.u_ (bel_on HB5.out (o_ _ _))) rfl HUT.out (some_nilOk _ _ _) ?h1z ?h2z ?_))
   case h1z=>have:=HBL.out;simp;omega
   case h2z=>exact (bel_on (bel_on HKB.out.2 HB5.out) (o_ _ _)).size
   intro v' wz hown hgr
   have HR:=h_ (show OwnY wz W1.heap.size v' (savB n xs) by unfold savB;rw[HSQ.out];exact hown)
   have HBF:=h_ (b_ HB1.out (hgr W1 (bel_on (bel_on HKB.out.2 HB5.out) (o_ _ _)) (Nat.le_refl _)))
   clear hown hgr
   go_wp2
   exact bodyPost_ret (v:=v') (by simp[results,Tryd.results16,go_sem]) rfl ⟨v',rfl,HR.out.base HS1.out,HBF.out⟩
end Go.Proofs.YtaajlggpjholeajDoor
