/- The walk of the law TopHands: two stages by hand, whose messages go as bytes through boxes, learn what one part behind the other learns. -/
import Derived.Test.YtniloklglpchfakGreatPkHdT
import Derived.Test.YtniloklglpchfakGreatPkHdN
import Derived.Deep.DeepCutAuto
import Derived.Test.YtniloklglpchfakGreatPkTrC5
import Derived.Test.YtniloklglpchfakGreatPkTrFact
import Derived.Test.YtniloklglpchfakGreatHdW
import Derived.Test.YtniloklglpchfakGreatPkListApp
import Derived.Test.YtniloklglpchfakGreatPkHdB1
import Derived.Deep.CutBlock
import Derived.Deep.RegionHeld3
namespace Go.Proofs.YtniloklglpchfakGreat
open Go.RowKit
theorem hA_ge{Y B1 C1 B0 C0 n b:Nat}(h:(HBk.of Y B1 C1 B0 C0).A b)(h1:n≤Y)(h2:n≤B1)(h3:n≤C1)(h4:n≤B0)(h5:n≤C0):n≤b:=by
 unfold HBk.A HBk.of at h
 dsimp only at h
 omega
set_option maxHeartbeats 64000000 in
set_option maxRecDepth 100000 in
theorem hands_main(v v1 pv:Value)(ls:List Ly)(ps:List (Mx×Mx))(n:Int)(b:Mx×Mx)(at_:Int)(p0 p1:List (Int×Int))(parts le ke:Int)(sa:Option Addr)(sn sk:Nat)(ta:Option Addr)(tn tk:Nat)(w:World)(hv:Y_ w v ls)(hp:D_ w v1 ps)(hs:I_ w (.slice sa sn sk) b.1.cells)(ht:I_ w (.slice ta tn tk) b.2.cells)(hpv:IsPlan w pv [p0,p1])(ha0:-9223372036854775808≤at_)(ha1:at_≤9223372036854775807)
  (hE:oneE ls ps n b parts le ke=0) (hl2:2≤ls.length) (hpl:planE [p0,p1] parts=0) (hev:evenB [p0,p1]=true):
  Calls Tryz.prog 3 #[.agg #[v,v1,.int .i64 n],.agg #[.int .i64 b.1.rows,.int .i64 b.1.cols,.slice sa sn sk,.int .i64 b.2.rows,.int .i64 b.2.cols,.slice ta tn tk],.int .i64 at_,pv,.int .i64 parts,.agg #[.int .i64 le,.int .i64 ke]] w fun e w'=>e=.returned (.bool true)∧Below w.heap.size w w':=by
 -- what is given,in letters
 obtain ⟨hst,hbad,hsp,hprt⟩:=one_parts hE
 obtain ⟨hN12,hpsl,hn0,hn1,hstt⟩:=state_good hst
 have hpar:1≤parts∧parts≤12:=by
  obtain ⟨q,_,_⟩:=planE_in hpl
  unfold rangeP at q
  omega
 obtain ⟨P,hP⟩:∃P:Nat,parts=(P:Int):=⟨parts.toNat,by omega⟩
 have hP1:1≤P:=by omega
 have hP12:P≤12:=by omega
 subst hP
 have HHP:=h_ (hand_of hpl hev)
 obtain ⟨va,vk,rfl,hlc,hcm⟩:=hv.shape
 obtain ⟨xa,xk,rfl,hxc,hxm⟩:=hp.shape
 obtain ⟨pa,pk,rfl⟩:∃a k,pv=.slice a 2 k:=by obtain ⟨a,k,h,_⟩:=hpv;exact ⟨a,k,h⟩
 obtain ⟨br,hbr⟩:=gN (b.1.rows)
 obtain ⟨bc,hbc⟩:=gN (b.1.cols)
 obtain ⟨dr,hdr⟩:=gN (b.2.rows)
 obtain ⟨dc,hdc⟩:=gN (b.2.cols)
 obtain ⟨N,hN⟩:=gN (ls.length)
 rw[hN]at hv hpsl hl2 hN12 hlc ⊢
 rw[hpsl]at hp hxc ⊢
 have HNN:=h_ hN
 have HBOX:=h_ (boxes_new w (.slice va N vk) (.slice xa N xk) n br bc dr dc (.slice sa sn sk) (.slice ta tn tk) le ke)
 obtain ⟨V,hV⟩:=gM (((w.alloc (.cells #[.slice va N vk,.slice xa N xk,.int .i64 n] 25)).alloc (.cells #[.int .i64 br,.int .i64 bc,.slice sa sn sk,.int .i64 dr,.int .i64 dc,.slice ta tn tk] 30)).alloc (.cells #[.int .i64 le,.int .i64 ke] 33))
 rw[←hV]at HBOX
 have HWV:=h_ (show Below w.heap.size w V by rw[hV];exact bel_on (bel_on (o_ _ _) (o_ _ _)) (o_ _ _))
 have HVV:=h_ hV
 have HLS:=h_ hv
 have HPS:=h_ hp
 have HS:=h_ hs
 have HT:=h_ ht
 have HP:=h_ hpv
 have HON:=h_ (topone_any V)
 have HE:=h_ hE
 have HPL:=h_ (And.intro hpl hev)
 have HSP:=h_ (And.intro hsp hprt)
 have HONE:=h_ (fun (U:World) (hb:Below w.heap.size w U)=>trone_any (.slice va N vk) (.slice xa N xk) ls ps n b (P:Int) le ke sa sn sk ta tn tk U (HLS.out.u_ hb) (HPS.out.u_ hb) (HS.out.u_ hb) (HT.out.u_ hb))
 obtain ⟨St,hSt⟩:=gN (stepS ⟨ls,ps,n⟩ b (P:Int) le ke)
 obtain ⟨KK,hKK⟩:=gN (stepK ⟨ls,ps,n⟩ b (P:Int) le ke)
 obtain ⟨SN,hSN⟩:=gN (St.net.length)
 obtain ⟨SV,hSV⟩:=gN (St.spd.length)
 obtain ⟨SI,hSI⟩:=gN (St.n)
 rw[hE,e_ rfl,hbr,hbc,hdr,hdc,hSt,hKK,hSN,hSV,hSI]at HONE
 have HST:=h_ (And.intro hSt hKK)
 have HSNV:=h_ (And.intro hSN (And.intro hSV hSI))
 have HEV:=h_ (fun (U:World) (hb:Below w.heap.size w U)=>peven_any (.slice pa 2 pk) [p0,p1] (P:Int) U (HP.out.u_ hb))
 rw[show evenX [p0,p1] (P:Int)=true by unfold evenX;rw[if_pos hpl];exact hev,hpl,e_ rfl]at HEV
 have HSPL:=h_ (fun (U:World) (hb:Below w.heap.size w U)=>bsplit_any b (P:Int) sa sn sk ta tn tk U (HS.out.u_ hb) (HT.out.u_ hb))
 obtain ⟨L,hL⟩:=gN (splX b (P:Int))
 have hLl:L.length=P:=by rw[←hL];unfold splX;rw[if_pos hsp];simp
 rw[hsp,e_ rfl,hbr,hbc,hdr,hdc,hL]at HSPL
 have HLL:=h_ hLl
 have HL:=h_ hL
 have HATB:=h_ (And.intro ha0 ha1)
 have HVK:=h_ (show N≤vk from hlc)
 have HZB:=h_ (show ∀l∈ls,l.w.cells.length≤17592186043904∧l.b.cells.length≤17592186043904 from fun l hl=>by
  obtain ⟨f1,f2⟩:=stt_good (by rw[hpsl];exact HNN.out.symm) hstt l hl
  obtain ⟨⟨a1,a2,a3,a4⟩,a5,_⟩:=fault_zero f1
  obtain ⟨⟨b1,b2,b3,b4⟩,b5,_⟩:=fault_zero f2
  have:=rc_bd l.w.rows l.w.cols ⟨a1,a2,a3,a4⟩
  have:=rc_bd l.b.rows l.b.cols ⟨b1,b2,b3,b4⟩
  omega)
 have HZG:=h_ (show ∀l∈ls,q_ l.w=0∧q_ l.b=0 from stt_good (by rw[hpsl];exact HNN.out.symm) hstt)
 have HSG:=h_ (And.intro hbad (And.intro hpsl (And.intro hstt (And.intro hn0 hn1))))
 have HZL:=h_ (show (zeroD ls).length=N by unfold zeroD;rw[List.length_map];exact HNN.out)
 rw[hbr,hbc,hdr,hdc]
 clear hstt hL hLl hSt hKK hSN hSV hSI hv hp hs ht hpv hV hE hst hbad hsp hprt hpl hev hbr hbc hdr hdc hlc hcm hxc hxm hpsl hN
 go_enter Tryz.func3,Tryz.ntmps3
 go_wp2_with (first
  |(go_at_call 4;rw[←HVV.out];refine HON.out.mono ?_;rintro e u1 ⟨rfl,hb1⟩;have HB1:=h_ hb1;obtain ⟨⟨k0,k1,k2⟩,_⟩:=(HBOX.out.u_ hb1).cells;clear hb1)
  |(go_at_call 5;refine (hstate_any _ _ _ _ _ _ _ _).mono ?_;rintro e u2 ⟨rfl,hb2⟩;have HB2:=h_ (bel_on HB1.out hb2);have HB3:=h_ (bel_on HB2.out (o_ u2 (.cells #[.slice va N vk,.slice xa N xk,.int .i64 n] 35)));obtain ⟨_,⟨l0,l1,l2,l3,l4,l5⟩,l6,l7⟩:=(HBOX.out.u_ HB3.out).cells;clear hb2)
  |(go_at_call 6;refine (HONE.out _ (bel_on HWV.out HB3.out)).mono ?_;rintro e u3 ⟨hb3,wu,wt,rfl,hwu,hwt⟩;obtain ⟨wua,wuk,hwue,_,_⟩:=hwu.reads;obtain ⟨wta,wtk,hwte,_,_⟩:=hwt.reads;subst hwue hwte;have HWU:=h_ hwu;have HWT:=h_ hwt;have HB4:=h_ (bel_on HB3.out hb3);have HB5:=h_ (bel_on HB4.out (o_ u3 (.cells #[.slice wua SN wuk,.slice wta SV wtk,.int .i64 SI] 35)));have HWB:=h_ (WBk.new u3 #[.slice wua SN wuk,.slice wta SV wtk,.int .i64 SI] 35);obtain ⟨⟨m0,m1,m2⟩,_⟩:=(HBOX.out.u_ HB5.out).cells;clear hb3 hwu hwt)
  |(go_at_call 7;refine (HEV.out _ (bel_on HWV.out HB5.out)).mono ?_;rintro e u4 ⟨rfl,hb4⟩;have HB6:=h_ (bel_on HB5.out hb4);have HW4:=h_ (HWB.out.kept hb4);have HU34:=h_ (bel_on (o_ u3 (.cells #[.slice wua SN wuk,.slice wta SV wtk,.int .i64 SI] 35)) hb4);obtain ⟨_,⟨i0,i1,i2,i3,i4,i5⟩,_⟩:=(HBOX.out.u_ HB6.out).cells;clear hb4)
  |(go_at_call 8;refine (HSPL.out _ (bel_on HWV.out HB6.out)).mono ?_;rintro e u5 ⟨lv,rfl,hlv,hb5⟩;obtain ⟨la,lk,hle,_⟩:=id hlv;rw[HLL.out]at hle;subst hle;have HB7:=h_ (bel_on HB6.out hb5);have HW5:=h_ (HW4.out.kept hb5);have HU35:=h_ (bel_on HU34.out hb5);have HLV:=h_ hlv;obtain ⟨⟨j0,j1,j2⟩,_⟩:=(HBOX.out.u_ HB7.out).cells;clear hb5 hlv)
  |(go_at_call 9;refine (pick_any at_ ((N:Int) - 1) u5 HATB.out.1 HATB.out.2 (by omega) (by omega)).mono ?_;rintro e u9 ⟨k,rfl,hk,hu9⟩;rw[hu9];clear hu9 u9;obtain ⟨K,hK⟩:∃K:Nat,1+(k:Int)=(K:Int):=⟨1+k,by omega⟩;have hwK:IntKind.i64.wrap (1+(k:Int))=(K:Int):=by rw[hK,IntKind.wrap_i64];omega)
  |(go_at_call 10;refine (hbnew u5).mono ?_;rintro e u6 ⟨B1,C1,Q1,rfl,hx1,hq1,hb6⟩;have HX1:=h_ (And.intro hx1 hq1);have HB8:=h_ hb6;clear hx1 hq1 hb6)
  |(go_at_call 10;refine (hbnew u6).mono ?_;rintro e u7 ⟨B0,C0,Q0,rfl,hx0,hq0,hb7⟩;have HX0:=h_ (And.intro hx0 hq0);have HB9:=h_ hb7;have HB10:=h_ (bel_on HB7.out (bel_on HB8.out hb7));obtain ⟨⟨g0,g1,g2⟩,_⟩:=(HBOX.out.u_ HB10.out).cells;clear hx0 hq0 hb7))
 have hKN:K≤N:=by omega
 have hK1:1≤K:=by omega
 have hKN1:K+1≤N:=by omega
 obtain ⟨na,nc,ma,mc,hs1,hs2,hcut⟩:=lys_cut (a:=va) (cap:=vk) hKN HNN.out HVK.out
 have HCUT:=h_ hcut
 clear hcut hk hK hwK
 refine region_tail 8 (by kernel_rfl) (by kernel_rfl) ?_
 simp only[List.take,List.drop]
 repeat still_step
 refine wpStill_nil ?_
 obtain ⟨U7,hU7⟩:=gM (u7.drew)
 have HU7:=h_ (show Below u7.heap.size u7 U7 by rw[hU7];exact (Below.refl _ _).drew)
 have HU7S:=h_ (show U7.heap.size=u7.heap.size by rw[hU7];rfl)
 rw[←hU7]
 clear hU7
 have HB11:=h_ (bel_on HB10.out (bel_on HU7.out (o_ U7 (.cells #[.slice na K nc,.slice ma (N - K) mc] 22))))
 have HZE:=h_ (netzero_owns (.slice va N vk) ls (U7.alloc (.cells #[.slice na K nc,.slice ma (N - K) mc] 22)) (HLS.out.u_ (bel_on HWV.out HB11.out)) (by rw[HNN.out];omega) HZB.out)
 obtain ⟨⟨e0,e1,e2⟩,_⟩:=(HBOX.out.u_ HB11.out).cells
 go_wp2_with (go_at_call 11;refine HZE.out.mono ?_;rintro e u8 ⟨zv,rfl,hz,hb8⟩;obtain ⟨za,zk,hze,hzk,_⟩:=hz.reads;rw[HZL.out]at hze;subst hze;have HZ:=h_ hz;have HB12:=h_ hb8;clear hb8 hz)
 obtain ⟨ga,gc,ha,hc,hs3,hs4,hcut2⟩:=gds_cut (a:=za) (cap:=zk) (ds:=zeroD ls) hKN HZL.out (by rw[←HZL.out];exact hzk)
 have HCUT2:=h_ hcut2
 clear hcut2 hs1 hs2
 refine region_tail 6 (by kernel_rfl) (by kernel_rfl) ?_
 simp only[List.take,List.drop]
 repeat still_step
 refine wpStill_nil ?_
 obtain ⟨U8,hU8⟩:=gM (u8.drew)
 have HU8:=h_ (show Below u8.heap.size u8 U8 by rw[hU8];exact (Below.refl _ _).drew)
 have HU8S:=h_ (show U8.heap.size=u8.heap.size by rw[hU8];rfl)
 rw[←hU8]
 clear hU8 hs3 hs4
 have hmk1:=fun W=>(hands_mk P hP12 W).1
 have hmk2:=fun W=>(hands_mk P hP12 W).2.1
 have hmk3:=fun W=>(hands_mk P hP12 W).2.2
 go_upto_block 0 with fail
 rename_i KC hKC
 have HKC:=h_ hKC
 clear hKC
 clear hmk1 hmk2 hmk3
 obtain ⟨A,hAe⟩:=gN (ls.take K)
 obtain ⟨B,hBe⟩:=gN (ls.drop K)
 have HAB:=h_ (show A++B=ls∧A.length=K∧B.length=N - K by rw[←hAe,←hBe];exact ⟨List.take_append_drop _ _,by rw[List.length_take,HNN.out];omega,by rw[List.length_drop,HNN.out]⟩)
 obtain ⟨D,hD⟩:∃x:HD,x=⟨A,B,L,p0,p1,P⟩:=⟨_,rfl⟩
 have HSTA:=h_ (show HInv D (HBk.of U8.heap.size B1 C1 B0 C0) (handW U8 (.slice ga K gc) (.slice ha (N - K) hc) P) (handW U8 (.slice ga K gc) (.slice ha (N - K) hc) P) 0 0 [] [] (fun _=>false) (fun _=>false)∧Hold (HBk.of U8.heap.size B1 C1 B0 C0).A (handW U8 (.slice ga K gc) (.slice ha (N - K) hc) P) (HFix D (HBk.of U8.heap.size B1 C1 B0 C0) (.slice pa 2 pk) (.slice la P lk) (.slice na K nc) (.slice ma (N - K) mc) U7.heap.size) by
  subst hD
  have hz:=(HZ.out.hold).u_ HU8.out
  have hbase:u7.heap.size≤(U7.alloc (.cells #[.slice na K nc,.slice ma (N - K) mc] 22)).heap.size:=by rw[World.size_alloc];have:=HU7.out.size;omega
  have hz':Hold (fun b=>b<u7.heap.size) U8 (fun W=>D_ W (.slice za N zk) (zeroD ls)):=(hz.mono (fun b _ q=>Nat.lt_of_lt_of_le q hbase)).imp (fun W q=>by unfold D_;rw[HZL.out];rw[HZL.out]at q;exact q)
  have h58:Below u5.heap.size u5 U8:=bel_on HB8.out (bel_on HB9.out (bel_on HU7.out (bel_on (o_ _ _) (bel_on HB12.out HU8.out))))
  have hlys:=HCUT.out u5 (HLS.out.u_ (bel_on HWV.out HB7.out))
  rw[hAe,hBe]at hlys
  refine hands_start HX1.out.1 HX1.out.2 HX0.out.1 HX0.out.2 HB9.out (bel_on HU7.out (bel_on (o_ _ _) (bel_on HB12.out HU8.out))) h58 (HP.out.u_ (bel_on HWV.out HB7.out)) HLV.out hlys.1 hlys.2 (t:=22) ?_ (by rw[HU7S.out];exact Nat.le_refl _) ?_ ?_
  ·exact ((WBk.new U7 _ _).kept HB12.out).kept HU8.out
  ·refine hz'.imp (fun W q=>?_)
   have:=(HCUT2.out W q).1
   rw[show (zeroD ls).take K=zeroD A by rw[←hAe];unfold zeroD;rw[List.map_take]]at this
   exact this
  ·refine hz'.imp (fun W q=>?_)
   have:=(HCUT2.out W q).2
   rw[show (zeroD ls).drop K=zeroD B by rw[←hBe];unfold zeroD;rw[List.map_drop]]at this
   exact this)
 have hW0e:handW U8 (.slice ga K gc) (.slice ha (N - K) hc) P=handW U8 (.slice ga K gc) (.slice ha (N - K) hc) P:=rfl
 conv at hW0e=>lhs;unfold handW
 rw[hW0e]
 clear hW0e
 have HBW:=h_ (show Below w.heap.size w (handW U8 (.slice ga K gc) (.slice ha (N - K) hc) P) from bel_on HWV.out (bel_on HB10.out (bel_on HU7.out (bel_on (o_ _ _) (bel_on HB12.out (bel_on HU8.out (hand_bel _ _ _ _)))))))
 obtain ⟨Y,hY⟩:=gN (U8.heap.size)
 obtain ⟨Z,hZ⟩:=gN (U7.heap.size)
 obtain ⟨W0,hW0⟩:=gN (handW U8 (.slice ga K gc) (.slice ha (N - K) hc) P)
 rw[hY,hZ,hW0]at HSTA
 rw[hW0]at HBW
 rw[hY,hZ,hW0]
 have HGE:=h_ (show u5.heap.size≤Y∧u5.heap.size≤B1∧u5.heap.size≤C1∧u5.heap.size≤B0∧u5.heap.size≤C0 from by
  have q1:=HX1.out.2 B1 HX1.out.1.pB
  have q2:=HX1.out.2 C1 HX1.out.1.pC
  have q3:=HX0.out.2 B0 HX0.out.1.pB
  have q4:=HX0.out.2 C0 HX0.out.1.pC
  have e1:=HB8.out.size
  have e2:=HB9.out.size
  have e3:=HU7.out.size
  have e4:=HB12.out.size
  have e5:=HU8.out.size
  rw[World.size_alloc]at e4
  omega)
 have HVW:=h_ (show Below V.heap.size V W0 from by
  rw[←hW0]
  exact bel_on HB10.out (bel_on HU7.out (bel_on (o_ _ _) (bel_on HB12.out (bel_on HU8.out (hand_bel _ _ _ _))))))
 have H5W:=h_ (show Below u5.heap.size u5 W0 from by
  rw[←hW0]
  exact bel_on HB8.out (bel_on HB9.out (bel_on HU7.out (bel_on (o_ _ _) (bel_on HB12.out (bel_on HU8.out (hand_bel _ _ _ _)))))))
 have HGV:=h_ (show HGiv D P K (N - K) from by
  subst hD
  refine ⟨HHP.out,rfl,HLL.out,HAB.out.2.1,HAB.out.2.2,hK1,by omega,by omega,by omega,hP12,fun m hm=>?_,?_,?_⟩
  ·have hlt:m<L.length:=by rw[HLL.out];exact hm
   have hx:HD.at ⟨A,B,L,p0,p1,P⟩ m=L[m]:=by unfold HD.at;dsimp only;rw[List.getElem?_eq_getElem hlt];rfl
   rw[hx]
   obtain ⟨q1,q2,q3⟩:=HSP.out.2 L[m] (by rw[HL.out];exact List.getElem_mem _)
   rw[←HAB.out.1]at q1 q2 q3
   exact part_of (fun e=>by have e:A=[]:=e;have:=HAB.out.2.1;rw[e]at this;simp at this;omega) (fun e=>by have e:B=[]:=e;have:=HAB.out.2.2;rw[e]at this;simp at this;omega) q1 q2 q3
  ·exact zero_fits A (fun l hl=>HZG.out l (by rw[←HAB.out.1];simp[hl]))
  ·exact zero_fits B (fun l hl=>HZG.out l (by rw[←HAB.out.1];simp[hl])))
 have HDD:=h_ (show D.a=A∧D.b=B∧D.L=L by subst hD;exact ⟨rfl,rfl,rfl⟩)
 have HBJ:=h_ (show by0 D.a D.b D.L++by1 D.a D.b D.L=byAt ls L from by
  rw[←HAB.out.1,←HDD.out.1,←HDD.out.2.1,←HDD.out.2.2]
  refine (by_join HGV.out.z0 HGV.out.z1 (fun d hd=>HGV.out.mem (n:=D.L.length) (by rw[List.take_length];exact hd))).symm)
 have HSE:=h_ (show stE ls ps (byAt ls L) le ke=0 from by
  have hbf:Fits ls (byAt ls L):=by_fits (zero_fits ls HZG.out) L (fun e he=>prt_fits (HSP.out.2 e (by rw[HL.out];exact he)).2.2)
  unfold stE
  rw[if_neg (by simp[HSG.out.1]),if_neg (by rw[HNN.out];omega),if_neg (by simp[HSG.out.2.1,HNN.out,hbf.len])]
  exact stp_of (by rw[HSG.out.2.1,HNN.out]) HSG.out.2.2.1 hbf)
 have HSX:=h_ (show stepS ⟨ls,ps,n⟩ b (P:Int) le ke=⟨stpL le ke ls ps (byAt ls L),stpG ke ls ps (byAt ls L),n+1⟩∧stepK ⟨ls,ps,n⟩ b (P:Int) le ke=sumAt (D.a++D.b) D.L from by
  have he:nextE ⟨ls,ps,n⟩ b (P:Int) le ke=0:=HE.out
  constructor
  ·unfold stepS
   rw[if_pos he]
   unfold nextS oneN oneV
   rw[HL.out]
  ·unfold stepK
   rw[if_pos he]
   unfold nextK
   rw[HL.out,HDD.out.1,HDD.out.2.1,HDD.out.2.2,HAB.out.1])
 obtain rfl:KK=sumAt (D.a++D.b) D.L:=HST.out.2.symm.trans HSX.out.2
 obtain rfl:St=⟨stpL le ke ls ps (byAt ls L),stpG ke ls ps (byAt ls L),n+1⟩:=HST.out.1.symm.trans HSX.out.1
 obtain rfl:SI=n+1:=HSNV.out.2.2.symm
 have HRL:=h_ (show ∀(wx:World) (r1 r0:List Nat) (n1 n0:Nat→Bool),HInv D (HBk.of Y B1 C1 B0 C0) W0 wx (2*P) (2*P) r1 r0 n1 n0→∀k,k<u5.heap.size→wx.heap[k]?=W0.heap[k]? from fun wx r1 r0 n1 n0 hv k hk=>hv.1.kp.block k (Nat.lt_of_lt_of_le hk H5W.out.size) (fun q=>by
  have:=hA_ge q HGE.out.1 HGE.out.2.1 HGE.out.2.2.1 HGE.out.2.2.2.1 HGE.out.2.2.2.2
  omega))
 have HAG:=h_ (show ∀b,(HBk.of Y B1 C1 B0 C0).A b→u5.heap.size≤b from fun b q=>hA_ge q HGE.out.1 HGE.out.2.1 HGE.out.2.2.1 HGE.out.2.2.2.1 HGE.out.2.2.2.2)
 clear hY hZ hW0 hD hAe hBe
 refine hloop pa na ma la pk P lk K (N - K) B1 C1 B0 C0 Y Z nc mc W0 _ D HSTA.out.1 HSTA.out.2 HGV.out ?_
 intro _ _ _ _ _ _ _ _ _ _ _ _ _ _ _ _ _ _ _ _ _ _ _ _ _ _ _ _ _ _ _ _ _ _ _ _ _ _ _ _ _ _ _ _ _ _ _ _ _ _ _ _ _ _ _ _ _ _ _ _ _ _ _ _ _ _ _ _ _ _ _ _ _ _ _ _ _ _ _ _ _ _ _ _ _ _ _ _ _ _ _ _ _ _ _ _ _ _ _ _ _ _ _ _ _ _ _ _ _ _ _ _ _ _ _ _ _ _ _ _ _ _ _ _ _ _ _ _ _ _ _ _ _ _ _ _ _ _ _ _ _ _ _ _ _ _ _ _ _ _ _ _ _ _ _ _ _ _ _ _ _ _ _ _ _ _ _ _ _ _ _ _ _ _ _ _ _ _ _ _ _ _ _ _ _ _ _ _ _ _ _ _ _ _ _ _ _ _ _ _ _ _ _ _ _ _ _ _ _ _ _ _ _ _ _ _ _ _ _ _ _ _ _ _ _ _ _ _ _ _ _ _ _ _ _ _ _ _ _ _ _ _ _ wx r1 r0 n1 n0 hv
 have h5:=HB7.out.size
 have hbx:=HBOX.out.u_ HVW.out
 have h3:=HU35.out.size
 have hw3:=HW5.out.lt
 have hwv:=HWV.out.size
 have hv1:=HBOX.out.2.2.lt
 refine (show KC _ wx from HKC.out _ _ ?_)
 refine behind va xa wua wta P K (N - K) B1 C1 B0 C0 Y w.heap.size (w.heap.size+1+1) u3.heap.size N vk N xk SN wuk SV wtk n le ke _ wx _ D W0 r1 r0 n1 n0 ls (stpL le ke ls ps (byAt ls L)) ps (stpG ke ls ps (byAt ls L)) hv HGV.out ?_ ?_ ?_ ?_ ?_ ?_ ?_ HSG.out.2.2.2 ?_ ?_ ?_ ?_
 ·exact (HRL.out _ _ _ _ _ hv _ (by omega)).trans hbx.1
 ·exact (HRL.out _ _ _ _ _ hv _ (by omega)).trans hbx.2.2
 ·exact (HRL.out _ _ _ _ _ hv _ hw3).trans (HW5.out.kept H5W.out)
 ·have h:=Hold.kept (Reads.hold (HLS.out.u_ (bel_on HWV.out HB7.out)) H5W.out HAG.out) hv.1.kp (fun b q=>q)
  exact h.now
 ·have h:=Hold.kept (Reads.hold (HPS.out.u_ (bel_on HWV.out HB7.out)) H5W.out HAG.out) hv.1.kp (fun b q=>q)
  exact h.now
 ·have h:=Hold.kept (Reads.hold (Reads.u_ HWU.out.reads HU35.out) H5W.out HAG.out) hv.1.kp (fun b q=>q)
  have h:=h.now
  show Reads _ _ (stpL le ke ls ps (byAt ls L)).length _
  rw[show (stpL le ke ls ps (byAt ls L)).length=SN from HSNV.out.1]
  exact h
 ·have h:=Hold.kept (Reads.hold (Reads.u_ HWT.out.reads HU35.out) H5W.out HAG.out) hv.1.kp (fun b q=>q)
  have h:=h.now
  show Reads _ _ (stpG ke ls ps (byAt ls L)).length _
  rw[show (stpG ke ls ps (byAt ls L)).length=SV from HSNV.out.2.1]
  exact h
 ·rw[HBJ.out];exact HSE.out
 ·rw[HBJ.out];unfold doL;rw[if_pos HSE.out]
 ·rw[HBJ.out];unfold doG;rw[if_pos HSE.out]
 ·intro _ _ _ _ _ _ _ _ _ _ _ _ _ _ _ _ _ _ _ _ _ _ _ _ _ _ _ _ _ _ _ _ _ _ _ _ _ _ _ _ _ _ _ _ _ _ _ _ _ _ _ _ _ _ wy hb
  have hbw:Below w.heap.size w wy:=Below.trans (Kept.u_ HBW.out hv.1.kp HBW.out.size (fun k q=>Nat.le_trans (Nat.le_trans hwv h5) (HAG.out k q))) (hb.mono (Nat.le_trans HBW.out.size hv.1.kp.size))
  go_ret
  exact ⟨rfl,hbw⟩
theorem hands_walk(v v1:Value)(ls:List Ly)(ps:List (Mx×Mx))(n:Int)(vb:Value)(b:Mx×Mx)(at_:Int)(pv:Value)(pl:List (List (Int×Int)))(parts le ke:Int)(w:World)(hv:Y_ w v ls)(hp:D_ w v1 ps)(hb:IsTwo w vb b.1 b.2)(ha0:-9223372036854775808≤at_)(ha1:at_≤9223372036854775807)(hpv:IsPlan w pv pl):
  Calls Tryz.prog 3 #[.agg #[v,v1,.int .i64 n],vb,.int .i64 at_,pv,.int .i64 parts,.agg #[.int .i64 le,.int .i64 ke]] w fun e w'=>e=.returned (.bool true)∧Below w.heap.size w w':=by
 obtain ⟨s,t,rfl,hs,ht⟩:=hb
 obtain ⟨sa,sn,sk,rfl⟩:=hs.shape
 obtain ⟨ta,tn,tk,rfl⟩:=ht.shape
 by_cases h:oneE ls ps n b parts le ke=0∧2≤ls.length∧pl.length=2∧planE pl parts=0∧evenB pl=true
 ·obtain ⟨h1,h2,h3,h4,h5⟩:=h
  obtain ⟨p0,p1,rfl⟩:∃p0 p1,pl=[p0,p1]:=by
   match pl,h3 with
   |[p0,p1],_=>exact ⟨p0,p1,rfl⟩
  exact hands_main v v1 pv ls ps n b at_ p0 p1 parts le ke sa sn sk ta tn tk w hv hp hs ht hpv ha0 ha1 h1 h2 h4 h5
 ·exact hands_early v v1 pv ls ps n b at_ pl parts le ke sa sn sk ta tn tk w hv hp hs ht hpv h
end Go.Proofs.YtniloklglpchfakGreat
