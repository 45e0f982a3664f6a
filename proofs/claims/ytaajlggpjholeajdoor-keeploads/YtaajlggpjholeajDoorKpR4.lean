/- What LoadOf of the document's answer comes to. -/
import Derived.Test.YtaajlggpjholeajDoorKpD2
import Derived.Test.YtaajlggpjholeajDoorRState
namespace Go.Proofs.YtaajlggpjholeajDoor
open Go.RowKit
set_option maxHeartbeats 64000000 in
set_option maxRecDepth 100000 in
theorem rloadof_any(v:Value)(l:List Int)(w:World)(hv:IsBys w v l):Calls Tryd.prog 12 #[v] w (fun e w'=>LoEnd w w' l e):=by
 obtain ⟨va,vk,hva⟩:=hv.shape
 obtain ⟨vn,hvn⟩:=gN (l.length)
 rw[hvn]at hva
 subst hva
 have HVN:=h_ hvn
 have HV:=h_ hv
 obtain ⟨W1,hW1⟩:=gM (((w.alloc (.cells #[.slice none 0 0,.slice none 0 0,.int .i64 0] 25)).alloc (.cells #[.slice none 0 0,.slice none 0 0,.int .i64 0] 25)).alloc (.cells #[.slice none 0 0,.slice none 0 0,.int .i64 0] 25))
 have HW1:=h_ hW1
 have HS1:=h_ (show W1.heap.size=w.heap.size+3 by rw[hW1,World.size_alloc,World.size_alloc,World.size_alloc])
 have HB1:=h_ (show Below w.heap.size w W1 by rw[hW1];exact bel_on (bel_on (o_ _ _) (o_ _ _)) (o_ _ _))
 have HR1:=h_ (show WBk W1 w.heap.size #[.slice none 0 0,.slice none 0 0,.int .i64 0] 25 by rw[hW1];exact ((WBk.new _ _ _).kept (o_ _ _)).kept (o_ _ _))
 have HSB1:=h_ (show WBk W1 (w.heap.size+1) #[.slice none 0 0,.slice none 0 0,.int .i64 0] 25 by rw[hW1,show w.heap.size+1=(w.alloc (.cells #[.slice none 0 0,.slice none 0 0,.int .i64 0] 25)).heap.size by rw[World.size_alloc]];exact (WBk.new _ _ _).kept (o_ _ _))
 have HZ1:=h_ (show WBk W1 (w.heap.size+2) #[.slice none 0 0,.slice none 0 0,.int .i64 0] 25 by rw[hW1,show w.heap.size+2=((w.alloc (.cells #[.slice none 0 0,.slice none 0 0,.int .i64 0] 25)).alloc (.cells #[.slice none 0 0,.slice none 0 0,.int .i64 0] 25)).heap.size by rw[World.size_alloc,World.size_alloc]];exact WBk.new _ _ _)
 have hvb:=hv_bytes hv
 clear hv hW1 hvn
 by_cases hfar:vn<6∨100000<vn
 ·have HNO:=h_ (show rdD l=none from rdD_far (by rw[HVN.out];exact hfar))
  by_cases c1:vn<6
  ·have c1':(vn:Int)<6:=by omega
   clear hfar
   go_enter Tryd.func12,Tryd.ntmps12
   obtain ⟨zz0,zz1,zz2⟩:=HZ1.out.q3
   obtain ⟨yy0,yy1,yy2⟩:=HR1.out.q3
   obtain ⟨ff0,ff1,ff2⟩:=HR1.out.f3
   have HBN:=h_ HB1.out
   rw[HW1.out]at zz0 zz1 zz2 yy0 yy1 yy2 ff0 ff1 ff2 HBN
   go_wp2
   exact bodyPost_ret (v:=.tuple #[.agg #[.slice none 0 0,.slice none 0 0,.int .i64 0],.bool false]) (by simp[results,Tryd.results12,go_sem,yy0,yy1,yy2]) rfl (LoEnd.mk_no HBN.out HNO.out)
  ·have c1':¬(vn:Int)<6:=by omega
   have c2':(100000:Int)<(vn:Int):=by have:=hfar.resolve_left c1;omega
   clear hfar
   go_enter Tryd.func12,Tryd.ntmps12
   obtain ⟨zz0,zz1,zz2⟩:=HZ1.out.q3
   obtain ⟨yy0,yy1,yy2⟩:=HR1.out.q3
   obtain ⟨ff0,ff1,ff2⟩:=HR1.out.f3
   have HBN:=h_ HB1.out
   rw[HW1.out]at zz0 zz1 zz2 yy0 yy1 yy2 ff0 ff1 ff2 HBN
   go_wp2
   exact bodyPost_ret (v:=.tuple #[.agg #[.slice none 0 0,.slice none 0 0,.int .i64 0],.bool false]) (by simp[results,Tryd.results12,go_sem,yy0,yy1,yy2]) rfl (LoEnd.mk_no HBN.out HNO.out)
 have c1':¬(vn:Int)<6:=by omega
 have c2':¬(100000:Int)<(vn:Int):=by omega
 have hn6:6≤vn:=by omega
 have hn100:vn≤100000:=by omega
 have HFAR:=h_ (show ¬(l.length<6∨100000<l.length) by rw[HVN.out];exact hfar)
 obtain ⟨b0,hb0⟩:∃x,l[0]?=some x:=⟨_,List.getElem?_eq_getElem (by rw[HVN.out];omega)⟩
 obtain ⟨b1,hb1⟩:∃x,l[1]?=some x:=⟨_,List.getElem?_eq_getElem (by rw[HVN.out];omega)⟩
 obtain ⟨_,_,eV,jA,jB,jC,hcs⟩:=(HV.out.u_ HB1.out)
 obtain ⟨eV1,eV2,eV3⟩:=Value.slice.inj eV
 subst eV1 eV3
 obtain ⟨vb,vo,hve,hcc⟩:=hcs.resolve_left (fun e=>by rw[e]at hb0;simp at hb0)
 subst hve
 have u0:W1.cell? ⟨vb,vo,none⟩=some (.int .u8 b0):=hcc 0 b0 hb0
 have u1:W1.cell? ⟨vb,vo+1,none⟩=some (.int .u8 b1):=hcc 1 b1 hb1
 rw[HW1.out]at u0 u1
 have k0:(0:Int)<(vn:Int):=by omega
 have k1:(1:Int)<(vn:Int):=by omega
 have k2:0<vn:=by omega
 have k3:1<vn:=by omega
 have HBB:=h_ (And.intro hb0 hb1)
 clear hcs hcc eV eV2 hb0 hb1 hfar jA jB jC
 by_cases e0:b0=71
 case neg=>
  have HNO:=h_ (show rdD l=none from rdD_noS HFAR.out (rdS_bad HBB.out.1 HBB.out.2 (by rw[HVN.out];exact hn6) (.inl e0)))
  have n0:(b0 !=71)=true:=by simpa using e0
  have n0':(b0==71)=false:=by simpa using e0
  clear e0
  go_enter Tryd.func12,Tryd.ntmps12
  obtain ⟨zz0,zz1,zz2⟩:=HZ1.out.q3
  obtain ⟨yy0,yy1,yy2⟩:=HR1.out.q3
  obtain ⟨ff0,ff1,ff2⟩:=HR1.out.f3
  have HBN:=h_ HB1.out
  rw[HW1.out]at zz0 zz1 zz2 yy0 yy1 yy2 ff0 ff1 ff2 HBN
  go_wp2
  exact bodyPost_ret (v:=.tuple #[.agg #[.slice none 0 0,.slice none 0 0,.int .i64 0],.bool false]) (by simp[results,Tryd.results12,go_sem,yy0,yy1,yy2]) rfl (LoEnd.mk_no HBN.out HNO.out)
 by_cases e1:b1=1
 case neg=>
  have HNO:=h_ (show rdD l=none from rdD_noS HFAR.out (rdS_bad HBB.out.1 HBB.out.2 (by rw[HVN.out];exact hn6) (.inr e1)))
  have n1:(b1 !=1)=true:=by simpa using e1
  have n1':(b1==1)=false:=by simpa using e1
  subst e0
  clear e1
  go_enter Tryd.func12,Tryd.ntmps12
  obtain ⟨zz0,zz1,zz2⟩:=HZ1.out.q3
  obtain ⟨yy0,yy1,yy2⟩:=HR1.out.q3
  obtain ⟨ff0,ff1,ff2⟩:=HR1.out.f3
  have HBN:=h_ HB1.out
  rw[HW1.out]at zz0 zz1 zz2 yy0 yy1 yy2 ff0 ff1 ff2 HBN
  go_wp2
  exact bodyPost_ret (v:=.tuple #[.agg #[.slice none 0 0,.slice none 0 0,.int .i64 0],.bool false]) (by simp[results,Tryd.results12,go_sem,yy0,yy1,yy2]) rfl (LoEnd.mk_no HBN.out HNO.out)
 subst e0 e1
 obtain ⟨xm,hxm⟩:=gM ((vn:Int) - 2)
 have hwm:IntKind.i64.wrap ((vn:Int) - 2)=xm:=by rw[hxm,IntKind.wrap_i64];omega
 have hm0:0≤xm:=by omega
 have hm1:xm≤(vn:Int):=by omega
 obtain ⟨c,hc⟩:=gM (l.take (l.length - 2))
 obtain ⟨ca,cn',ck,hsh,hci⟩:=by_h HV.out (l.length - 2) xm (by rw[hxm,HVN.out];omega) (by omega)
 obtain ⟨ta,tn',tk,hsl,hti⟩:=by_l HV.out (l.length - 2) xm (by rw[hxm,HVN.out];omega) (by omega)
 rw[←hc]at hci
 have hcl:c.length=vn - 2:=by rw[hc,List.length_take,HVN.out];omega
 obtain ⟨ca2,ck2,hce⟩:=hci.shape
 obtain ⟨rfl,hcn,rfl⟩:=Value.slice.inj hce
 have HCI:=h_ hci
 have HTI:=h_ hti
 have HC:=h_ hc
 have HCL:=h_ hcl
 have HCN:=h_ hcn
 have HHD:=h_ (show rdS c=rdH (c.drop 2) from rdS_good hc HBB.out.1 HBB.out.2 (by rw[HVN.out];exact hn6))
 have HSU:=h_ (rsums_any _ c W1 (hci.u_ HB1.out) (by omega))
 clear hc hce hci hti hxm hcl hcn hvb
 go_enter Tryd.func12,Tryd.ntmps12
 go_wp2_with fail
 rw[←HW1.out]
 refine HSU.out.mono ?_
 rintro e w2 ⟨sv,rfl,hso,hb2⟩
 have HSO:=h_ hso
 have HK2:=h_ (show KN w 0 w2 (.slice none 0 0) (.slice none 0 0) 0 0 [] [] from KN.on ⟨LstX.nil _ _,HSB1.out,HR1.out,HZ1.out,HB1.out,Nat.le_of_eq HS1.out.symm⟩ hb2)
 have HOC:=h_ (octets_any sv _ _ _ w2 hso.isBys (HTI.out.u_ HK2.out.be))
 obtain ⟨sb,hsb⟩:=gN (sameB (sumsG 0 0 c) (l.drop (l.length - 2)))
 rw[hsb]at HOC
 have HSB:=h_ hsb
 clear hso hb2 hsb u0 u1
 go_wp2_with fail
 refine HOC.out.mono ?_
 rintro e w3 ⟨rfl,hb3⟩
 have HK3:=h_ (HK2.out.on hb3)
 clear hb3
 cases sb with
 |false=>
  have HNO:=h_ (show rdD l=none from rdD_sum HFAR.out (by
   have h:=HSB.out
   unfold sameB at h
   rw[←HC.out]
   exact of_decide_eq_false h))
  obtain ⟨zz0,zz1,zz2⟩:=HK3.out.zb.q3
  obtain ⟨yy0,yy1,yy2⟩:=HK3.out.rb.q3
  obtain ⟨ff0,ff1,ff2⟩:=HK3.out.rb.f3
  have HFN:=h_ (bk3 HK3.out.rb (.slice none 0 0) (.slice none 0 0) (.int .i64 0))
  obtain ⟨qq0,qq1,qq2⟩:=HFN.out.q3
  have HGN:=h_ (grw3 w3 w.heap.size (.slice none 0 0) (.slice none 0 0) (.int .i64 0))
  have HBN:=h_ (HK3.out.be)
  have HBF:=h_ (HBN.out.grown HGN.out HBN.out.size (fun k e=>by rw[←Option.some.inj e];exact Nat.le_refl _))
  go_wp2
  exact bodyPost_ret (v:=.tuple #[.agg #[.slice none 0 0,.slice none 0 0,.int .i64 0],.bool false]) (by simp[results,Tryd.results12,go_sem,qq0,qq1,qq2]) rfl (LoEnd.mk_no HBF.out HNO.out)
 |true=>
  have HSE:=h_ (show sumsG 0 0 (l.take (l.length - 2))=l.drop (l.length - 2) by
   have h:=HSB.out
   unfold sameB at h
   rw[←HC.out]
   exact of_decide_eq_true h)
  have h2c:2≤c.length:=by have:=HCL.out;omega
  have HC2:=h_ h2c
  have hcc1:c.length≤100000:=by have:=HCL.out;omega
  have HCC:=h_ hcc1
  obtain ⟨s0,s1,s2⟩:=HK3.out.sb.q3
  obtain ⟨sf0,sf1,sf2⟩:=HK3.out.sb.f3
  cases hn:rd1 (c.drop 2) with
  |none=>
   have HNO:=h_ (show rdD l=none from rdD_noS HFAR.out (by rw[←HC.out,HHD.out];exact rdH_n0 hn))
   have HSA:=h_ (rsev_no (a:=2) (xa:=2) (HCI.out.u_ HK3.out.be) rfl h2c (by omega) hn)
   have HK4:=h_ (HK3.out.setn 0)
   clear hn h2c hcc1
   go_wp2_with fail
   refine HSA.out.mono ?_
   rintro e w' ⟨rfl,hw⟩
   rw[hw]
   clear hw w'
   obtain ⟨zz0,zz1,zz2⟩:=HK4.out.zb.q3
   obtain ⟨yy0,yy1,yy2⟩:=HK4.out.rb.q3
   obtain ⟨ff0,ff1,ff2⟩:=HK4.out.rb.f3
   have HFN:=h_ (bk3 HK4.out.rb (.slice none 0 0) (.slice none 0 0) (.int .i64 0))
   obtain ⟨qq0,qq1,qq2⟩:=HFN.out.q3
   have HGN:=h_ (grw3 (w3.setCell ⟨w.heap.size+1,2,none⟩ (.int .i64 0)) w.heap.size (.slice none 0 0) (.slice none 0 0) (.int .i64 0))
   have HBN:=h_ (HK4.out.be)
   have HBF:=h_ (HBN.out.grown HGN.out HBN.out.size (fun k e=>by rw[←Option.some.inj e];exact Nat.le_refl _))
   go_wp2
   exact bodyPost_ret (v:=.tuple #[.agg #[.slice none 0 0,.slice none 0 0,.int .i64 0],.bool false]) (by simp[results,Tryd.results12,go_sem,qq0,qq1,qq2]) rfl (LoEnd.mk_no HBF.out HNO.out)
  |some p=>
   obtain ⟨n,t1⟩:=p
   obtain ⟨a1,rfl,ha1,hn0,hn1,hsa⟩:=rsev_yes HCI.out (a:=2) (xa:=2) rfl h2c (by omega) hn
   have HSA:=h_ (hsa w3 HK3.out.be)
   have HN:=h_ hn
   obtain ⟨xb,hxb⟩:=gM ((a1:Int))
   rw[←hxb]at HSA
   have hb0:0≤xb:=by omega
   have hb1:xb≤100000:=by omega
   have HXB:=h_ hxb
   obtain ⟨W4,hW4⟩:=gM (w3.setCell ⟨w.heap.size+1,2,none⟩ (.int .i64 n))
   have HW4:=h_ hW4
   have HK4:=h_ (show KN w n W4 (.slice none 0 0) (.slice none 0 0) 0 0 [] [] by rw[hW4];exact HK3.out.setn n)
   clear hsa hn h2c hW4 hxb hn0 hn1
   go_wp2_with fail
   refine HSA.out.mono ?_
   rintro e w' ⟨rfl,hw⟩
   rw[hw]
   clear hw w'
   cases hk:rd1 (c.drop a1) with
   |none=>
    have HNO:=h_ (show rdD l=none from rdD_noS HFAR.out (by rw[←HC.out,HHD.out];exact rdH_n1 HN.out hk))
    have HSB2:=h_ (rsev_no (HCI.out.u_ HK4.out.be) HXB.out ha1 (by omega) hk)
    clear hk ha1 hcc1
    go_wp2_with fail
    rw[←HW4.out]
    refine HSB2.out.mono ?_
    rintro e w' ⟨rfl,hw⟩
    rw[hw]
    clear hw w' s0 s1 s2 sf0 sf1 sf2
    obtain ⟨zz0,zz1,zz2⟩:=HK4.out.zb.q3
    obtain ⟨yy0,yy1,yy2⟩:=HK4.out.rb.q3
    obtain ⟨ff0,ff1,ff2⟩:=HK4.out.rb.f3
    have HFN:=h_ (bk3 HK4.out.rb (.slice none 0 0) (.slice none 0 0) (.int .i64 0))
    obtain ⟨qq0,qq1,qq2⟩:=HFN.out.q3
    have HGN:=h_ (grw3 W4 w.heap.size (.slice none 0 0) (.slice none 0 0) (.int .i64 0))
    have HBN:=h_ (HK4.out.be)
    have HBF:=h_ (HBN.out.grown HGN.out HBN.out.size (fun k e=>by rw[←Option.some.inj e];exact Nat.le_refl _))
    go_wp2
    exact bodyPost_ret (v:=.tuple #[.agg #[.slice none 0 0,.slice none 0 0,.int .i64 0],.bool false]) (by simp[results,Tryd.results12,go_sem,qq0,qq1,qq2]) rfl (LoEnd.mk_no HBF.out HNO.out)
   |some p=>
    obtain ⟨k,t2⟩:=p
    obtain ⟨a2,rfl,ha2,hk0,hk1,hsb⟩:=rsev_yes HCI.out HXB.out ha1 (by omega) hk
    have HSB2:=h_ (hsb W4 HK4.out.be)
    have HHY:=h_ (rdH_y HN.out hk)
    obtain ⟨xc,hxc⟩:=gM ((a2:Int))
    rw[←hxc]at HSB2
    have hd0:0≤xc:=by omega
    have hd1:xc≤100000:=by omega
    have HXC:=h_ hxc
    have HA2:=h_ ha2
    clear hsb hk ha1 ha2 hxc hcc1
    go_wp2_with fail
    rw[←HW4.out]
    refine HSB2.out.mono ?_
    rintro e w' ⟨rfl,hw⟩
    rw[hw]
    clear hw w' s0 s1 s2 sf0 sf1 sf2
    by_cases h12:12<k
    ·have HNO:=h_ (show rdD l=none from rdD_noS HFAR.out (by rw[←HC.out,HHD.out,HHY.out,if_pos h12]))
     obtain ⟨zz0,zz1,zz2⟩:=HK4.out.zb.q3
     obtain ⟨yy0,yy1,yy2⟩:=HK4.out.rb.q3
     obtain ⟨ff0,ff1,ff2⟩:=HK4.out.rb.f3
     have HFN:=h_ (bk3 HK4.out.rb (.slice none 0 0) (.slice none 0 0) (.int .i64 0))
     obtain ⟨qq0,qq1,qq2⟩:=HFN.out.q3
     have HGN:=h_ (grw3 W4 w.heap.size (.slice none 0 0) (.slice none 0 0) (.int .i64 0))
     have HBN:=h_ (HK4.out.be)
     have HBF:=h_ (HBN.out.grown HGN.out HBN.out.size (fun k e=>by rw[←Option.some.inj e];exact Nat.le_refl _))
     go_wp2
     exact bodyPost_ret (v:=.tuple #[.agg #[.slice none 0 0,.slice none 0 0,.int .i64 0],.bool false]) (by simp[results,Tryd.results12,go_sem,qq0,qq1,qq2]) rfl (LoEnd.mk_no HBF.out HNO.out)
    have hk12:k≤12:=by omega
    have HE:=h_ (show rdS (l.take (l.length - 2))=match rdLs k.toNat (c.drop a2) with|none=>none|some (xs,t)=>some ((n,xs),t) by
     rw[←HC.out,HHD.out,HHY.out,if_neg h12]
     cases rdLs k.toNat (c.drop a2) with
     |none=>rfl
     |some p=>rfl)
    obtain ⟨E,hE⟩:=gN (rdLs k.toNat (c.drop a2))
    have HIN0:=h_ (show KInv E k.toNat 0 [] (some (c.drop a2)) by rw[←hE];exact KInv.first k.toNat (some (c.drop a2)))
    rw[hE]at HE
    clear hE
    go_wp2
    go_loopw [10,11] (fun av q wr=>∃(i b:Nat) (xi xe:Int) (o t:Value) (xs:List (Ly×(Mx×Mx))),i≤k.toNat∧xi=(i:Int)∧q=.int .i64 xi∧av=.int .i64 xe∧xe=(b:Int)∧b≤c.length∧xs.length=i∧KInv E k.toNat i xs (some (c.drop b))∧KN w n wr o t i i (xs.map (·.1)) (xs.map (·.2))) (fun _ q _=>13 - (intOf q).toNat)
    case atStart=>exact ⟨0,a2,0,xc,_,_,[],Nat.zero_le _,rfl,rfl,rfl,HXC.out,HA2.out,rfl,HIN0.out,HK4.out⟩
    case round=>
     obtain ⟨i,b,xi,xe,o,t,xs,hi,hxi,rfl,rfl,hxe,hb,hxl,hin,hkn⟩:=hrel
     obtain ⟨V,hV⟩:=gM (wr)
     subst hV
     have HXI:=h_ hxi
     have HXE:=h_ hxe
     have HBL:=h_ hb
     have HXL:=h_ hxl
     have HIN:=h_ hin
     have HKN:=h_ hkn
     have hj0:0≤xi:=by omega
     have hj1:xi≤12:=by omega
     have hy0:0≤xe:=by omega
     have hy1:xe≤100000:=by have:=HCC.out;omega
     obtain ⟨oa,ok,ho,_,_⟩:=(hkn.ls.lys (by rw[List.length_map,hxl])).shape
     obtain ⟨ta2,tk2,ht,_,_⟩:=(hkn.ls.gds (by rw[List.length_map,hxl])).shape
     rw[List.length_map,hxl]at ho ht
     subst ho ht
     clear hxi hxe hb hxl hin hkn
     by_cases hlt:xi<k
     ·have hik:i<k.toNat:=by have:=HXI.out;omega
      have HIK:=h_ hik
      have HI1000:=h_ (show i≤1000 by omega)
      have HI13:=h_ (show i+1≤k.toNat by omega)
      obtain ⟨A1,hA1⟩:=gM ((V.alloc (.cells #[.int .i64 0,.int .i64 0,.int .i64 0,.slice none 0 0,.int .i64 0,.int .i64 0,.slice none 0 0] 53)).alloc (.cells #[.int .i64 0,.int .i64 0,.slice none 0 0,.int .i64 0,.int .i64 0,.slice none 0 0] 56))
      have HA1:=h_ hA1
      have HSA1:=h_ (show A1.heap.size=V.heap.size+2 by rw[hA1,World.size_alloc,World.size_alloc])
      have HBA1:=h_ (show Below V.heap.size V A1 by rw[hA1];exact bel_on (o_ _ _) (o_ _ _))
      have HLA1:=h_ (show WBk A1 V.heap.size #[.int .i64 0,.int .i64 0,.int .i64 0,.slice none 0 0,.int .i64 0,.int .i64 0,.slice none 0 0] 53 by rw[hA1];exact (WBk.new _ _ _).kept (o_ _ _))
      have HGA1:=h_ (show WBk A1 (V.heap.size+1) #[.int .i64 0,.int .i64 0,.slice none 0 0,.int .i64 0,.int .i64 0,.slice none 0 0] 56 by rw[hA1,show V.heap.size+1=(V.alloc (.cells #[.int .i64 0,.int .i64 0,.int .i64 0,.slice none 0 0,.int .i64 0,.int .i64 0,.slice none 0 0] 53)).heap.size by rw[World.size_alloc]];exact WBk.new _ _ _)
      obtain ⟨l0,l1,l2,l3,l4,l5,l6⟩:=HLA1.out.d7
      have lf0:=HLA1.out.f 0
      clear hA1 hik
      cases h1:rd1 (c.drop b) with
      |none=>
       have HSD:=h_ (rsev_no (HCI.out.u_ (HKN.out.on HBA1.out).be) HXE.out HBL.out (by have:=HCC.out;have:=HBL.out;omega) h1)
       have HNO:=h_ (show rdD l=none from rdD_noS HFAR.out (by rw[HE.out,HIN.out.noL HIK.out (rdL_n0 h1)]))
       have HKF:=h_ (HKN.out.on (below_sets HBA1.out (Nat.le_refl V.heap.size) 0 (.int .i64 0)))
       clear h1
       go_wp2_with fail
       rw[←HA1.out]
       refine HSD.out.mono ?_
       rintro e w' ⟨rfl,hw⟩
       rw[hw]
       clear hw w'
       obtain ⟨zz0,zz1,zz2⟩:=HKF.out.zb.q3
       obtain ⟨yy0,yy1,yy2⟩:=HKF.out.rb.q3
       obtain ⟨ff0,ff1,ff2⟩:=HKF.out.rb.f3
       have HFN:=h_ (bk3 HKF.out.rb (.slice none 0 0) (.slice none 0 0) (.int .i64 0))
       obtain ⟨qq0,qq1,qq2⟩:=HFN.out.q3
       have HGN:=h_ (grw3 (A1.setCell ⟨V.heap.size,0,none⟩ (.int .i64 0)) w.heap.size (.slice none 0 0) (.slice none 0 0) (.int .i64 0))
       have HBN:=h_ (HKF.out.be)
       have HBF:=h_ (HBN.out.grown HGN.out HBN.out.size (fun k e=>by rw[←Option.some.inj e];exact Nat.le_refl _))
       go_wp2
       exact bodyPost_ret (v:=.tuple #[.agg #[.slice none 0 0,.slice none 0 0,.int .i64 0],.bool false]) (by simp[results,Tryd.results12,go_sem,qq0,qq1,qq2]) rfl (LoEnd.mk_no HBF.out HNO.out)
      |some p=>
       obtain ⟨kd,t3⟩:=p
       obtain ⟨b1,rfl,hb1,hkd0,hkd1,hsd⟩:=rsev_yes HCI.out HXE.out HBL.out (by have:=HCC.out;have:=HBL.out;omega) h1
       have HSD:=h_ (hsd A1 (HKN.out.on HBA1.out).be)
       have HR1x:=h_ h1
       obtain ⟨x1,hx1⟩:=gM ((b1:Int))
       rw[←hx1]at HSD
       have HX1:=h_ (And.intro hx1 hb1)
       have hx10:0≤x1:=by omega
       obtain ⟨A2,hA2⟩:=gM (A1.setCell ⟨V.heap.size,0,none⟩ (.int .i64 kd))
       have HA2w:=h_ hA2
       have HBA2:=h_ (show Below V.heap.size V A2 by rw[hA2];exact below_sets HBA1.out (Nat.le_refl _) 0 _)
       have HLA2:=h_ (show WBk A2 V.heap.size #[.int .i64 kd,.int .i64 0,.int .i64 0,.slice none 0 0,.int .i64 0,.int .i64 0,.slice none 0 0] 53 by rw[hA2];exact HLA1.out.set 0 _)
       have HGA2:=h_ (show WBk A2 (V.heap.size+1) #[.int .i64 0,.int .i64 0,.slice none 0 0,.int .i64 0,.int .i64 0,.slice none 0 0] 56 by rw[hA2];exact HGA1.out.other (by omega) _)
       have HSA2:=h_ (show A2.heap.size=V.heap.size+2 by rw[hA2,←HSA1.out];simp[World.setCell])
       have HMN:=h_ (rmatat_any _ c b1 x1 A2 (HCI.out.u_ (HKN.out.on HBA2.out).be) hx1 hb1 HCC.out)
       clear hsd h1 hx1 hb1 hA2 hkd0 hkd1
       go_wp2_with fail
       rw[←HA1.out]
       refine HSD.out.mono ?_
       rintro e w' ⟨rfl,hw⟩
       rw[hw]
       clear hw w'
       go_wp2_with fail
       rw[←HA2w.out]
       clear l0 l1 l2 l3 l4 l5 l6 lf0
       refine HMN.out.mono ?_
       rintro e u1 ⟨hbu,r1,c1,pa,pn,pk,j,rfl,hj⟩
       have HBu:=h_ (show Below V.heap.size V u1 from bel_on HBA2.out hbu)
       have HLu:=h_ (HLA2.out.kept hbu)
       have HGu:=h_ (HGA2.out.kept hbu)
       obtain ⟨l0,l1,l2,l3,l4,l5,l6⟩:=HLu.out.d7
       obtain ⟨lf0,lf1,lf2,lf3,lf4,lf5,lf6⟩:=HLu.out.g7
       obtain ⟨g0,g1,g2,g3,g4,g5⟩:=HGu.out.d6
       obtain ⟨gf0,gf1,gf2,gf3,gf4,gf5,gf6⟩:=HGu.out.g7
       have HBr:=h_ (show Below V.heap.size V (((u1.setCell ⟨V.heap.size,1,none⟩ (.int .i64 r1)).setCell ⟨V.heap.size,2,none⟩ (.int .i64 c1)).setCell ⟨V.heap.size,3,none⟩ (.slice pa pn pk)) from bel3a HBu.out (by first|exact Nat.le_refl _|exact Nat.le_succ _) 1 2 3 _ _ _)
       rcases hj with ⟨rfl,hno⟩|⟨⟨mr,mc,z1⟩,b2,hr,hc,ho,hjx,hb',hyes⟩
       ·have HNO:=h_ (show rdD l=none from rdD_noS HFAR.out (by rw[HE.out,HIN.out.noL HIK.out (rdL_n1 HR1x.out hno)]))
        have HKF:=h_ (HKN.out.on HBr.out)
        clear hno hbu
        obtain ⟨zz0,zz1,zz2⟩:=HKF.out.zb.q3
        obtain ⟨yy0,yy1,yy2⟩:=HKF.out.rb.q3
        obtain ⟨ff0,ff1,ff2⟩:=HKF.out.rb.f3
        have HFN:=h_ (bk3 HKF.out.rb (.slice none 0 0) (.slice none 0 0) (.int .i64 0))
        obtain ⟨qq0,qq1,qq2⟩:=HFN.out.q3
        have HGN:=h_ (grw3 (((u1.setCell ⟨V.heap.size,1,none⟩ (.int .i64 r1)).setCell ⟨V.heap.size,2,none⟩ (.int .i64 c1)).setCell ⟨V.heap.size,3,none⟩ (.slice pa pn pk)) w.heap.size (.slice none 0 0) (.slice none 0 0) (.int .i64 0))
        have HBN:=h_ (HKF.out.be)
        have HBF:=h_ (HBN.out.grown HGN.out HBN.out.size (fun k e=>by rw[←Option.some.inj e];exact Nat.le_refl _))
        go_wp2
        exact bodyPost_ret (v:=.tuple #[.agg #[.slice none 0 0,.slice none 0 0,.int .i64 0],.bool false]) (by simp[results,Tryd.results12,go_sem,qq0,qq1,qq2]) rfl (LoEnd.mk_no HBF.out HNO.out)
       replace hr:r1=mr:=hr
       replace hc:c1=mc:=hc
       subst hr
       subst hc
       have HY1:=h_ hyes
       obtain ⟨x2,hx⟩:=gM (j)
       rw[←hx]at hjx ⊢
       have HX2:=h_ (And.intro hjx hb')
       have hxx1:0≤x2:=by omega
       obtain ⟨A3,hA⟩:=gM ((((u1.setCell ⟨V.heap.size,1,none⟩ (.int .i64 r1)).setCell ⟨V.heap.size,2,none⟩ (.int .i64 c1)).setCell ⟨V.heap.size,3,none⟩ (.slice pa pn pk)))
       have HA3w:=h_ hA
       have HBA3:=h_ (show Below V.heap.size V A3 by rw[hA];exact HBr.out)
       have HLA3:=h_ (show WBk A3 V.heap.size #[.int .i64 kd,.int .i64 r1,.int .i64 c1,.slice pa pn pk,.int .i64 0,.int .i64 0,.slice none 0 0] 53 by rw[hA];exact ((HLu.out.set 1 _).set 2 _).set 3 _)
       have HGA3:=h_ (show WBk A3 (V.heap.size+1) #[.int .i64 0,.int .i64 0,.slice none 0 0,.int .i64 0,.int .i64 0,.slice none 0 0] 56 by rw[hA];exact HGu.out.other3 (by omega) _ _ _ _ _ _)
       have HSA3:=h_ (show V.heap.size+2≤A3.heap.size by rw[hA];exact Nat.le_trans (by have:=HSA2.out;omega) (Nat.le_trans hbu.size (grw3a u1 (V.heap.size) 1 2 3 _ _ _).size))
       have HSU3:=h_ (show A3.heap.size=u1.heap.size by rw[hA];simp[World.setCell])
       have HO11:=h_ (show OwnZ A3 (V.heap.size+2) (.slice pa pn pk) z1 by rw[hA];exact (ho.base (by have:=HSA2.out;omega)).keptB (grw3a u1 (V.heap.size) 1 2 3 _ _ _) (by omega))
       have HMN:=h_ (rmatat_any _ c b2 x2 A3 (HCI.out.u_ (HKN.out.on HBA3.out).be) hjx hb' HCC.out)
       clear hyes hx hjx hb' hA ho hbu
       go_wp2_with fail
       rw[←HA3w.out]
       clear l0 l1 l2 l3 l4 l5 l6 lf0 lf1 lf2 lf3 lf4 lf5 lf6 g0 g1 g2 g3 g4 g5 gf0 gf1 gf2 gf3 gf4 gf5 gf6
       refine HMN.out.mono ?_
       rintro e u2 ⟨hbu,r2,c2,qa,qn,qk,j,rfl,hj⟩
       have HBu:=h_ (show Below V.heap.size V u2 from bel_on HBA3.out hbu)
       have HLu:=h_ (HLA3.out.kept hbu)
       have HGu:=h_ (HGA3.out.kept hbu)
       obtain ⟨l0,l1,l2,l3,l4,l5,l6⟩:=HLu.out.d7
       obtain ⟨lf0,lf1,lf2,lf3,lf4,lf5,lf6⟩:=HLu.out.g7
       obtain ⟨g0,g1,g2,g3,g4,g5⟩:=HGu.out.d6
       obtain ⟨gf0,gf1,gf2,gf3,gf4,gf5,gf6⟩:=HGu.out.g7
       have HBr:=h_ (show Below V.heap.size V (((u2.setCell ⟨V.heap.size,4,none⟩ (.int .i64 r2)).setCell ⟨V.heap.size,5,none⟩ (.int .i64 c2)).setCell ⟨V.heap.size,6,none⟩ (.slice qa qn qk)) from bel3a HBu.out (by first|exact Nat.le_refl _|exact Nat.le_succ _) 4 5 6 _ _ _)
       rcases hj with ⟨rfl,hno⟩|⟨⟨mr,mc,z2⟩,b3,hr,hc,ho,hjx,hb',hyes⟩
       ·have HNO:=h_ (show rdD l=none from rdD_noS HFAR.out (by rw[HE.out,HIN.out.noL HIK.out (rdL_n2 HR1x.out HY1.out hno)]))
        have HKF:=h_ (HKN.out.on HBr.out)
        clear hno hbu
        obtain ⟨zz0,zz1,zz2⟩:=HKF.out.zb.q3
        obtain ⟨yy0,yy1,yy2⟩:=HKF.out.rb.q3
        obtain ⟨ff0,ff1,ff2⟩:=HKF.out.rb.f3
        have HFN:=h_ (bk3 HKF.out.rb (.slice none 0 0) (.slice none 0 0) (.int .i64 0))
        obtain ⟨qq0,qq1,qq2⟩:=HFN.out.q3
        have HGN:=h_ (grw3 (((u2.setCell ⟨V.heap.size,4,none⟩ (.int .i64 r2)).setCell ⟨V.heap.size,5,none⟩ (.int .i64 c2)).setCell ⟨V.heap.size,6,none⟩ (.slice qa qn qk)) w.heap.size (.slice none 0 0) (.slice none 0 0) (.int .i64 0))
        have HBN:=h_ (HKF.out.be)
        have HBF:=h_ (HBN.out.grown HGN.out HBN.out.size (fun k e=>by rw[←Option.some.inj e];exact Nat.le_refl _))
        go_wp2
        exact bodyPost_ret (v:=.tuple #[.agg #[.slice none 0 0,.slice none 0 0,.int .i64 0],.bool false]) (by simp[results,Tryd.results12,go_sem,qq0,qq1,qq2]) rfl (LoEnd.mk_no HBF.out HNO.out)
       replace hr:r2=mr:=hr
       replace hc:c2=mc:=hc
       subst hr
       subst hc
       have HY2:=h_ hyes
       obtain ⟨x3,hx⟩:=gM (j)
       rw[←hx]at hjx ⊢
       have HX3:=h_ (And.intro hjx hb')
       have hxx2:0≤x3:=by omega
       obtain ⟨A4,hA⟩:=gM ((((u2.setCell ⟨V.heap.size,4,none⟩ (.int .i64 r2)).setCell ⟨V.heap.size,5,none⟩ (.int .i64 c2)).setCell ⟨V.heap.size,6,none⟩ (.slice qa qn qk)))
       have HA4w:=h_ hA
       have HBA4:=h_ (show Below V.heap.size V A4 by rw[hA];exact HBr.out)
       have HLA4:=h_ (show WBk A4 V.heap.size #[.int .i64 kd,.int .i64 r1,.int .i64 c1,.slice pa pn pk,.int .i64 r2,.int .i64 c2,.slice qa qn qk] 53 by rw[hA];exact ((HLu.out.set 4 _).set 5 _).set 6 _)
       have HGA4:=h_ (show WBk A4 (V.heap.size+1) #[.int .i64 0,.int .i64 0,.slice none 0 0,.int .i64 0,.int .i64 0,.slice none 0 0] 56 by rw[hA];exact HGu.out.other3 (by omega) _ _ _ _ _ _)
       have HSA4:=h_ (show V.heap.size+2≤A4.heap.size by rw[hA];exact Nat.le_trans (by have:=HSA3.out;omega) (Nat.le_trans hbu.size (grw3a u2 (V.heap.size) 4 5 6 _ _ _).size))
       have HSU4:=h_ (show A4.heap.size=u2.heap.size by rw[hA];simp[World.setCell])
       have HO22:=h_ (show OwnZ A4 (V.heap.size+2) (.slice qa qn qk) z2 by rw[hA];exact (ho.base (by have:=HSA3.out;omega)).keptB (grw3a u2 (V.heap.size) 4 5 6 _ _ _) (by omega))
       have HO12:=h_ (show OwnZ A4 (V.heap.size+2) (.slice pa pn pk) z1 by rw[hA];exact (HO11.out.u_ hbu).keptB (grw3a u2 (V.heap.size) 4 5 6 _ _ _) (by omega))
       have HMN:=h_ (rmatat_any _ c b3 x3 A4 (HCI.out.u_ (HKN.out.on HBA4.out).be) hjx hb' HCC.out)
       clear hyes hx hjx hb' hA ho hbu
       go_wp2_with fail
       rw[←HA4w.out]
       clear l0 l1 l2 l3 l4 l5 l6 lf0 lf1 lf2 lf3 lf4 lf5 lf6 g0 g1 g2 g3 g4 g5 gf0 gf1 gf2 gf3 gf4 gf5 gf6
       refine HMN.out.mono ?_
       rintro e u3 ⟨hbu,r3,c3,fa,fn,fk,j,rfl,hj⟩
       have HBu:=h_ (show Below V.heap.size V u3 from bel_on HBA4.out hbu)
       have HLu:=h_ (HLA4.out.kept hbu)
       have HGu:=h_ (HGA4.out.kept hbu)
       obtain ⟨l0,l1,l2,l3,l4,l5,l6⟩:=HLu.out.d7
       obtain ⟨lf0,lf1,lf2,lf3,lf4,lf5,lf6⟩:=HLu.out.g7
       obtain ⟨g0,g1,g2,g3,g4,g5⟩:=HGu.out.d6
       obtain ⟨gf0,gf1,gf2,gf3,gf4,gf5,gf6⟩:=HGu.out.g7
       have HBr:=h_ (show Below V.heap.size V (((u3.setCell ⟨V.heap.size+1,0,none⟩ (.int .i64 r3)).setCell ⟨V.heap.size+1,1,none⟩ (.int .i64 c3)).setCell ⟨V.heap.size+1,2,none⟩ (.slice fa fn fk)) from bel3a HBu.out (by first|exact Nat.le_refl _|exact Nat.le_succ _) 0 1 2 _ _ _)
       rcases hj with ⟨rfl,hno⟩|⟨⟨mr,mc,z3⟩,b4,hr,hc,ho,hjx,hb',hyes⟩
       ·have HNO:=h_ (show rdD l=none from rdD_noS HFAR.out (by rw[HE.out,HIN.out.noL HIK.out (rdL_n3 HR1x.out HY1.out HY2.out hno)]))
        have HKF:=h_ (HKN.out.on HBr.out)
        clear hno hbu
        obtain ⟨zz0,zz1,zz2⟩:=HKF.out.zb.q3
        obtain ⟨yy0,yy1,yy2⟩:=HKF.out.rb.q3
        obtain ⟨ff0,ff1,ff2⟩:=HKF.out.rb.f3
        have HFN:=h_ (bk3 HKF.out.rb (.slice none 0 0) (.slice none 0 0) (.int .i64 0))
        obtain ⟨qq0,qq1,qq2⟩:=HFN.out.q3
        have HGN:=h_ (grw3 (((u3.setCell ⟨V.heap.size+1,0,none⟩ (.int .i64 r3)).setCell ⟨V.heap.size+1,1,none⟩ (.int .i64 c3)).setCell ⟨V.heap.size+1,2,none⟩ (.slice fa fn fk)) w.heap.size (.slice none 0 0) (.slice none 0 0) (.int .i64 0))
        have HBN:=h_ (HKF.out.be)
        have HBF:=h_ (HBN.out.grown HGN.out HBN.out.size (fun k e=>by rw[←Option.some.inj e];exact Nat.le_refl _))
        go_wp2
        exact bodyPost_ret (v:=.tuple #[.agg #[.slice none 0 0,.slice none 0 0,.int .i64 0],.bool false]) (by simp[results,Tryd.results12,go_sem,qq0,qq1,qq2]) rfl (LoEnd.mk_no HBF.out HNO.out)
       replace hr:r3=mr:=hr
       replace hc:c3=mc:=hc
       subst hr
       subst hc
       have HY3:=h_ hyes
       obtain ⟨x4,hx⟩:=gM (j)
       rw[←hx]at hjx ⊢
       have HX4:=h_ (And.intro hjx hb')
       have hxx3:0≤x4:=by omega
       obtain ⟨A5,hA⟩:=gM ((((u3.setCell ⟨V.heap.size+1,0,none⟩ (.int .i64 r3)).setCell ⟨V.heap.size+1,1,none⟩ (.int .i64 c3)).setCell ⟨V.heap.size+1,2,none⟩ (.slice fa fn fk)))
       have HA5w:=h_ hA
       have HBA5:=h_ (show Below V.heap.size V A5 by rw[hA];exact HBr.out)
       have HLA5:=h_ (show WBk A5 V.heap.size #[.int .i64 kd,.int .i64 r1,.int .i64 c1,.slice pa pn pk,.int .i64 r2,.int .i64 c2,.slice qa qn qk] 53 by rw[hA];exact HLu.out.other3 (by omega) _ _ _ _ _ _)
       have HGA5:=h_ (show WBk A5 (V.heap.size+1) #[.int .i64 r3,.int .i64 c3,.slice fa fn fk,.int .i64 0,.int .i64 0,.slice none 0 0] 56 by rw[hA];exact ((HGu.out.set 0 _).set 1 _).set 2 _)
       have HSA5:=h_ (show V.heap.size+2≤A5.heap.size by rw[hA];exact Nat.le_trans (by have:=HSA4.out;omega) (Nat.le_trans hbu.size (grw3a u3 (V.heap.size+1) 0 1 2 _ _ _).size))
       have HSU5:=h_ (show A5.heap.size=u3.heap.size by rw[hA];simp[World.setCell])
       have HO33:=h_ (show OwnZ A5 (V.heap.size+2) (.slice fa fn fk) z3 by rw[hA];exact (ho.base (by have:=HSA4.out;omega)).keptB (grw3a u3 (V.heap.size+1) 0 1 2 _ _ _) (by omega))
       have HO13:=h_ (show OwnZ A5 (V.heap.size+2) (.slice pa pn pk) z1 by rw[hA];exact (HO12.out.u_ hbu).keptB (grw3a u3 (V.heap.size+1) 0 1 2 _ _ _) (by omega))
       have HO23:=h_ (show OwnZ A5 (V.heap.size+2) (.slice qa qn qk) z2 by rw[hA];exact (HO22.out.u_ hbu).keptB (grw3a u3 (V.heap.size+1) 0 1 2 _ _ _) (by omega))
       have HMN:=h_ (rmatat_any _ c b4 x4 A5 (HCI.out.u_ (HKN.out.on HBA5.out).be) hjx hb' HCC.out)
       clear hyes hx hjx hb' hA ho hbu
       go_wp2_with fail
       rw[←HA5w.out]
       clear l0 l1 l2 l3 l4 l5 l6 lf0 lf1 lf2 lf3 lf4 lf5 lf6 g0 g1 g2 g3 g4 g5 gf0 gf1 gf2 gf3 gf4 gf5 gf6
       refine HMN.out.mono ?_
       rintro e u4 ⟨hbu,r4,c4,ga,gn,gk,j,rfl,hj⟩
       have HBu:=h_ (show Below V.heap.size V u4 from bel_on HBA5.out hbu)
       have HLu:=h_ (HLA5.out.kept hbu)
       have HGu:=h_ (HGA5.out.kept hbu)
       obtain ⟨l0,l1,l2,l3,l4,l5,l6⟩:=HLu.out.d7
       obtain ⟨lf0,lf1,lf2,lf3,lf4,lf5,lf6⟩:=HLu.out.g7
       obtain ⟨g0,g1,g2,g3,g4,g5⟩:=HGu.out.d6
       obtain ⟨gf0,gf1,gf2,gf3,gf4,gf5,gf6⟩:=HGu.out.g7
       have HBr:=h_ (show Below V.heap.size V (((u4.setCell ⟨V.heap.size+1,3,none⟩ (.int .i64 r4)).setCell ⟨V.heap.size+1,4,none⟩ (.int .i64 c4)).setCell ⟨V.heap.size+1,5,none⟩ (.slice ga gn gk)) from bel3a HBu.out (by first|exact Nat.le_refl _|exact Nat.le_succ _) 3 4 5 _ _ _)
       rcases hj with ⟨rfl,hno⟩|⟨⟨mr,mc,z4⟩,b5,hr,hc,ho,hjx,hb',hyes⟩
       ·have HNO:=h_ (show rdD l=none from rdD_noS HFAR.out (by rw[HE.out,HIN.out.noL HIK.out (rdL_n4 HR1x.out HY1.out HY2.out HY3.out hno)]))
        have HKF:=h_ (HKN.out.on HBr.out)
        clear hno hbu
        obtain ⟨zz0,zz1,zz2⟩:=HKF.out.zb.q3
        obtain ⟨yy0,yy1,yy2⟩:=HKF.out.rb.q3
        obtain ⟨ff0,ff1,ff2⟩:=HKF.out.rb.f3
        have HFN:=h_ (bk3 HKF.out.rb (.slice none 0 0) (.slice none 0 0) (.int .i64 0))
        obtain ⟨qq0,qq1,qq2⟩:=HFN.out.q3
        have HGN:=h_ (grw3 (((u4.setCell ⟨V.heap.size+1,3,none⟩ (.int .i64 r4)).setCell ⟨V.heap.size+1,4,none⟩ (.int .i64 c4)).setCell ⟨V.heap.size+1,5,none⟩ (.slice ga gn gk)) w.heap.size (.slice none 0 0) (.slice none 0 0) (.int .i64 0))
        have HBN:=h_ (HKF.out.be)
        have HBF:=h_ (HBN.out.grown HGN.out HBN.out.size (fun k e=>by rw[←Option.some.inj e];exact Nat.le_refl _))
        go_wp2
        exact bodyPost_ret (v:=.tuple #[.agg #[.slice none 0 0,.slice none 0 0,.int .i64 0],.bool false]) (by simp[results,Tryd.results12,go_sem,qq0,qq1,qq2]) rfl (LoEnd.mk_no HBF.out HNO.out)
       replace hr:r4=mr:=hr
       replace hc:c4=mc:=hc
       subst hr
       subst hc
       have HY4:=h_ hyes
       obtain ⟨x5,hx⟩:=gM (j)
       rw[←hx]at hjx ⊢
       have HX5:=h_ (And.intro hjx hb')
       have hxx4:0≤x5:=by omega
       obtain ⟨A6,hA⟩:=gM ((((u4.setCell ⟨V.heap.size+1,3,none⟩ (.int .i64 r4)).setCell ⟨V.heap.size+1,4,none⟩ (.int .i64 c4)).setCell ⟨V.heap.size+1,5,none⟩ (.slice ga gn gk)))
       have HA6w:=h_ hA
       have HBA6:=h_ (show Below V.heap.size V A6 by rw[hA];exact HBr.out)
       have HLA6:=h_ (show WBk A6 V.heap.size #[.int .i64 kd,.int .i64 r1,.int .i64 c1,.slice pa pn pk,.int .i64 r2,.int .i64 c2,.slice qa qn qk] 53 by rw[hA];exact HLu.out.other3 (by omega) _ _ _ _ _ _)
       have HGA6:=h_ (show WBk A6 (V.heap.size+1) #[.int .i64 r3,.int .i64 c3,.slice fa fn fk,.int .i64 r4,.int .i64 c4,.slice ga gn gk] 56 by rw[hA];exact ((HGu.out.set 3 _).set 4 _).set 5 _)
       have HSA6:=h_ (show V.heap.size+2≤A6.heap.size by rw[hA];exact Nat.le_trans (by have:=HSA5.out;omega) (Nat.le_trans hbu.size (grw3a u4 (V.heap.size+1) 3 4 5 _ _ _).size))
       have HSU6:=h_ (show A6.heap.size=u4.heap.size by rw[hA];simp[World.setCell])
       have HO44:=h_ (show OwnZ A6 (V.heap.size+2) (.slice ga gn gk) z4 by rw[hA];exact (ho.base (by have:=HSA5.out;omega)).keptB (grw3a u4 (V.heap.size+1) 3 4 5 _ _ _) (by omega))
       have HO14:=h_ (show OwnZ A6 (V.heap.size+2) (.slice pa pn pk) z1 by rw[hA];exact (HO13.out.u_ hbu).keptB (grw3a u4 (V.heap.size+1) 3 4 5 _ _ _) (by omega))
       have HO24:=h_ (show OwnZ A6 (V.heap.size+2) (.slice qa qn qk) z2 by rw[hA];exact (HO23.out.u_ hbu).keptB (grw3a u4 (V.heap.size+1) 3 4 5 _ _ _) (by omega))
       have HO34:=h_ (show OwnZ A6 (V.heap.size+2) (.slice fa fn fk) z3 by rw[hA];exact (HO33.out.u_ hbu).keptB (grw3a u4 (V.heap.size+1) 3 4 5 _ _ _) (by omega))
       clear hyes hx hjx hb' hA ho hbu
       have HK6:=h_ (HKN.out.on HBA6.out)
       obtain ⟨s0,s1,s2⟩:=HK6.out.sb.q3
       obtain ⟨m0,m1,m2,m3,m4,m5,m6⟩:=HLA6.out.d7
       have HBO:=h_ (o_ A6 (.cells #[.int .i64 kd,.int .i64 r1,.int .i64 c1,.slice pa pn pk,.int .i64 r2,.int .i64 c2,.slice qa qn qk] 53))
       have HLN:=h_ (HK6.out.ls.u_ HBO.out)
       have HCB:=h_ (show WBk (A6.alloc (.cells #[.int .i64 kd,.int .i64 r1,.int .i64 c1,.slice pa pn pk,.int .i64 r2,.int .i64 c2,.slice qa qn qk] 53)) u4.heap.size #[.int .i64 kd,.int .i64 r1,.int .i64 c1,.slice pa pn pk,.int .i64 r2,.int .i64 c2,.slice qa qn qk] 53 by rw[←HSU6.out];exact WBk.new A6 #[.int .i64 kd,.int .i64 r1,.int .i64 c1,.slice pa pn pk,.int .i64 r2,.int .i64 c2,.slice qa qn qk] 53)
       have HP1:=h_ ((HKN.out.ls.part HKN.out.ba (HO14.out.base (Nat.le_trans (Nat.le_succ _) (Nat.le_succ _)))).u_ HBO.out)
       have HP2:=h_ ((HKN.out.ls.part HKN.out.ba (HO24.out.base (Nat.le_trans (Nat.le_succ _) (Nat.le_succ _)))).u_ HBO.out)
       have HP3:=h_ ((HKN.out.ls.part2 HKN.out.ba (HO34.out.base (Nat.le_trans (Nat.le_succ _) (Nat.le_succ _)))).u_ HBO.out)
       have HP4:=h_ ((HKN.out.ls.part2 HKN.out.ba (HO44.out.base (Nat.le_trans (Nat.le_succ _) (Nat.le_succ _)))).u_ HBO.out)
       have HBAS:=h_ (Nat.le_trans HK6.out.ba HBO.out.size)
       have HG6:=h_ (HGA6.out.kept HBO.out)
       rw[HA6w.out]at s0 s1 s2 m0 m1 m2 m3 m4 m5 m6 HLN HCB HP1 HP2
       go_wp2_with (at_builtin;go_loud (refine wpList_app_lyW rfl _ _ rfl (w.heap.size+3) (.slice oa i ok) (.slice ta2 i tk2) i i (xs.map (·.1)) (xs.map (·.2)) rfl HLN.out u4.heap.size ⟨kd,⟨r1,c1,z1⟩,⟨r2,c2,z2⟩⟩ (.slice pa pn pk) (.slice qa qn qk) rfl HCB.out HP1.out HP2.out HI1000.out ?hbas ?_))
       case hbas=>have h:=HBAS.out;rw[HA6w.out]at h;exact h
       intro v8 w8 hl8 hg8 hw8
       rw[←HA6w.out]at hg8
       obtain ⟨va8,vk8,hv8,_,_⟩:=(hl8.lys (by rw[List.length_append,List.length_map,HXL.out];rfl)).shape
       rw[List.length_append,List.length_map,HXL.out]at hv8
       replace hv8:v8=.slice va8 (i+1) vk8:=hv8
       subst hv8
       have HX8:=h_ (KN.put1 HK6.out HBO.out hl8 hg8)
       have hq8:=KN.lay HK6.out HBO.out (fun b e=>(HK6.out.ls.1.lt b e).1) hg8
       have HVW:=h_ (show w.heap.size+3≤V.heap.size from HKN.out.ba)
       have hoV:∀b,(Value.slice oa i ok).ownBlock=some b→b<V.heap.size:=fun b e=>(HKN.out.ls.1.lt b e).2
       have HG8:=h_ (show WBk w8 (V.heap.size+1) #[.int .i64 r3,.int .i64 c3,.slice fa fn fk,.int .i64 r4,.int .i64 c4,.slice ga gn gk] 56 from (hg8.block _ HG6.out.lt (fun e=>by have:=hoV _ e.symm;omega)).trans HG6.out)
       have y0:=hq8.1.q3.1
       have z0:=hq8.1.f 0
       obtain ⟨_,y1,_⟩:=HX8.out.sb.q3
       obtain ⟨n0,n1,n2,n3,n4,n5⟩:=(HG8.out.other (B':=w.heap.size+1) (i:=0) (by have:=HVW.out;omega) (.slice va8 (i+1) vk8)).d6
       have HBO2:=h_ (o_ (w8.setCell ⟨w.heap.size+1,0,none⟩ (.slice va8 (i+1) vk8)) (.cells #[.int .i64 r3,.int .i64 c3,.slice fa fn fk,.int .i64 r4,.int .i64 c4,.slice ga gn gk] 56))
       have hpg:∀{p:Int⊕List Int} {u:Value},P_ (A6.alloc (.cells #[.int .i64 kd,.int .i64 r1,.int .i64 c1,.slice pa pn pk,.int .i64 r2,.int .i64 c2,.slice qa qn qk] 53)) (fun b=>(Value.slice ta2 i tk2).ownBlock=some b∨((Value.slice oa i ok).ownBlock=some b∨b<w.heap.size+3)) p u→P_ ((w8.setCell ⟨w.heap.size+1,0,none⟩ (.slice va8 (i+1) vk8)).alloc (.cells #[.int .i64 r3,.int .i64 c3,.slice fa fn fk,.int .i64 r4,.int .i64 c4,.slice ga gn gk] 56)) (fun b=>(Value.slice ta2 i tk2).ownBlock=some b∨((Value.slice va8 (i+1) vk8).ownBlock=some b∨b<w.heap.size+3)) p u:=fun {p u} hp=>by
        have h1:P_ w8 (fun b=>(Value.slice ta2 i tk2).ownBlock=some b∨((Value.slice va8 (i+1) vk8).ownBlock=some b∨b<w.heap.size+3)) p u:=hp.grown hg8 (fun b hb=>.inr (.inl hb)) (fun b hlt hb=>by
         rcases hb with q|q|q
         ·exact .inl q
         ·rcases hw8 with z|z
          ·exact .inr (.inl (by rw[←z];exact q))
          ·rw[z]at q
           have h1:=Option.some.inj q
           rw[World.size_alloc,HSU6.out]at hlt
           omega
         ·exact .inr (.inr q))
        exact (h1.set (B:=w.heap.size+1) (.inr (.inr (by omega))) 0 _).u_ HBO2.out
       have HP5:=h_ (hpg HP3.out)
       have HP6:=h_ (hpg HP4.out)
       have HLN2:=h_ (HX8.out.ls.u_ HBO2.out)
       have HCB2:=h_ (show WBk ((w8.setCell ⟨w.heap.size+1,0,none⟩ (.slice va8 (i+1) vk8)).alloc (.cells #[.int .i64 r3,.int .i64 c3,.slice fa fn fk,.int .i64 r4,.int .i64 c4,.slice ga gn gk] 56)) w8.heap.size #[.int .i64 r3,.int .i64 c3,.slice fa fn fk,.int .i64 r4,.int .i64 c4,.slice ga gn gk] 56 by
        have h:=WBk.new (w8.setCell ⟨w.heap.size+1,0,none⟩ (.slice va8 (i+1) vk8)) #[.int .i64 r3,.int .i64 c3,.slice fa fn fk,.int .i64 r4,.int .i64 c4,.slice ga gn gk] 56
        rw[show (w8.setCell ⟨w.heap.size+1,0,none⟩ (.slice va8 (i+1) vk8)).heap.size=w8.heap.size by simp[World.setCell]]at h
        exact h)
       have HBAS2:=h_ (Nat.le_trans HX8.out.ba HBO2.out.size)
       have HNX:=h_ (HIN.out.nextL HIK.out (rdL_y HR1x.out HY1.out HY2.out HY3.out HY4.out))
       clear hl8 hg8 hw8 hq8 hoV hpg s0 s1 s2 m0 m1 m2 m3 m4 m5 m6 l0 l1 l2 l3 l4 l5 l6 lf0 lf1 lf2 lf3 lf4 lf5 lf6 g0 g1 g2 g3 g4 g5 gf0 gf1 gf2 gf3 gf4 gf5 gf6
       go_wp2_with (at_builtin;go_loud (refine wpList_app_gd rfl _ _ rfl (w.heap.size+3) (.slice va8 (i+1) vk8) (.slice ta2 i tk2) (i+1) i (xs.map (·.1)++[⟨kd,⟨r1,c1,z1⟩,⟨r2,c2,z2⟩⟩]) (xs.map (·.2)) rfl HLN2.out w8.heap.size (⟨r3,c3,z3⟩,⟨r4,c4,z4⟩) (.slice fa fn fk) (.slice ga gn gk) rfl HCB2.out HP5.out HP6.out HI1000.out HBAS2.out ?_))
       intro v9 w9 hl9 hg9
       obtain ⟨va9,vk9,hv9,_,_⟩:=(hl9.gds (by rw[List.length_append,List.length_map,HXL.out];rfl)).shape
       rw[List.length_append,List.length_map,HXL.out]at hv9
       replace hv9:v9=.slice va9 (i+1) vk9:=hv9
       subst hv9
       have HX9:=h_ (KN.put2 HX8.out HBO2.out hl9 hg9)
       have hq9:=KN.lay HX8.out HBO2.out (fun b e=>(HX8.out.ls.2.1.lt b e).1) hg9
       have p1:=hq9.1.q3.2.1
       have pf1:=hq9.1.f 1
       clear hl9 hg9 hq9 y0 z0 y1 n0 n1 n2 n3 n4 n5
       go_wp2
       go_roundw
       case rel=>exact ⟨i+1,b5,_,x5,_,_,xs++[(⟨kd,⟨r1,c1,z1⟩,⟨r2,c2,z2⟩⟩,(⟨r3,c3,z3⟩,⟨r4,c4,z4⟩))],HI13.out,by have:=HXI.out;omega,rfl,rfl,HX5.out.1,HX5.out.2,by rw[List.length_append,HXL.out];rfl,HNX.out,by rw[List.map_append,List.map_append];exact HX9.out⟩
       case measure=>have:=HXI.out;simp[intOf];omega
     ·have hin:i=k.toNat:=by have:=HXI.out;omega
      have HEE:=h_ (show E=some (xs,c.drop b) from HIN.out.done (by omega))
      have HSS:=h_ (show rdS (l.take (l.length - 2))=some ((n,xs),c.drop b) by rw[HE.out,HEE.out])
      have HDD:=h_ (show rdD l=if c.drop b=[]∧stF (n,xs)=0 then some (n,xs) else none by rw[rdD_in HFAR.out HSE.out,HSS.out])
      have HCH:=h_ (rstatefault_any (.slice oa i ok) (.slice ta2 i tk2) (xs.map (·.1)) (xs.map (·.2)) n V (HKN.out.ls.lys (by rw[List.length_map,HXL.out])) (HKN.out.ls.gds (by rw[List.length_map,HXL.out])))
      obtain ⟨F,hF⟩:=gN (stateE (xs.map (·.1)) (xs.map (·.2)) n)
      have HF:=h_ (show stF (n,xs)=F from hF)
      rw[hF]at HCH
      obtain ⟨s0,s1,s2⟩:=HKN.out.sb.q3
      clear hF hin
      go_wp2_with fail
      refine HCH.out.mono ?_
      rintro e w5 ⟨rfl,hb5⟩
      have HK5:=h_ (HKN.out.on hb5)
      clear hb5 s0 s1 s2
      by_cases hend:xe=(cn':Int)
      ·have hx2:(xe !=(cn':Int))=false:=by simpa using hend
       have HDR:=h_ (show c.drop b=[] from List.drop_of_length_le (by have h1:=HCN.out;have h2:=HXE.out;omega))
       clear hend
       by_cases hF0:F=0
       ·have hf2:(F !=0)=false:=by simpa using hF0
        have HYES:=h_ (show rdD l=some (n,xs) by rw[HDD.out,if_pos ⟨HDR.out,by rw[HF.out];exact hF0⟩])
        obtain ⟨s0,s1,s2⟩:=HK5.out.sb.q3
        obtain ⟨y0,y1,y2⟩:=HK5.out.rb.q3
        obtain ⟨z0,z1,z2⟩:=HK5.out.rb.f3
        have HFB:=h_ (bk3 HK5.out.rb (.slice oa i ok) (.slice ta2 i tk2) (.int .i64 n))
        obtain ⟨q0,q1,q2⟩:=HFB.out.q3
        have HGF:=h_ (grw3 w5 w.heap.size (.slice oa i ok) (.slice ta2 i tk2) (.int .i64 n))
        have HL5:=h_ (HK5.out.ls.low HGF.out (by omega))
        have HBF:=h_ (HK5.out.be.grown HGF.out HK5.out.be.size (fun k e=>by rw[←Option.some.inj e];exact Nat.le_refl _))
        clear hF0
        go_wp2
        exact bodyPost_ret (v:=.tuple #[.agg #[.slice oa i ok,.slice ta2 i tk2,.int .i64 n],.bool true]) (by simp[results,Tryd.results12,go_sem,q0,q1,q2]) rfl (LoEnd.mk_yes HBF.out HYES.out (HL5.out.lys (by rw[List.length_map,HXL.out])) (HL5.out.gds (by rw[List.length_map,HXL.out])))
       ·have hf2:(F !=0)=true:=by simpa using hF0
        have HNO:=h_ (show rdD l=none by rw[HDD.out,if_neg (fun h=>hF0 (by rw[←HF.out];exact h.2))])
        clear hF0
        obtain ⟨zz0,zz1,zz2⟩:=HK5.out.zb.q3
        obtain ⟨yy0,yy1,yy2⟩:=HK5.out.rb.q3
        obtain ⟨ff0,ff1,ff2⟩:=HK5.out.rb.f3
        have HFN:=h_ (bk3 HK5.out.rb (.slice none 0 0) (.slice none 0 0) (.int .i64 0))
        obtain ⟨qq0,qq1,qq2⟩:=HFN.out.q3
        have HGN:=h_ (grw3 w5 w.heap.size (.slice none 0 0) (.slice none 0 0) (.int .i64 0))
        have HBN:=h_ (HK5.out.be)
        have HBF:=h_ (HBN.out.grown HGN.out HBN.out.size (fun k e=>by rw[←Option.some.inj e];exact Nat.le_refl _))
        go_wp2
        exact bodyPost_ret (v:=.tuple #[.agg #[.slice none 0 0,.slice none 0 0,.int .i64 0],.bool false]) (by simp[results,Tryd.results12,go_sem,qq0,qq1,qq2]) rfl (LoEnd.mk_no HBF.out HNO.out)
      ·have hx2:(xe !=(cn':Int))=true:=by simpa using hend
       have HNO:=h_ (show rdD l=none by
        rw[HDD.out,if_neg (fun h=>hend ?_)]
        have h1:=congrArg List.length h.1
        rw[List.length_drop]at h1
        have h2:=HCN.out
        have h3:=HXE.out
        have h4:=HBL.out
        simp at h1
        omega)
       clear hend
       obtain ⟨zz0,zz1,zz2⟩:=HK5.out.zb.q3
       obtain ⟨yy0,yy1,yy2⟩:=HK5.out.rb.q3
       obtain ⟨ff0,ff1,ff2⟩:=HK5.out.rb.f3
       have HFN:=h_ (bk3 HK5.out.rb (.slice none 0 0) (.slice none 0 0) (.int .i64 0))
       obtain ⟨qq0,qq1,qq2⟩:=HFN.out.q3
       have HGN:=h_ (grw3 w5 w.heap.size (.slice none 0 0) (.slice none 0 0) (.int .i64 0))
       have HBN:=h_ (HK5.out.be)
       have HBF:=h_ (HBN.out.grown HGN.out HBN.out.size (fun k e=>by rw[←Option.some.inj e];exact Nat.le_refl _))
       go_wp2
       exact bodyPost_ret (v:=.tuple #[.agg #[.slice none 0 0,.slice none 0 0,.int .i64 0],.bool false]) (by simp[results,Tryd.results12,go_sem,qq0,qq1,qq2]) rfl (LoEnd.mk_no HBF.out HNO.out)
end Go.Proofs.YtaajlggpjholeajDoor
