/- What thereAndBack and reckon of package train come to, where nothing is wrong with the step: by how much the net is to be turned, and how far off it is. -/
import Derived.Test.YtniloklglpchfafPkTrainR
import Derived.Test.YtniloklglpchfafBatC2
import Derived.Test.YtniloklglpchfafLsOf
import Derived.Test.YtniloklglpchfafLsBack
import Derived.Test.YtniloklglpchfafNetC2
import Derived.Test.YtniloklglpchfafNetC3
import Derived.Test.YtniloklglpchfafNetC4
import Derived.Test.YtniloklglpchfafNetC6
namespace Go.Proofs.Ytniloklglpchfaf
open Go.RowKit
theorem prt_good{ls:List Ly}{d:Mx×Mx}{R C:Nat}(g1:Good (endX ls d.1) R C)(g2:Good d.2 R C):addE (endX ls d.1) d.2=0∧Good (prtG ls d) R C:=by
 have hE:=g1.addE g2
 refine ⟨hE,?_⟩
 unfold prtG offX
 rw[if_pos hE]
 exact ⟨g1.r,g1.c,g1.hR,g1.hC,by rw[tab_len,g1.l],tab_ends (fun q _=>by rw[ends_iff];exact cl_bd _)⟩
theorem prt_back{ls:List Ly}{d:Mx×Mx}{R C:Nat}(hg:ngE ls d.1=0)(g1:Good (endX ls d.1) R C)(g2:Good d.2 R C)(h:ls≠[]→nbE ls (ngX ls d.1) (prtG ls d)=0):nbE ls (ngX ls d.1) (prtG ls d)=0:=by
 by_cases h0:ls=[]
 ·subst h0
  have hX:ngX [] d.1=[d.1]:=by unfold ngX;rw[if_pos hg];rfl
  rw[hX]
  unfold nbE
  rw[if_neg (by decide),if_neg (by simp),if_pos rfl]
  exact (prt_good g1 g2).2.fault
 ·exact h h0
set_option maxHeartbeats 8000000 in
set_option maxRecDepth 100000 in
theorem trback_any(v:Value)(ls:List Ly)(d:Mx×Mx)(R C:Nat)(sa:Option Addr)(sn sk:Nat)(ta:Option Addr)(tn tk:Nat)(w:World)(hv:Y_ w v ls)(hs:I_ w (.slice sa sn sk) d.1.cells)(ht:I_ w (.slice ta tn tk) d.2.cells)(e1:ngE ls d.1=0)(g1:Good (endX ls d.1) R C)(g2:Good d.2 R C)(e2:nbE ls (ngX ls d.1) (prtG ls d)=0):
  Calls Try.prog 38 #[v,.agg #[.int .i64 d.1.rows,.int .i64 d.1.cols,.slice sa sn sk,.int .i64 d.2.rows,.int .i64 d.2.cols,.slice ta tn tk]] w fun e w'=>∃u,e=.returned (.tuple #[u,.int .i64 (prtX ls d),.nilIface])∧D_ w' u (prtD ls d)∧Below w.heap.size w w':=by
 obtain ⟨a,cap,rfl,_,hcm⟩:=hv.shape
 obtain ⟨hA,_⟩:=prt_good g1 g2
 have HA:=h_ hA
 have HE2:=h_ e2
 obtain ⟨V,hV⟩:=gM (w.alloc (.cells #[.int .i64 d.1.rows,.int .i64 d.1.cols,.slice sa sn sk,.int .i64 d.2.rows,.int .i64 d.2.cols,.slice ta tn tk] 42))
 have HV:=h_ hV
 have HWV:Hid (Below w.heap.size w V):=by rw[hV];exact h_ (o_ _ _)
 have HBX:Hid (Box V w.heap.size [.int .i64 d.1.rows,.int .i64 d.1.cols,.slice sa sn sk,.int .i64 d.2.rows,.int .i64 d.2.cols,.slice ta tn tk]):=by rw[hV];exact h_ (Box.new w _ 42 rfl)
 have HGO:=h_ (netgo_any (.slice a ls.length cap) (.agg #[.int .i64 d.1.rows,.int .i64 d.1.cols,.slice sa sn sk]) ls d.1 V (hv.u_ HWV.out) ⟨_,rfl,hs.u_ HWV.out⟩)
 rw[e1]at HGO
 have HAT:=h_ (show (ngX ls d.1)[ls.length]?=some (endX ls d.1) by unfold ngX;rw[if_pos e1];exact endX_at ls d.1)
 have HLN:=h_ (show (ngX ls d.1).length=ls.length+1 by unfold ngX;rw[if_pos e1,List.length_cons,runT_len])
 have h12:ls.length≤12:=by have:=((ngE_iff ls d.1).1 e1).1;omega
 have HVV:=h_ hv
 have HT:=h_ ht
 obtain ⟨N,hN⟩:=gN (ls.length)
 rw[hN]at HGO HAT HLN HVV h12 ⊢
 obtain ⟨d0,d1,d2⟩:=HBX.out.c3
 rw[HV.out]at d0 d1 d2
 clear hV hv hs ht e1 e2 g1 g2 hA hN hcm
 go_enter Try.func38,Try.ntmps38
 go_wp2_with fail
 rw[←HV.out]
 refine HGO.out.mono ?_
 rintro e w1 ⟨v',rfl,hm,hb1⟩
 rw[e_ rfl]
 obtain ⟨mb,mo,mk,za,zn,zk,rfl,m0,m1,m2,hz⟩:=hm.at HAT.out
 have HM:=h_ hm
 have HZ:=h_ hz
 have HB1:=h_ hb1
 have HW1:=h_ (b_ HWV.out hb1)
 obtain ⟨M,hM⟩:=gN ((ngX ls d.1).length)
 have hMN:M=N+1:=by rw[←hM];exact HLN.out
 rw[hM]at HM ⊢
 have hlt:(N:Int)<(M:Int):=by omega
 have hM13:(M:Int)≤13:=by omega
 obtain ⟨er,eer⟩:=gN ((endX ls d.1).rows)
 obtain ⟨ec,eec⟩:=gN ((endX ls d.1).cols)
 rw[eer]at m0
 rw[eec]at m1
 have HRC:=h_ (And.intro eer eec)
 have HGB:=h_ (show Box (w1.alloc (.cells #[.int .i64 er,.int .i64 ec,.slice za zn zk] 28)) w1.heap.size [.int .i64 er,.int .i64 ec,.slice za zn zk] from Box.new _ _ _ rfl)
 have HOF:=h_ (lof_any (.agg #[.int .i64 er,.int .i64 ec,.slice za zn zk]) (.agg #[.int .i64 d.2.rows,.int .i64 d.2.cols,.slice ta tn tk]) (endX ls d.1) d.2 (w1.alloc (.cells #[.int .i64 er,.int .i64 ec,.slice za zn zk] 28)) ⟨_,by rw[HRC.out.1,HRC.out.2],HZ.out.u_ (o_ _ _)⟩ ⟨_,rfl,HT.out.u_ (a_ HW1.out)⟩)
 rw[HA.out]at HOF
 have HPX:=h_ (show lossX (endX ls d.1) d.2=prtX ls d from rfl)
 rw[HPX.out]at HOF
 clear hm hz hb1 hM hMN eer eec d0 d1 d2 HGO
 obtain ⟨d3,d4,d5⟩:=((HBX.out.u_ HB1.out).u_ (o_ w1 (.cells #[.int .i64 er,.int .i64 ec,.slice za zn zk] 28))).c35
 go_wp2_with fail
 refine HOF.out.mono ?_
 rintro e w2 ⟨rfl,hb2⟩
 rw[e_ rfl]
 have HB2:=h_ (b_ (a_ HB1.out) hb2)
 have HW2:=h_ (b_ (a_ HW1.out) hb2)
 have H12:=h_ (b_ (o_ w1 (.cells #[.int .i64 er,.int .i64 ec,.slice za zn zk] 28)) hb2)
 have HG2:=h_ (HGB.out.u_ hb2)
 have HLB:=h_ (lsback_any (.agg #[.int .i64 er,.int .i64 ec,.slice za zn zk]) (.agg #[.int .i64 d.2.rows,.int .i64 d.2.cols,.slice ta tn tk]) (endX ls d.1) d.2 w2 ⟨_,by rw[HRC.out.1,HRC.out.2],HZ.out.u_ H12.out⟩ ⟨_,rfl,HT.out.u_ HW2.out⟩)
 rw[HA.out]at HLB
 clear hb2 HOF m0 m1 m2 d3 d4 d5 hlt
 obtain ⟨b0,b1,b2⟩:=HG2.out.c3
 obtain ⟨d3,d4,d5⟩:=(HBX.out.u_ HB2.out).c35
 go_wp2_with fail
 refine HLB.out.mono ?_
 rintro e w3 ⟨v3,rfl,⟨sg,rfl,hsg⟩,hb3,_⟩
 obtain ⟨ga,gn,gk,rfl⟩:=hsg.shape
 rw[e_ rfl]
 have HW3:=h_ (b_ HW2.out hb3)
 have H13:=h_ (b_ H12.out hb3)
 have HSG:=h_ hsg
 have HPG:=h_ (show offX (endX ls d.1) d.2=prtG ls d from rfl)
 rw[HPG.out]at HSG ⊢
 obtain ⟨gr,egr⟩:=gN ((prtG ls d).rows)
 obtain ⟨gc,egc⟩:=gN ((prtG ls d).cols)
 rw[egr,egc]
 have HOB:=h_ (show Box (w3.alloc (.cells #[.int .i64 gr,.int .i64 gc,.slice ga gn gk] 28)) w3.heap.size [.int .i64 gr,.int .i64 gc,.slice ga gn gk] from Box.new _ _ _ rfl)
 have HBK:=h_ (netback_any (.slice a N cap) (.slice (some ⟨mb,mo,none⟩) M mk) (.agg #[.int .i64 gr,.int .i64 gc,.slice ga gn gk]) ls (ngX ls d.1) (prtG ls d) (w3.alloc (.cells #[.int .i64 gr,.int .i64 gc,.slice ga gn gk] 28)) (HVV.out.u_ (a_ HW3.out)) (HM.out.u_ (a_ H13.out)) ⟨_,by rw[egr,egc],HSG.out.u_ (o_ _ _)⟩)
 rw[HE2.out]at HBK
 clear hsg hb3 egr egc b0 b1 b2 d3 d4 d5 HLB
 go_wp2_with fail
 refine HBK.out.mono ?_
 rintro e w4 ⟨vx,vd,rfl,⟨sx,rfl,hsx⟩,hd,hb4⟩
 obtain ⟨ua,un,uk,rfl⟩:=hsx.shape
 rw[e_ rfl]
 have HW4:=h_ (b_ (a_ HW3.out) hb4)
 have HD:=h_ (show D_ w4 vd (prtD ls d) from hd)
 obtain ⟨xr,exr⟩:=gN ((nbX ls (ngX ls d.1) (prtG ls d)).rows)
 obtain ⟨xc,exc⟩:=gN ((nbX ls (ngX ls d.1) (prtG ls d)).cols)
 rw[exr,exc]
 clear hsx hd hb4 exr exc HBK
 go_wp2
 exact bodyPost_ret (v:=.tuple #[vd,.int .i64 (prtX ls d),.nilIface]) (by simp[results,Try.results38,go_sem]) rfl ⟨_,rfl,HD.out.u_ (o_ _ _),a_ HW4.out⟩
set_option maxHeartbeats 8000000 in
set_option maxRecDepth 100000 in
theorem trreckon_any(v:Value)(ls:List Ly)(b:Mx×Mx)(parts:Int)(sa:Option Addr)(sn sk:Nat)(ta:Option Addr)(tn tk:Nat)(w:World)(hv:Y_ w v ls)(hs:I_ w (.slice sa sn sk) b.1.cells)(ht:I_ w (.slice ta tn tk) b.2.cells)(h12:ls.length≤12)(hgd:∀l∈ls,q_ l.w=0∧q_ l.b=0)(hE:splE b parts=0)
  (hq:∀d∈splX b parts,ngE ls d.1=0∧(∃R C,Good (endX ls d.1) R C∧Good d.2 R C)∧(ls≠[]→nbE ls (ngX ls d.1) (prtG ls d)=0)):
  Calls Try.prog 19 #[v,.agg #[.int .i64 b.1.rows,.int .i64 b.1.cols,.slice sa sn sk,.int .i64 b.2.rows,.int .i64 b.2.cols,.slice ta tn tk],.int .i64 parts] w fun e w'=>∃u,e=.returned (.tuple #[u,.int .i64 (sumAt ls (splX b parts)),.nilIface])∧D_ w' u (byAt ls (splX b parts))∧Below w.heap.size w w':=by
 obtain ⟨a,cap,rfl,_,hcm⟩:=hv.shape
 have HSZ:=h_ (show ∀l∈ls,l.w.cells.length≤17592186043904∧l.b.cells.length≤17592186043904 from fun l hl=>by
  obtain ⟨fw,fb⟩:=hgd l hl
  obtain ⟨R,C,gw⟩:=o__ fw
  obtain ⟨R2,C2,gb⟩:=o__ fb
  have h1:=Nat.mul_le_mul gw.hR gw.hC
  have h2:=Nat.mul_le_mul gb.hR gb.hC
  rw[gw.l,gb.l]
  omega)
 have HZF:=h_ (zero_fits ls hgd)
 have HQ4:=h_ hq
 have HVV:=h_ hv
 obtain ⟨V,hV⟩:=gM (w.alloc (.cells #[.int .i64 b.1.rows,.int .i64 b.1.cols,.slice sa sn sk,.int .i64 b.2.rows,.int .i64 b.2.cols,.slice ta tn tk] 42))
 have HV:=h_ hV
 have HWV:Hid (Below w.heap.size w V):=by rw[hV];exact h_ (o_ _ _)
 have HBX:Hid (Box V w.heap.size [.int .i64 b.1.rows,.int .i64 b.1.cols,.slice sa sn sk,.int .i64 b.2.rows,.int .i64 b.2.cols,.slice ta tn tk]):=by rw[hV];exact h_ (Box.new w _ 42 rfl)
 have HSP:=h_ (bsplit_any b parts sa sn sk ta tn tk V (hs.u_ HWV.out) (ht.u_ HWV.out))
 rw[hE]at HSP
 have HZ:=h_ (fun W (h:Below w.heap.size w W)=>netzero_any (.slice a ls.length cap) ls W (hv.u_ h) (by omega) HSZ.out)
 have hKm:(splX b parts).length≤12:=by
  have h:splE b parts=0:=hE
  unfold splX
  rw[if_pos h,List.length_map,List.length_range]
  unfold splE at h
  by_cases z1:batE b=0
  ·rw[if_neg (by simp[z1])]at h
   unfold szE at h
   by_cases z2:b.1.rows<1∨24<b.1.rows∨parts<1∨12<parts
   ·rw[if_pos z2]at h;cases h
   ·omega
  ·rw[if_pos z1]at h;exact absurd h z1
 have HH12:=h_ h12
 obtain ⟨N,hN⟩:=gN (ls.length)
 rw[hN]at HZ HVV ⊢
 have HL:=h_ hN
 obtain ⟨d0,d1,d2,d3,d4,d5⟩:=HBX.out.c6
 rw[HV.out]at d0 d1 d2 d3 d4 d5
 clear hV hv hs ht hgd hE hq hN hcm h12
 go_enter Try.func19,Try.ntmps19
 go_wp2_with fail
 rw[←HV.out]
 refine HSP.out.mono ?_
 rintro e w1 ⟨u,rfl,hu,hb1⟩
 rw[e_ rfl]
 have HW1:=h_ (b_ HWV.out hb1)
 have HOU:=h_ hu
 obtain ⟨ua,ucap,rfl,_,hucm⟩:=(show D_ w1 u (splX b parts) from hu).shape
 obtain ⟨K,hK⟩:=gN ((splX b parts).length)
 have HK:=h_ hK
 rw[hK]at HOU hKm ⊢
 clear hu hb1 hK hucm d0 d1 d2 d3 d4 d5 HSP
 go_wp2_with fail
 refine (HZ.out _ HW1.out).mono ?_
 rintro e w2 ⟨z,rfl,hz,hb2⟩
 have HW2:=h_ (b_ HW1.out hb2)
 have HZI:=h_ hz
 replace HOU:=h_ (show D_ w2 (.slice ua K ucap) (splX b parts) from (show D_ w1 (.slice ua K ucap) (splX b parts) from HOU.out).u_ hb2)
 clear hz hb2 HZ
 go_wp2
 go_loopw [11,12,31] (fun y s c wr=>∃(i:Nat) (xi:Int),i≤K∧xi=(i:Int)∧c=.int .i64 xi∧s=.int .i64 (sumAt ls ((splX b parts).take i))∧D_ wr y (byAt ls ((splX b parts).take i))∧Below w2.heap.size w2 wr) (fun _ _ c _=>K - (intOf c).toNat)
 case atStart=>exact ⟨0,0,Nat.zero_le _,rfl,rfl,rfl,HZI.out,Below.refl _ _⟩
 case round=>
  obtain ⟨i,xi,hi,hxi,rfl,rfl,hy,hb⟩:=hrel
  have HXI:=h_ hxi
  have HY:=h_ hy
  have HBP:=h_ hb
  have hxi0:0≤xi:=by omega
  have hxi1:xi≤12:=by omega
  obtain ⟨sm,esm⟩:=gN (sumAt ls ((splX b parts).take i))
  have HSM:=h_ esm
  rw[esm]
  clear hxi hy hb esm
  by_cases hlt:xi<(K:Int)
  ·have hin:i<K:=by have:=HXI.out;omega
   have hxn:xi.toNat=i:=by have:=HXI.out;omega
   obtain ⟨d,hd⟩:∃x,(splX b parts)[i]?=some x:=⟨(splX b parts)[i]'(by have:=HK.out;omega),List.getElem?_eq_getElem _⟩
   obtain ⟨ub,uo,uc,xa,xn,xk,ya,yn,yk,ev,c0,c1,c2,c3,c4,c5,hdw,hdb⟩:=HOU.out.at hd
   obtain rfl:=(Value.slice.inj ev).1
   obtain ⟨p1,⟨R,C,p2,p3⟩,p4⟩:=HQ4.out d (List.mem_of_getElem? hd)
   rw[←hxn]at c0 c1 c2 c3 c4 c5
   replace c0:=c_ HBP.out c0
   replace c1:=c_ HBP.out c1
   replace c2:=c_ HBP.out c2
   replace c3:=c_ HBP.out c3
   replace c4:=c_ HBP.out c4
   replace c5:=c_ HBP.out c5
   have HTK:=h_ (take_end hd)
   have HDF:=h_ (prt_fits p4)
   have HT:=h_ (trback_any (.slice a N cap) ls d R C xa xn xk ya yn yk (wr.alloc (.cells #[.int .i64 d.1.rows,.int .i64 d.1.cols,.slice xa xn xk,.int .i64 d.2.rows,.int .i64 d.2.cols,.slice ya yn yk] 42)) (HVV.out.u_ (a_ (b_ HW2.out HBP.out))) (hdw.u_ (a_ HBP.out)) (hdb.u_ (a_ HBP.out)) p1 p2 p3 (prt_back p1 p2 p3 p4))
   obtain ⟨px,epx⟩:=gN (prtX ls d)
   rw[epx]at HT
   have HPX:=h_ epx
   have HBF:=h_ (by_fits HZF.out ((splX b parts).take i) (fun e he=>prt_fits (HQ4.out e (List.mem_of_mem_take he)).2.2))
   have HGL:=h_ (show (byAt ls ((splX b parts).take i)).length≤1759218604390 by rw[HBF.out.len];have:=HH12.out;omega)
   have HGE:=h_ (ga_fits HBF.out HDF.out).1
   have HBN:=h_ (show byAt ls ((splX b parts).take (i+1))=gaX (byAt ls ((splX b parts).take i)) (prtD ls d) by rw[HTK.out,byAt_snoc])
   have HSN:=h_ (show sumAt ls ((splX b parts).take (i+1))=ad sm px by rw[HTK.out,sumAt_snoc,HSM.out,HPX.out])
   clear ev hdw hdb p1 p2 p3 p4 hd hxn epx
   go_wp2_with fail
   refine HT.out.mono ?_
   rintro e w3 ⟨dv,rfl,hdv,hb3⟩
   obtain ⟨da,dk,rfl,_,_⟩:=hdv.shape
   have HDV:=h_ hdv
   have HBQ:=h_ (show Below wr.heap.size wr w3 from b_ (o_ _ _) hb3)
   have HGA:=h_ (netgather_any _ _ (byAt ls ((splX b parts).take i)) (prtD ls d) w3 (HY.out.u_ HBQ.out) HDV.out HGL.out)
   rw[HGE.out,←HBN.out]at HGA
   clear hdv hb3 HT c0 c1 c2 c3 c4 c5
   go_wp2_with fail
   refine HGA.out.mono ?_
   rintro e w4 ⟨y4,rfl,hy4,hb4⟩
   rw[e_ rfl]
   have HY4:=h_ hy4
   have HB4:=h_ (b_ HBP.out (b_ HBQ.out hb4))
   clear hy4 hb4 HGA
   go_wp2_with fail
   refine (add_any sm px w4).mono ?_
   rintro e w5 ⟨rfl,rfl⟩
   go_wp2
   go_roundw
   case rel=>exact ⟨i+1,_,by omega,by have:=HXI.out;omega,rfl,by rw[HSN.out],HY4.out,HB4.out⟩
   case measure=>have:=HXI.out;simp[intOf];omega
  ·have hin:i=K:=by have:=HXI.out;omega
   have htk:(splX b parts).take i=splX b parts:=by rw[hin,←HK.out,List.take_length]
   rw[htk]at HSM
   replace HY:=h_ (show D_ wr u11 (byAt ls (splX b parts)) by rw[←htk];exact HY.out)
   have HWR:=h_ (b_ HW2.out HBP.out)
   clear hin htk
   go_wp2
   exact bodyPost_ret (v:=.tuple #[u11,.int .i64 sm,.nilIface]) (by simp[results,Try.results19,go_sem]) rfl ⟨_,by rw[HSM.out],HY.out,HWR.out⟩
end Go.Proofs.Ytniloklglpchfaf
