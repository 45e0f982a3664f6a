/- What thereAndBack and reckon of package train come to, where nothing is wrong with the step: by how much the net is to be turned, and how far off it is. -/
import Derived.Test.YtniloklglpchfakGreatPkTrainQ
import Derived.Test.YtniloklglpchfakGreatPkBatC1
import Derived.Test.YtniloklglpchfakGreatPkLsBoth
import Derived.Test.YtniloklglpchfakGreatLsBack
import Derived.Test.YtniloklglpchfakGreatPkNetC2
import Derived.Test.YtniloklglpchfakGreatNetC4
import Derived.Test.YtniloklglpchfakGreatNetC6
import Derived.Test.YtniloklglpchfakGreatPkLvOf
import Derived.Test.YtniloklglpchfakGreatPkWrR1
import Derived.Deep.CutRange
import Derived.Test.YtniloklglpchfakGreatPkFix
import Derived.Laws.OwnMore
namespace Go.Proofs.YtniloklglpchfakGreat
open Go.RowKit
theorem prt_good{ls:List Ly}{d:Mx×Mx}{R C:Nat}(g1:Good (endX ls d.1) R C)(g2:Good d.2 R C):addE (endX ls d.1) d.2=0∧Good (prtG ls d) R C:=by
 have hE:=g1.addE g2
 refine ⟨hE,?_⟩
 unfold prtG offX
 rw[if_pos hE]
 exact ⟨g1.r,g1.c,g1.hR,g1.hC,by rw[tab_len,g1.l],tab_ends (fun q _=>by rw[ends_iff];exact cl_bd _)⟩
theorem prt_back{ls:List Ly}{d:Mx×Mx}{R C:Nat}(hg:ngE ls d.1=0)(g1:Good (endX ls d.1) R C)(g2:Good d.2 R C)(h:ls≠[]→nbE ls (ngX ls d.1) (prtG ls d)=0):nbE ls (ngX ls d.1) (prtG ls d)=0:=by
 by_cases h0:ls=[]
 ·subst h0
  have hX:ngX [] d.1=[d.1]:=by unfold ngX;rw[if_pos hg];rfl
  rw[hX]
  unfold nbE
  rw[if_neg (by decide),if_neg (by simp),if_pos rfl]
  exact (prt_good g1 g2).2.fault
 ·exact h h0
set_option maxHeartbeats 8000000 in
set_option maxRecDepth 100000 in
theorem trback_any(v:Value)(ls:List Ly)(d:Mx×Mx)(R C:Nat)(sa:Option Addr)(sn sk:Nat)(ta:Option Addr)(tn tk:Nat)(w:World)(hv:Y_ w v ls)(hs:I_ w (.slice sa sn sk) d.1.cells)(ht:I_ w (.slice ta tn tk) d.2.cells)(e1:ngE ls d.1=0)(g1:Good (endX ls d.1) R C)(g2:Good d.2 R C)(e2:nbE ls (ngX ls d.1) (prtG ls d)=0):
  Calls Tryz.prog 56 #[v,.agg #[.int .i64 d.1.rows,.int .i64 d.1.cols,.slice sa sn sk,.int .i64 d.2.rows,.int .i64 d.2.cols,.slice ta tn tk]] w fun e w'=>∃u,e=.returned (.tuple #[u,.int .i64 (prtX ls d),.nilIface])∧D_ w' u (prtD ls d)∧Below w.heap.size w w':=by
 obtain ⟨a,cap,rfl,_,hcm⟩:=hv.shape
 obtain ⟨hA,_⟩:=prt_good g1 g2
 have HA:=h_ hA
 have HE2:=h_ e2
 obtain ⟨V,hV⟩:=gM (w.alloc (.cells #[.int .i64 d.1.rows,.int .i64 d.1.cols,.slice sa sn sk,.int .i64 d.2.rows,.int .i64 d.2.cols,.slice ta tn tk] 30))
 have HV:=h_ hV
 have HWV:Hid (Below w.heap.size w V):=by rw[hV];exact h_ (o_ _ _)
 have HBX:Hid (Box V w.heap.size [.int .i64 d.1.rows,.int .i64 d.1.cols,.slice sa sn sk,.int .i64 d.2.rows,.int .i64 d.2.cols,.slice ta tn tk]):=by rw[hV];exact h_ (Box.new w _ 30 rfl)
 have HGO:=h_ (netgo_any (.slice a ls.length cap) (.agg #[.int .i64 d.1.rows,.int .i64 d.1.cols,.slice sa sn sk]) ls d.1 V (hv.u_ HWV.out) ⟨_,rfl,hs.u_ HWV.out⟩)
 rw[e1]at HGO
 have HAT:=h_ (show (ngX ls d.1)[ls.length]?=some (endX ls d.1) by unfold ngX;rw[if_pos e1];exact endX_at ls d.1)
 have HLN:=h_ (show (ngX ls d.1).length=ls.length+1 by unfold ngX;rw[if_pos e1,List.length_cons,runT_len])
 have h12:ls.length≤12:=by have:=((ngE_iff ls d.1).1 e1).1;omega
 have HVV:=h_ hv
 have HT:=h_ ht
 obtain ⟨N,hN⟩:=gN (ls.length)
 rw[hN]at HGO HAT HLN HVV h12 ⊢
 obtain ⟨d0,d1,d2⟩:=HBX.out.c3
 rw[HV.out]at d0 d1 d2
 clear hV hv hs ht e1 e2 g1 g2 hA hN hcm
 go_enter Tryz.func56,Tryz.ntmps56
 go_wp2_with fail
 rw[←HV.out]
 refine HGO.out.mono ?_
 rintro e w1 ⟨v',rfl,hm,hb1⟩
 rw[e_ rfl]
 obtain ⟨mb,mo,mk,za,zn,zk,rfl,m0,m1,m2,hz⟩:=hm.at HAT.out
 have HM:=h_ hm
 have HZ:=h_ hz
 have HB1:=h_ hb1
 have HW1:=h_ (b_ HWV.out hb1)
 obtain ⟨M,hM⟩:=gN ((ngX ls d.1).length)
 have hMN:M=N+1:=by rw[←hM];exact HLN.out
 rw[hM]at HM ⊢
 have hlt:(N:Int)<(M:Int):=by omega
 have hM13:(M:Int)≤13:=by omega
 obtain ⟨er,eer⟩:=gN ((endX ls d.1).rows)
 obtain ⟨ec,eec⟩:=gN ((endX ls d.1).cols)
 rw[eer]at m0
 rw[eec]at m1
 have HRC:=h_ (And.intro eer eec)
 have HGB:=h_ (show Box (w1.alloc (.cells #[.int .i64 er,.int .i64 ec,.slice za zn zk] 28)) w1.heap.size [.int .i64 er,.int .i64 ec,.slice za zn zk] from Box.new _ _ _ rfl)
 have HOF:=h_ (lof_any (.agg #[.int .i64 er,.int .i64 ec,.slice za zn zk]) (.agg #[.int .i64 d.2.rows,.int .i64 d.2.cols,.slice ta tn tk]) (endX ls d.1) d.2 (w1.alloc (.cells #[.int .i64 er,.int .i64 ec,.slice za zn zk] 28)) ⟨_,by rw[HRC.out.1,HRC.out.2],HZ.out.u_ (o_ _ _)⟩ ⟨_,rfl,HT.out.u_ (a_ HW1.out)⟩)
 rw[HA.out]at HOF
 have HPX:=h_ (show lossX (endX ls d.1) d.2=prtX ls d from rfl)
 rw[HPX.out]at HOF
 clear hm hz hb1 hM hMN eer eec d0 d1 d2 HGO
 obtain ⟨d3,d4,d5⟩:=((HBX.out.u_ HB1.out).u_ (o_ w1 (.cells #[.int .i64 er,.int .i64 ec,.slice za zn zk] 28))).c35
 go_wp2_with fail
 refine HOF.out.mono ?_
 rintro e w2 ⟨rfl,hb2⟩
 rw[e_ rfl]
 have HB2:=h_ (b_ (a_ HB1.out) hb2)
 have HW2:=h_ (b_ (a_ HW1.out) hb2)
 have H12:=h_ (b_ (o_ w1 (.cells #[.int .i64 er,.int .i64 ec,.slice za zn zk] 28)) hb2)
 have HG2:=h_ (HGB.out.u_ hb2)
 have HLB:=h_ (lsback_any (.agg #[.int .i64 er,.int .i64 ec,.slice za zn zk]) (.agg #[.int .i64 d.2.rows,.int .i64 d.2.cols,.slice ta tn tk]) (endX ls d.1) d.2 w2 ⟨_,by rw[HRC.out.1,HRC.out.2],HZ.out.u_ H12.out⟩ ⟨_,rfl,HT.out.u_ HW2.out⟩)
 rw[HA.out]at HLB
 clear hb2 HOF m0 m1 m2 d3 d4 d5 hlt
 obtain ⟨b0,b1,b2⟩:=HG2.out.c3
 obtain ⟨d3,d4,d5⟩:=(HBX.out.u_ HB2.out).c35
 go_wp2_with fail
 refine HLB.out.mono ?_
 rintro e w3 ⟨v3,rfl,⟨sg,rfl,hsg⟩,hb3,_⟩
 obtain ⟨ga,gn,gk,rfl⟩:=hsg.shape
 rw[e_ rfl]
 have HW3:=h_ (b_ HW2.out hb3)
 have H13:=h_ (b_ H12.out hb3)
 have HSG:=h_ hsg
 have HPG:=h_ (show offX (endX ls d.1) d.2=prtG ls d from rfl)
 rw[HPG.out]at HSG ⊢
 obtain ⟨gr,egr⟩:=gN ((prtG ls d).rows)
 obtain ⟨gc,egc⟩:=gN ((prtG ls d).cols)
 rw[egr,egc]
 have HOB:=h_ (show Box (w3.alloc (.cells #[.int .i64 gr,.int .i64 gc,.slice ga gn gk] 28)) w3.heap.size [.int .i64 gr,.int .i64 gc,.slice ga gn gk] from Box.new _ _ _ rfl)
 have HBK:=h_ (netback_any (.slice a N cap) (.slice (some ⟨mb,mo,none⟩) M mk) (.agg #[.int .i64 gr,.int .i64 gc,.slice ga gn gk]) ls (ngX ls d.1) (prtG ls d) (w3.alloc (.cells #[.int .i64 gr,.int .i64 gc,.slice ga gn gk] 28)) (HVV.out.u_ (a_ HW3.out)) (HM.out.u_ (a_ H13.out)) ⟨_,by rw[egr,egc],HSG.out.u_ (o_ _ _)⟩)
 rw[HE2.out]at HBK
 clear hsg hb3 egr egc b0 b1 b2 d3 d4 d5 HLB
 go_wp2_with fail
 refine HBK.out.mono ?_
 rintro e w4 ⟨vx,vd,rfl,⟨sx,rfl,hsx⟩,hd,hb4⟩
 obtain ⟨ua,un,uk,rfl⟩:=hsx.shape
 rw[e_ rfl]
 have HW4:=h_ (b_ (a_ HW3.out) hb4)
 have HD:=h_ (show D_ w4 vd (prtD ls d) from hd)
 obtain ⟨xr,exr⟩:=gN ((nbX ls (ngX ls d.1) (prtG ls d)).rows)
 obtain ⟨xc,exc⟩:=gN ((nbX ls (ngX ls d.1) (prtG ls d)).cols)
 rw[exr,exc]
 clear hsx hd hb4 exr exc HBK
 go_wp2
 exact bodyPost_ret (v:=.tuple #[vd,.int .i64 (prtX ls d),.nilIface]) (by simp[results,Tryz.results56,go_sem]) rfl ⟨_,rfl,HD.out.u_ (o_ _ _),a_ HW4.out⟩
set_option maxHeartbeats 8000000 in
set_option maxRecDepth 100000 in
theorem trreckon_any(v:Value)(ls:List Ly)(b:Mx×Mx)(parts:Int)(sa:Option Addr)(sn sk:Nat)(ta:Option Addr)(tn tk:Nat)(w:World)(hv:Y_ w v ls)(hs:I_ w (.slice sa sn sk) b.1.cells)(ht:I_ w (.slice ta tn tk) b.2.cells)(h12:ls.length≤12)(hgd:∀l∈ls,q_ l.w=0∧q_ l.b=0)(hE:splE b parts=0)
  (hq:∀d∈splX b parts,ngE ls d.1=0∧(∃R C,Good (endX ls d.1) R C∧Good d.2 R C)∧(ls≠[]→nbE ls (ngX ls d.1) (prtG ls d)=0)):
  Calls Tryz.prog 24 #[v,.agg #[.int .i64 b.1.rows,.int .i64 b.1.cols,.slice sa sn sk,.int .i64 b.2.rows,.int .i64 b.2.cols,.slice ta tn tk],.int .i64 parts] w fun e w'=>∃u,e=.returned (.tuple #[u,.int .i64 (sumAt ls (splX b parts)),.nilIface])∧D_ w' u (byAt ls (splX b parts))∧Below w.heap.size w w':=by
 obtain ⟨a,cap,rfl,_,hcm⟩:=hv.shape
 have HSZ:=h_ (show ∀l∈ls,l.w.cells.length≤17592186043904∧l.b.cells.length≤17592186043904 from fun l hl=>by
  obtain ⟨fw,fb⟩:=hgd l hl
  obtain ⟨R,C,gw⟩:=o__ fw
  obtain ⟨R2,C2,gb⟩:=o__ fb
  have h1:=Nat.mul_le_mul gw.hR gw.hC
  have h2:=Nat.mul_le_mul gb.hR gb.hC
  rw[gw.l,gb.l]
  omega)
 have HZF:=h_ (zero_fits ls hgd)
 have HQ4:=h_ hq
 have HVV:=h_ hv
 obtain ⟨V,hV⟩:=gM (w.alloc (.cells #[.int .i64 b.1.rows,.int .i64 b.1.cols,.slice sa sn sk,.int .i64 b.2.rows,.int .i64 b.2.cols,.slice ta tn tk] 30))
 have HV:=h_ hV
 have HWV:Hid (Below w.heap.size w V):=by rw[hV];exact h_ (o_ _ _)
 have HBX:Hid (Box V w.heap.size [.int .i64 b.1.rows,.int .i64 b.1.cols,.slice sa sn sk,.int .i64 b.2.rows,.int .i64 b.2.cols,.slice ta tn tk]):=by rw[hV];exact h_ (Box.new w _ 30 rfl)
 have HSP:=h_ (bsplit_any b parts sa sn sk ta tn tk V (hs.u_ HWV.out) (ht.u_ HWV.out))
 rw[hE]at HSP
 have HZ:=h_ (fun W (h:Below w.heap.size w W)=>netzero_any (.slice a ls.length cap) ls W (hv.u_ h) (by omega) HSZ.out)
 have hKm:(splX b parts).length≤12:=by
  have h:splE b parts=0:=hE
  unfold splX
  rw[if_pos h,List.length_map,List.length_range]
  unfold splE at h
  by_cases z1:batE b=0
  ·rw[if_neg (by simp[z1])]at h
   unfold szE at h
   by_cases z2:b.1.rows<1∨24<b.1.rows∨parts<1∨12<parts
   ·rw[if_pos z2]at h;cases h
   ·omega
  ·rw[if_pos z1]at h;exact absurd h z1
 have HH12:=h_ h12
 obtain ⟨N,hN⟩:=gN (ls.length)
 rw[hN]at HZ HVV ⊢
 have HL:=h_ hN
 obtain ⟨d0,d1,d2,d3,d4,d5⟩:=HBX.out.c6
 rw[HV.out]at d0 d1 d2 d3 d4 d5
 clear hV hv hs ht hgd hE hq hN hcm h12
 go_enter Tryz.func24,Tryz.ntmps24
 go_wp2_with fail
 rw[←HV.out]
 refine HSP.out.mono ?_
 rintro e w1 ⟨u,rfl,hu,hb1⟩
 rw[e_ rfl]
 have HW1:=h_ (b_ HWV.out hb1)
 have HOU:=h_ hu
 obtain ⟨ua,ucap,rfl,_,hucm⟩:=(show D_ w1 u (splX b parts) from hu).shape
 obtain ⟨K,hK⟩:=gN ((splX b parts).length)
 have HK:=h_ hK
 rw[hK]at HOU hKm ⊢
 clear hu hb1 hK hucm d0 d1 d2 d3 d4 d5 HSP
 go_wp2_with fail
 refine (HZ.out _ HW1.out).mono ?_
 rintro e w2 ⟨z,rfl,hz,hb2⟩
 have HW2:=h_ (b_ HW1.out hb2)
 have HZI:=h_ hz
 replace HOU:=h_ (show D_ w2 (.slice ua K ucap) (splX b parts) from (show D_ w1 (.slice ua K ucap) (splX b parts) from HOU.out).u_ hb2)
 clear hz hb2 HZ
 go_wp2
 go_loopw [11,12,31] (fun y s c wr=>∃(i:Nat) (xi:Int),i≤K∧xi=(i:Int)∧c=.int .i64 xi∧s=.int .i64 (sumAt ls ((splX b parts).take i))∧D_ wr y (byAt ls ((splX b parts).take i))∧Below w2.heap.size w2 wr) (fun _ _ c _=>K - (intOf c).toNat)
 case atStart=>exact ⟨0,0,Nat.zero_le _,rfl,rfl,rfl,HZI.out,Below.refl _ _⟩
 case round=>
  obtain ⟨i,xi,hi,hxi,rfl,rfl,hy,hb⟩:=hrel
  have HXI:=h_ hxi
  have HY:=h_ hy
  have HBP:=h_ hb
  have hxi0:0≤xi:=by omega
  have hxi1:xi≤12:=by omega
  obtain ⟨sm,esm⟩:=gN (sumAt ls ((splX b parts).take i))
  have HSM:=h_ esm
  rw[esm]
  clear hxi hy hb esm
  by_cases hlt:xi<(K:Int)
  ·have hin:i<K:=by have:=HXI.out;omega
   have hxn:xi.toNat=i:=by have:=HXI.out;omega
   obtain ⟨d,hd⟩:∃x,(splX b parts)[i]?=some x:=⟨(splX b parts)[i]'(by have:=HK.out;omega),List.getElem?_eq_getElem _⟩
   obtain ⟨ub,uo,uc,xa,xn,xk,ya,yn,yk,ev,c0,c1,c2,c3,c4,c5,hdw,hdb⟩:=HOU.out.at hd
   obtain rfl:=(Value.slice.inj ev).1
   obtain ⟨p1,⟨R,C,p2,p3⟩,p4⟩:=HQ4.out d (List.mem_of_getElem? hd)
   rw[←hxn]at c0 c1 c2 c3 c4 c5
   replace c0:=c_ HBP.out c0
   replace c1:=c_ HBP.out c1
   replace c2:=c_ HBP.out c2
   replace c3:=c_ HBP.out c3
   replace c4:=c_ HBP.out c4
   replace c5:=c_ HBP.out c5
   have HTK:=h_ (take_end hd)
   have HDF:=h_ (prt_fits p4)
   have HT:=h_ (trback_any (.slice a N cap) ls d R C xa xn xk ya yn yk (wr.alloc (.cells #[.int .i64 d.1.rows,.int .i64 d.1.cols,.slice xa xn xk,.int .i64 d.2.rows,.int .i64 d.2.cols,.slice ya yn yk] 30)) (HVV.out.u_ (a_ (b_ HW2.out HBP.out))) (hdw.u_ (a_ HBP.out)) (hdb.u_ (a_ HBP.out)) p1 p2 p3 (prt_back p1 p2 p3 p4))
   obtain ⟨px,epx⟩:=gN (prtX ls d)
   rw[epx]at HT
   have HPX:=h_ epx
   have HBF:=h_ (by_fits HZF.out ((splX b parts).take i) (fun e he=>prt_fits (HQ4.out e (List.mem_of_mem_take he)).2.2))
   have HGL:=h_ (show (byAt ls ((splX b parts).take i)).length≤1759218604390 by rw[HBF.out.len];have:=HH12.out;omega)
   have HGE:=h_ (ga_fits HBF.out HDF.out).1
   have HBN:=h_ (show byAt ls ((splX b parts).take (i+1))=gaX (byAt ls ((splX b parts).take i)) (prtD ls d) by rw[HTK.out,byAt_snoc])
   have HSN:=h_ (show sumAt ls ((splX b parts).take (i+1))=ad sm px by rw[HTK.out,sumAt_snoc,HSM.out,HPX.out])
   clear ev hdw hdb p1 p2 p3 p4 hd hxn epx
   go_wp2_with fail
   refine HT.out.mono ?_
   rintro e w3 ⟨dv,rfl,hdv,hb3⟩
   obtain ⟨da,dk,rfl,_,_⟩:=hdv.shape
   have HDV:=h_ hdv
   have HBQ:=h_ (show Below wr.heap.size wr w3 from b_ (o_ _ _) hb3)
   have HGA:=h_ (netgather_any _ _ (byAt ls ((splX b parts).take i)) (prtD ls d) w3 (HY.out.u_ HBQ.out) HDV.out HGL.out)
   rw[HGE.out,←HBN.out]at HGA
   clear hdv hb3 HT c0 c1 c2 c3 c4 c5
   go_wp2_with fail
   refine HGA.out.mono ?_
   rintro e w4 ⟨y4,rfl,hy4,hb4⟩
   rw[e_ rfl]
   have HY4:=h_ hy4
   have HB4:=h_ (b_ HBP.out (b_ HBQ.out hb4))
   clear hy4 hb4 HGA
   go_wp2_with fail
   refine (add_any sm px w4).mono ?_
   rintro e w5 ⟨rfl,rfl⟩
   go_wp2
   go_roundw
   case rel=>exact ⟨i+1,_,by omega,by have:=HXI.out;omega,rfl,by rw[HSN.out],HY4.out,HB4.out⟩
   case measure=>have:=HXI.out;simp[intOf];omega
  ·have hin:i=K:=by have:=HXI.out;omega
   have htk:(splX b parts).take i=splX b parts:=by rw[hin,←HK.out,List.take_length]
   rw[htk]at HSM
   replace HY:=h_ (show D_ wr u11 (byAt ls (splX b parts)) by rw[←htk];exact HY.out)
   have HWR:=h_ (b_ HW2.out HBP.out)
   clear hin htk
   go_wp2
   exact bodyPost_ret (v:=.tuple #[u11,.int .i64 sm,.nilIface]) (by simp[results,Tryz.results24,go_sem]) rfl ⟨_,by rw[HSM.out],HY.out,HWR.out⟩
def midH (a:List Ly) (d:Mx×Mx):Mx:=endX a d.1
def gotH (a b:List Ly) (d:Mx×Mx):Mx:=endX b (midH a d)
def offH (a b:List Ly) (d:Mx×Mx):Mx:=offX (gotH a b d) d.2
def bckH (a b:List Ly) (d:Mx×Mx):Mx:=nbX b (ngX b (midH a d)) (offH a b d)
def grd1 (a b:List Ly) (d:Mx×Mx):List (Mx×Mx):=nbD b (ngX b (midH a d)) (offH a b d)
def grd0 (a b:List Ly) (d:Mx×Mx):List (Mx×Mx):=nbD a (ngX a d.1) (bckH a b d)
theorem endX_app:∀(a b:List Ly) (x:Mx),endX (a++b) x=endX b (endX a x)
 |[],_,_=>rfl
 |l::a,b,x=>endX_app a b (goX l x)
structure PartH (a b:List Ly) (d:Mx×Mx):Prop where
 go0:ngE a d.1=0
 go1:ngE b (midH a d)=0
 en:endX (a++b) d.1=gotH a b d
 ad:addE (gotH a b d) d.2=0
 bk1:nbE b (ngX b (midH a d)) (offH a b d)=0
 bk0:nbE a (ngX a d.1) (bckH a b d)=0
 dd:prtD (a++b) d=grd0 a b d++grd1 a b d
 x0:ngX a d.1=d.1::runT a d.1
 x1:ngX b (midH a d)=midH a d::runT b (midH a d)
 m0:q_ (midH a d)=0
 m1:q_ (bckH a b d)=0
 f0:Fits a (grd0 a b d)
 f1:Fits b (grd1 a b d)
theorem part_of{a b:List Ly}{d:Mx×Mx}(ha:a≠[])(hb:b≠[])(h1:ngE (a++b) d.1=0)(h2:∃R C,Good (endX (a++b) d.1) R C∧Good d.2 R C)(h3:a++b≠[]→nbE (a++b) (ngX (a++b) d.1) (prtG (a++b) d)=0):PartH a b d:=by
 obtain ⟨R,C,g1,g2⟩:=h2
 have h3:=h3 (by simp[ha])
 obtain ⟨e0,e1,x0,x1,_⟩:=join_go h1
 obtain ⟨p1,p2⟩:=prt_good (ls:=a++b) (d:=d) g1 g2
 have eo:prtG (a++b) d=offH a b d:=by unfold prtG offH gotH midH;rw[endX_app]
 rw[eo]at h3
 obtain ⟨b1,b0,_,bd⟩:=join_back h1 h3
 have hm:q_ (midH a d)=0:=endX_good a d.1 ((ngE_iff _ _).1 e0).2.1 ((ngE_iff _ _).1 e0).2.2
 have hb0:nbE a (ngX a d.1) (bckH a b d)=0:=b0
 refine ⟨e0,e1,by unfold gotH midH;rw[endX_app],?_,b1,hb0,?_,x0,x1,hm,((nbE_iff _ _ _).1 hb0).2.2.1,nb_fits ha hb0,nb_fits hb b1⟩
 ·unfold gotH midH;rw[←endX_app];exact p1
 ·unfold prtD;rw[eo];exact bd
theorem PartH.last0{a b:List Ly}{d:Mx×Mx}(h:PartH a b d):(ngX a d.1).length=a.length+1∧(ngX a d.1)[a.length]?=some (midH a d):=by
 rw[h.x0]
 exact ⟨by rw[List.length_cons,runT_len],endX_at a d.1⟩
theorem PartH.last1{a b:List Ly}{d:Mx×Mx}(h:PartH a b d):(ngX b (midH a d)).length=b.length+1∧(ngX b (midH a d))[b.length]?=some (gotH a b d):=by
 rw[h.x1]
 exact ⟨by rw[List.length_cons,runT_len],endX_at b (midH a d)⟩
theorem PartH.msg1{a b:List Ly}{d:Mx×Mx}(h:PartH a b d){m:Int}(h0:0≤m)(h1:m≤11):msgF 1 m (midH a d)=0:=by
 unfold msgF;rw[if_neg (by omega)];exact h.m0
theorem PartH.msg2{a b:List Ly}{d:Mx×Mx}(h:PartH a b d){m:Int}(h0:0≤m)(h1:m≤11):msgF 2 m (bckH a b d)=0:=by
 unfold msgF;rw[if_neg (by omega)];exact h.m1
def by0 (a b:List Ly) (L:List (Mx×Mx)):List (Mx×Mx):=L.foldl (fun y d=>gaX y (grd0 a b d)) (zeroD a)
def by1 (a b:List Ly) (L:List (Mx×Mx)):List (Mx×Mx):=L.foldl (fun y d=>gaX y (grd1 a b d)) (zeroD b)
theorem by0_snoc(a b:List Ly)(L:List (Mx×Mx))(d:Mx×Mx):by0 a b (L++[d])=gaX (by0 a b L) (grd0 a b d):=by simp[by0]
theorem by1_snoc(a b:List Ly)(L:List (Mx×Mx))(d:Mx×Mx):by1 a b (L++[d])=gaX (by1 a b L) (grd1 a b d):=by simp[by1]
theorem fold_fits{ls:List Ly}{f:Mx×Mx→List (Mx×Mx)}:∀(L:List (Mx×Mx)) (y:List (Mx×Mx)),Fits ls y→(∀d∈L,Fits ls (f d))→Fits ls (L.foldl (fun y d=>gaX y (f d)) y)
 |[],_,hy,_=>hy
 |d::L,y,hy,h=>fold_fits L (gaX y (f d)) (ga_fits hy (h d (by simp))).2 (fun e he=>h e (by simp[he]))
theorem gatE_app:∀{ps qs ps' qs':List (Mx×Mx)},ps.length=qs.length→gatE (ps++ps') (qs++qs')=if gatE ps qs≠0 then gatE ps qs else gatE ps' qs'
 |[],[],_,_,_=>by simp[gatE]
 |[],_::_,_,_,h=>by simp at h
 |_::_,[],_,_,h=>by simp at h
 |p::ps,q::qs,ps',qs',h=>by
  show (if gat1E p q≠0 then gat1E p q else gatE (ps++ps') (qs++qs'))=if gatE (p::ps) (q::qs)≠0 then gatE (p::ps) (q::qs) else _
  rw[gatE_app (by simpa using h)]
  show _=if (if gat1E p q≠0 then gat1E p q else gatE ps qs)≠0 then (if gat1E p q≠0 then gat1E p q else gatE ps qs) else _
  by_cases c:gat1E p q=0
  ·have e:(if gat1E p q≠0 then gat1E p q else gatE ps qs)=gatE ps qs:=if_neg (fun k=>k c)
   rw[e,if_neg (fun k=>k c)]
  ·have e:(if gat1E p q≠0 then gat1E p q else gatE ps qs)=gat1E p q:=if_pos c
   rw[e,if_pos c,if_pos c]
theorem gatX_app:∀{ps qs ps' qs':List (Mx×Mx)},ps.length=qs.length→gatX (ps++ps') (qs++qs')=gatX ps qs++gatX ps' qs'
 |[],[],_,_,_=>by simp[gatX]
 |[],_::_,_,_,h=>by simp at h
 |_::_,[],_,_,h=>by simp at h
 |p::ps,q::qs,ps',qs',h=>by
  show gat1X p q::gatX (ps++ps') (qs++qs')=_
  rw[gatX_app (by simpa using h)]
  rfl
theorem gaE_zero{ps qs:List (Mx×Mx)}(h:gaE ps qs=0):ps.length=qs.length∧gatE ps qs=0:=by
 unfold gaE at h
 by_cases c:ps.length=qs.length
 ·rw[if_neg (by simp[c])]at h;exact ⟨c,h⟩
 ·rw[if_pos c]at h;cases h
theorem ga_app{ps qs ps' qs':List (Mx×Mx)}(h:gaE ps qs=0)(h':gaE ps' qs'=0):gaX (ps++ps') (qs++qs')=gaX ps qs++gaX ps' qs':=by
 obtain ⟨l1,g1⟩:=gaE_zero h
 obtain ⟨l2,g2⟩:=gaE_zero h'
 have e:gaE (ps++ps') (qs++qs')=0:=by
  unfold gaE
  rw[if_neg (by simp[l1,l2]),gatE_app l1,if_neg (by simp[g1]),g2]
 unfold gaX
 rw[if_pos e,if_pos h,if_pos h',gatX_app l1]
theorem by_join{a b:List Ly}(hz0:Fits a (zeroD a))(hz1:Fits b (zeroD b)){L:List (Mx×Mx)}(h:∀d∈L,PartH a b d):byAt (a++b) L=by0 a b L++by1 a b L:=by
 have key:∀(L:List (Mx×Mx)) (y z:List (Mx×Mx)),Fits a y→Fits b z→(∀d∈L,PartH a b d)→L.foldl (fun y d=>gaX y (prtD (a++b) d)) (y++z)=L.foldl (fun y d=>gaX y (grd0 a b d)) y++L.foldl (fun y d=>gaX y (grd1 a b d)) z:=by
  intro L
  induction L with
  |nil=>intros;rfl
  |cons d L ih=>
   intro y z hy hz hd
   have hp:=hd d (by simp)
   have h0:=ga_fits hy hp.f0
   have h1:=ga_fits hz hp.f1
   rw[List.foldl_cons,List.foldl_cons,List.foldl_cons,hp.dd,ga_app h0.1 h1.1]
   exact ih _ _ h0.2 h1.2 (fun e he=>hd e (by simp[he]))
 have hzz:zeroD (a++b)=zeroD a++zeroD b:=by simp[zeroD]
 unfold byAt
 rw[hzz]
 exact key L _ _ hz0 hz1 h
theorem by0_fits{a b:List Ly}(hz:Fits a (zeroD a)){L:List (Mx×Mx)}(h:∀d∈L,PartH a b d):Fits a (by0 a b L):=fold_fits L _ hz (fun d hd=>(h d hd).f0)
theorem by1_fits{a b:List Ly}(hz:Fits b (zeroD b)){L:List (Mx×Mx)}(h:∀d∈L,PartH a b d):Fits b (by1 a b L):=fold_fits L _ hz (fun d hd=>(h d hd).f1)
end Go.Proofs.YtniloklglpchfakGreat
/- How far what is read reaches: plain facts for a message that is read. No program in sight. -/
namespace Go.Proofs.YtniloklglpchfakGreat
theorem pow_pos128(k:Nat):(1:Int)≤128 ^ k:=by
 induction k with
 |zero=>simp
 |succ k ih=>rw[Int.pow_succ];omega
theorem rdB_drop:∀{j:Nat} {f:Bool} {P acc:Int} {l:List Int} {x:Int} {t:List Int},rdB j f P acc l=some (x,t)→∃c,1≤c∧c≤j∧c≤l.length∧t=l.drop c
 |0,f,P,acc,l,x,t,h=>by simp[rdB]at h
 |j+1,f,P,acc,[],x,t,h=>by simp[rdB]at h
 |j+1,f,P,acc,d::l,x,t,h=>by
  unfold rdB at h
  by_cases c:d<128
  ·rw[if_pos c]at h
   by_cases e:d=0∧f=false
   ·rw[if_pos e]at h;cases h
   ·rw[if_neg e]at h
    have h:=Option.some.inj h
    exact ⟨1,by omega,by omega,by simp,by rw[←(Prod.mk.inj h).2];rfl⟩
  ·rw[if_neg c]at h
   obtain ⟨q,q1,q2,q3,q4⟩:=rdB_drop h
   exact ⟨q+1,by omega,by omega,by simp;omega,by rw[q4];rfl⟩
theorem rdB_bd:∀{j:Nat} {f:Bool} {P acc:Int} {l:List Int} {x:Int} {t:List Int},(∀d∈l,0≤d∧d<256)→0≤acc→acc<P→rdB j f P acc l=some (x,t)→0≤x∧x<P*128 ^ j
 |0,f,P,acc,l,x,t,_,_,_,h=>by simp[rdB]at h
 |j+1,f,P,acc,[],x,t,_,_,_,h=>by simp[rdB]at h
 |j+1,f,P,acc,d::l,x,t,hl,h0,h1,h=>by
  have hd:=hl d (by simp)
  have hP:0<P:=by omega
  have hs0:0≤d % 128*P:=Int.mul_nonneg (by omega) (by omega)
  have hs1:d % 128*P≤127*P:=Int.mul_le_mul_of_nonneg_right (by omega) (by omega)
  have hp:=pow_pos128 j
  have hbig:P*128≤P*128 ^ (j+1):=by
   rw[Int.pow_succ,←Int.mul_assoc,Int.mul_comm (P*128 ^ j) 128,Int.mul_comm P 128]
   refine Int.mul_le_mul_of_nonneg_left ?_ (by omega)
   have:=Int.mul_le_mul_of_nonneg_left hp (Int.le_of_lt hP)
   omega
  unfold rdB at h
  by_cases c:d<128
  ·rw[if_pos c]at h
   by_cases e:d=0∧f=false
   ·rw[if_pos e]at h;cases h
   ·rw[if_neg e]at h
    have h:=(Prod.mk.inj (Option.some.inj h)).1
    omega
  ·rw[if_neg c]at h
   have:=rdB_bd (fun d hd=>hl d (List.mem_cons_of_mem _ hd)) (by omega) (by omega) h
   rw[Int.mul_assoc,Int.mul_comm 128,←Int.pow_succ]at this
   exact this
theorem rd1_at{l:List Int}{a:Nat}{x:Int}{t:List Int}(hb:∀d∈l,0≤d∧d<256)(h:rd1 (l.drop a)=some (x,t)):∃c,1≤c∧c≤9∧a+c≤l.length∧t=l.drop (a+c)∧0≤x∧x≤9223372036854775807:=by
 unfold rd1 at h
 obtain ⟨c,c1,c2,c3,c4⟩:=rdB_drop h
 have hx:=rdB_bd (fun d hd=>hb d (List.mem_of_mem_drop hd)) (by omega) (by omega) h
 rw[List.length_drop]at c3
 rw[List.drop_drop]at c4
 refine ⟨c,c1,c2,by omega,c4,hx.1,?_⟩
 have:(1:Int)*128 ^ 9=9223372036854775808:=by decide
 omega
theorem rdNs_no{k:Nat}{b:List Int}(h:rd1 b=none):rdNs (k+1) b=none:=by rw[rdNs,h]
theorem rdNs_yes{k:Nat}{b t:List Int}{x:Int}(h:rd1 b=some (x,t)):rdNs (k+1) b=match rdNs k t with|none=>none|some (l,t')=>some (x::l,t'):=by
 rw[rdNs,h]
 dsimp only
 cases rdNs k t<;>rfl
def Came (l:List Int) (K k:Nat) (hs:List Int) (a:Nat) (base:Nat):Prop:=hs.length=k∧rdNs K (l.drop base)=match rdNs (K - k) (l.drop a) with|none=>none|some (r,t)=>some (hs++r,t)
theorem Came.first(l:List Int)(K base:Nat):Came l K 0 [] base base:=⟨rfl,by cases rdNs K (l.drop base)<;>rfl⟩
theorem Came.no{l:List Int}{K k a base:Nat}{hs:List Int}(h:Came l K k hs a base)(hk:k<K)(hr:rd1 (l.drop a)=none):rdNs K (l.drop base)=none:=by
 rw[h.2,show K - k=(K - (k+1))+1 by omega,rdNs_no hr]
theorem Came.next{l:List Int}{K k a a' base:Nat}{hs:List Int}{x:Int}(h:Came l K k hs a base)(hk:k<K)(hr:rd1 (l.drop a)=some (x,l.drop a')):Came l K (k+1) (hs++[x]) a' base:=by
 refine ⟨by rw[List.length_append,h.1];rfl,?_⟩
 rw[h.2,show K - k=(K - (k+1))+1 by omega,rdNs_yes hr]
 cases rdNs (K - (k+1)) (l.drop a') with
 |none=>rfl
 |some q=>obtain ⟨r,t⟩:=q;simp
theorem Came.done{l:List Int}{K a base:Nat}{hs:List Int}(h:Came l K K hs a base):rdNs K (l.drop base)=some (hs,l.drop a):=by
 rw[h.2,Nat.sub_self]
 simp[rdNs]
end Go.Proofs.YtniloklglpchfakGreat
/- What SevenAt of the document's answer comes to: a number is read at some place. -/
namespace Go.Proofs.YtniloklglpchfakGreat
open Go.RowKit
theorem pow27(k:Nat):(2:Int) ^ (7*k)=128 ^ k:=by
 rw[show (128:Int)=2 ^ 7 by decide,Int.pow_mul]
theorem pow_le128{k:Nat}(h:k≤8):(128:Int) ^ (k+1)≤9223372036854775808:=by
 have:k=0∨k=1∨k=2∨k=3∨k=4∨k=5∨k=6∨k=7∨k=8:=by omega
 rcases this with rfl|rfl|rfl|rfl|rfl|rfl|rfl|rfl|rfl<;>decide
theorem rdB_nil(j:Nat)(f:Bool)(P acc:Int):rdB j f P acc []=none:=by cases j<;>rfl
theorem rdEnd_bad{l:List Int}{k mi:Int}{m:Mx}{t:List Int}(h:msgF k mi m≠0):rdEnd l k mi m t=none:=by
 unfold rdEnd
 rw[if_pos h]
theorem rdEnd_short{l:List Int}{k mi:Int}{m:Mx}{t:List Int}(h:t.length<2):rdEnd l k mi m t=none:=by
 unfold rdEnd
 split
 ·rfl
 ·match t,h with
  |[],_=>rfl
  |[x],_=>rfl
  |x::y::t,h=>exact absurd h (by simp only[List.length_cons];omega)
theorem rdEnd_at{l:List Int}{k mi:Int}{m:Mx}{a:Nat}{b0 b1:Int}(h:msgF k mi m=0)(h0:l[a]?=some b0)(h1:l[a+1]?=some b1):rdEnd l k mi m (l.drop a)=if sumsG 0 0 (l.take a)=[b0,b1] then some ((k,mi,m),a+2) else none:=by
 obtain ⟨i0,e0⟩:=List.getElem?_eq_some_iff.1 h0
 obtain ⟨i1,e1⟩:=List.getElem?_eq_some_iff.1 h1
 have hd:l.drop a=b0::b1::l.drop (a+1+1):=by rw[List.drop_eq_getElem_cons i0,e0,List.drop_eq_getElem_cons i1,e1]
 have hl:l.length - (l.drop a).length=a:=by rw[List.length_drop];omega
 unfold rdEnd
 rw[if_neg (by rw[h];simp),hl,hd]
def unzL (zs:List Int):List Int:=zs.map unz
theorem unzL_snoc(zs:List Int)(x:Int):unzL (zs++[x])=unzL zs++[unz x]:=by simp[unzL]
theorem unzL_len(zs:List Int):(unzL zs).length=zs.length:=by simp[unzL]
def encX (k mi:Int) (b:Mx):List Int:=if msgF k mi b=0 then msgB k mi b else []
def EncEnd (w w':World) (k mi:Int) (b:Mx) (e:Ending):Prop:=∃s,e=.returned (.tuple #[s,errV (msgF k mi b)])∧IsBys w' s (encX k mi b)∧NilOk s∧Below w.heap.size w w'
def decE (l:List Int):Int:=match rdMsg l with|none=>7|some _=>0
def DecEnd (w w':World) (l:List Int) (e:Ending):Prop:=
 ∃mv j,e=.returned (.tuple #[mv,.int .i64 j,errV (decE l)])∧Below w.heap.size w w'∧match rdMsg l with
  |none=>IsMsg w' mv 0 0 ⟨0,0,[]⟩∧j=0
  |some ((k,mi,b),c)=>IsMsg w' mv k mi b∧j=(c:Int)∧∀a0 a1 a2 a3 s,mv=.agg #[a0,a1,a2,a3,s]→NilOk s
theorem decE_no{l:List Int}(h:rdMsg l=none):decE l=7:=by unfold decE;rw[h]
theorem decE_yes{l:List Int}{x:(Int×Int×Mx)×Nat}(h:rdMsg l=some x):decE l=0:=by unfold decE;rw[h]
theorem DecEnd.yesN{w w':World}{l:List Int}{e:Ending}{k mi:Int}{b:Mx}{c:Nat}(h:DecEnd w w' l e)(hr:rdMsg l=some ((k,mi,b),c)):∃mv,e=.returned (.tuple #[mv,.int .i64 (c:Int),.nilIface])∧Below w.heap.size w w'∧IsMsg w' mv k mi b∧∀a0 a1 a2 a3 s,mv=.agg #[a0,a1,a2,a3,s]→NilOk s:=by
 obtain ⟨mv,j,h1,h2,h3⟩:=h
 rw[hr]at h3
 rw[decE_yes hr,e_ rfl,h3.2.1]at h1
 exact ⟨mv,h1,h2,h3.1,h3.2.2⟩
theorem DecEnd.yes{w w':World}{l:List Int}{e:Ending}{k mi:Int}{b:Mx}{c:Nat}(h:DecEnd w w' l e)(hr:rdMsg l=some ((k,mi,b),c)):∃mv,e=.returned (.tuple #[mv,.int .i64 (c:Int),.nilIface])∧Below w.heap.size w w'∧IsMsg w' mv k mi b:=by
 obtain ⟨mv,h1,h2,h3,_⟩:=h.yesN hr
 exact ⟨mv,h1,h2,h3⟩
/- To be proved of package wire in the text WrC:
wenc_any (v:Value) (k mi:Int) (b:Mx) (w:World) (hv:IsMsg w v k mi b):Calls prog (wire.Encode) #[v] w (fun e w'=>EncEnd w w' k mi b e)
wdec_any (v:Value) (l:List Int) (w:World) (hv:IsBys w v l):Calls prog (wire.Decode) #[v] w (fun e w'=>DecEnd w w' l e) -/
def WBk (w:World) (B:Nat) (cs:Array Value) (t:TypeId):Prop:=w.heap[B]?=some (.cells cs t (0,0))
theorem WBk.lt{w:World}{B:Nat}{cs:Array Value}{t:TypeId}(h:WBk w B cs t):B<w.heap.size:=(Array.getElem?_eq_some_iff.1 h).1
theorem WBk.c{w:World}{B:Nat}{cs:Array Value}{t:TypeId}(h:WBk w B cs t){i:Nat}{x:Value}(hx:cs[i]?=some x):w.cell? ⟨B,i,none⟩=some x:=by rw[Joins.cell_of_block h];exact hx
theorem WBk.f{w:World}{B:Nat}{cs:Array Value}{t:TypeId}(h:WBk w B cs t)(i:Nat):w.frozen? ⟨B,i,none⟩=false:=Joins.unfrozen_of_block h i
theorem WBk.bel{w w':World}{N B:Nat}{cs:Array Value}{t:TypeId}(h:WBk w B cs t)(hb:Below N w w')(hB:B<N):WBk w' B cs t:=(hb.block B hB).trans h
theorem WBk.kept{w w':World}{B:Nat}{cs:Array Value}{t:TypeId}(h:WBk w B cs t)(hb:Below w.heap.size w w'):WBk w' B cs t:=h.bel hb h.lt
theorem WBk.new(w:World)(cs:Array Value)(t:TypeId):WBk (w.alloc (.cells cs t)) w.heap.size cs t:=heap_alloc_new w _
theorem WBk.set{w:World}{B:Nat}{cs:Array Value}{t:TypeId}(h:WBk w B cs t)(i:Nat)(y:Value):WBk (w.setCell ⟨B,i,none⟩ y) B (cs.setIfInBounds i y) t:=by
 unfold WBk
 rw[Joins.block_setCell h]
theorem WBk.other{w:World}{B B' i:Nat}{cs:Array Value}{t:TypeId}(h:WBk w B cs t)(hne:B≠B')(y:Value):WBk (w.setCell ⟨B',i,none⟩ y) B cs t:=((grw_set w B' i y).block B h.lt (fun e=>hne (Option.some.inj e))).trans h
theorem OwnY.baseLe{w:World}{base:Nat}{v:Value}{l:List Int}(h:OwnY w base v l)(hl:l≠[]):base≤w.heap.size:=by
 rcases h.1.2 with ⟨_,q⟩|⟨g,cap,cur,e,_⟩
 ·exact absurd (List.eq_nil_of_length_eq_zero q) hl
 ·have:=World.ownsRow.lt h.1 g (by rw[e];rfl)
  omega
theorem wnumof_any(x:Int)(w:World)(h0:-2147483647≤x)(h1:x≤2147483647):Calls Tryz.prog 99 #[.int .i64 x] w fun e w'=>e=.returned (.int .i64 (zig x:Int))∧w'=w:=by
 have HZ:=h_ (zig_cast x)
 by_cases c:x<0
 ·have HE:=h_ (show -2*x - 1=(zig x:Int) by rw[HZ.out,if_neg (by omega)])
  have hwy0:IntKind.i64.wrap (-2*x)=-2*x:=by rw[IntKind.wrap_i64];omega
  have hwy:IntKind.i64.wrap (-2*x - 1)=-2*x - 1:=by rw[IntKind.wrap_i64];omega
  go_enter Tryz.func99,Tryz.ntmps99
  go_wp2
  go_ret
  exact ⟨i_ HE.out,rfl⟩
 ·have HE:=h_ (show 2*x=(zig x:Int) by rw[HZ.out,if_pos (by omega)])
  have hwy0:IntKind.i64.wrap (2*x)=2*x:=by rw[IntKind.wrap_i64];omega
  go_enter Tryz.func99,Tryz.ntmps99
  go_wp2
  go_ret
  exact ⟨i_ HE.out,rfl⟩
set_option maxHeartbeats 4000000 in
set_option maxRecDepth 100000 in
theorem wchk_any(v:Value)(k mi:Int)(b:Mx)(w:World)(hv:IsMsg w v k mi b):Calls Tryz.prog 64 #[v] w fun e w'=>e=.returned (errV (msgF k mi b))∧Below w.heap.size w w':=by
 obtain ⟨s,rfl,hs⟩:=hv
 obtain ⟨r,hr⟩:=gN (b.rows)
 obtain ⟨c,hc⟩:=gN (b.cols)
 obtain ⟨sa,sk,hse,hs2⟩:=id hs
 obtain ⟨sn,hsn⟩:=gN (b.cells.length)
 rw[hsn]at hse
 subst hse
 obtain ⟨s,hse⟩:=gM (Value.slice sa sn sk)
 rw[←hse]at hs ⊢
 clear hsn hs2
 have HB:=h_ (o_ w (.cells #[.int .i64 k,.int .i64 mi,.int .i64 r,.int .i64 c,s] 63))
 have HF:=h_ (C_ (.agg #[.int .i64 b.rows,.int .i64 b.cols,s]) b (w.alloc (.cells #[.int .i64 k,.int .i64 mi,.int .i64 r,.int .i64 c,s] 63)) ⟨s,rfl,hs.u_ HB.out⟩)
 obtain ⟨E,hE⟩:=gN (errV (q_ b))
 rw[hr,hc,hE]at HF
 have HE:=h_ hE
 rw[hr,hc]
 subst hse
 clear hs
 have HN:=h_ (show (k<1∨2<k∨mi<0∨11<mi)→Value.iface 94 (.int .i64 1)=errV (msgF k mi b) from fun h=>by rw[←msgF_one h,n_ (by decide)])
 have HA:=h_ (show ¬(k<1∨2<k∨mi<0∨11<mi)→E=errV (msgF k mi b) from fun h=>by rw[←hE,←msgF_mat h])
 clear hr hc hE
 by_cases c1:k=1
 ·subst c1
  by_cases c3:mi<0
  ·go_enter Tryz.func64,Tryz.ntmps64
   go_wp2
   go_ret
   exact ⟨congrArg Ending.returned (HN.out (by omega)),HB.out⟩
  by_cases c4:12≤mi
  ·go_enter Tryz.func64,Tryz.ntmps64
   go_wp2
   go_ret
   exact ⟨congrArg Ending.returned (HN.out (by omega)),HB.out⟩
  go_enter Tryz.func64,Tryz.ntmps64
  go_wp2_with (go_at_call 60;refine HF.out.mono ?_;rintro e w1 ⟨rfl,hb1⟩)
  go_ret
  exact ⟨congrArg Ending.returned (HA.out (by omega)),bel_on HB.out hb1⟩
 by_cases c2:k=2
 ·subst c2
  by_cases c3:mi<0
  ·go_enter Tryz.func64,Tryz.ntmps64
   go_wp2
   go_ret
   exact ⟨congrArg Ending.returned (HN.out (by omega)),HB.out⟩
  by_cases c4:12≤mi
  ·go_enter Tryz.func64,Tryz.ntmps64
   go_wp2
   go_ret
   exact ⟨congrArg Ending.returned (HN.out (by omega)),HB.out⟩
  go_enter Tryz.func64,Tryz.ntmps64
  go_wp2_with (go_at_call 60;refine HF.out.mono ?_;rintro e w1 ⟨rfl,hb1⟩)
  go_ret
  exact ⟨congrArg Ending.returned (HA.out (by omega)),bel_on HB.out hb1⟩
 have q1:(k !=1)=true:=bne_iff_ne.2 c1
 have q2:(k !=2)=true:=bne_iff_ne.2 c2
 go_enter Tryz.func64,Tryz.ntmps64
 go_wp2
 go_ret
 exact ⟨congrArg Ending.returned (HN.out (by omega)),HB.out⟩
set_option maxHeartbeats 8000000 in
set_option maxRecDepth 100000 in
theorem wappnum_any(v:Value)(l:List Int)(base n:Nat)(x:Int)(w:World)(hv:OwnY w base v l)(hbs:base≤w.heap.size)(hx:x=(n:Int))(hn:n<128 ^ 9)(hl:l.length≤3000):Calls Tryz.prog 65 #[v,.int .i64 x] w fun e w'=>∃s,e=.returned s∧OwnY w' base s (l++sev n)∧base≤w'.heap.size∧(∀w0:World,Below w0.heap.size w0 w→w0.heap.size≤base→Below w0.heap.size w0 w')∧AsideY w w' v s∧w.heap.size≤w'.heap.size:=by
 have HV:=h_ hv
 have HX:=h_ hx
 have HN:=h_ hn
 have HL:=h_ hl
 have HBS:=h_ hbs
 clear hv hx hn hl hbs
 go_enter Tryz.func65,Tryz.ntmps65
 go_wp2
 go_loopw [0,1] (fun bv iv wr=>∃(k m:Nat) (xm:Int) (pre:List Int),0<k∧k≤9∧m<128 ^ k∧xm=(m:Int)∧iv=.int .i64 xm∧OwnY wr base bv pre∧pre++sevF k m=l++sev n∧pre.length+k≤3009∧base≤wr.heap.size∧(∀w0:World,Below w0.heap.size w0 w→w0.heap.size≤base→Below w0.heap.size w0 wr)∧AsideY w wr v bv∧w.heap.size≤wr.heap.size) (fun _ iv _=>(intOf iv).toNat)
 case atStart=>exact ⟨9,n,x,l,by omega,by omega,HN.out,HX.out,rfl,HV.out,rfl,by have:=HL.out;omega,HBS.out,(fun w0 h _=>h),AsideY.refl _ _,Nat.le_refl _⟩
 case round=>
  obtain ⟨k,m,xm,pre,hk0,hk9,hm,hxm,rfl,hown,heq,hlen,hsz,hbel,hasd,hgrw⟩:=hrel
  have HAS:=h_ (And.intro hasd hgrw)
  have hbig:m<9223372036854775808:=Nat.lt_of_lt_of_le hm (Nat.le_trans (Nat.pow_le_pow_right (by omega) hk9) (by decide))
  have hx0:0≤xm:=by omega
  have hx1:xm≤9223372036854775807:=by omega
  have HO:=h_ hown
  have HQ:=h_ heq
  have HM:=h_ hm
  have HXM:=h_ hxm
  have HBE:=h_ hbel
  have HSZ:=h_ hsz
  obtain ⟨k',rfl⟩:∃k',k=k'+1:=⟨k - 1,by omega⟩
  clear hown heq hm hxm hbel hbig hsz hasd hgrw
  by_cases hlt:128≤xm
  ·obtain ⟨d,hd⟩:=gN (xm % 128+128)
   have hwd:IntKind.u8.wrap (xm % 128+128)=d:=by rw[hd,IntKind.wrap_u8];omega
   have HD0:=h_ (show 0≤d∧d<256 by omega)
   have HS:=h_ (show sevF (k'+1) m=d::sevF k' (m / 128) by
    have:=HXM.out
    rw[sevF,if_neg (by omega),show ((128+m % 128:Nat):Int)=d by omega])
   have HLT:=h_ (OwnY.lit wr [d] (by simp) (fun z hz=>by have:=HD0.out;simp at hz;omega))
   clear hd
   go_wp2_with (at_builtin;refine app_bysW rfl _ _ rfl base _ (.slice (some ⟨wr.heap.size,0,none⟩) 1 1) pre [d] rfl (HO.out.u_ (o_ _ _)) rfl HLT.out.isBys HLT.out.nilOk ?h1 ?h2 ?_)
   case h1=>first|omega|(simp;omega)
   case h2=>have:=HSZ.out;first|omega|(rw[World.size_alloc];omega)
   intro v' w2 hown hgr has2 hsz2
   have HA2:=h_ (show AsideY w w2 v v'∧w.heap.size≤w2.heap.size from ⟨(HAS.out.1.trans HAS.out.2 (AsideY.u_ (o_ _ _) (Nat.le_refl _))).trans (Nat.le_trans HAS.out.2 (o_ _ _).size) has2,Nat.le_trans HAS.out.2 (Nat.le_trans (Nat.le_succ _) hsz2)⟩)
   clear has2 hsz2
   have HR:=h_ (show OwnY w2 base v' (pre++[d])∧(∀w0:World,Below w0.heap.size w0 w→w0.heap.size≤base→Below w0.heap.size w0 w2) from ⟨hown,fun w0 h1 h2=>hgr w0 (bel_on (HBE.out w0 h1 h2) (o_ _ _)) h2⟩)
   have HS2:=h_ (hown.baseLe (by simp))
   clear hown hgr
   go_wp2
   go_roundw
   case rel=>
    have hk1:=div_pow HM.out
    refine ⟨k',m / 128,_,pre++[d],?_,by omega,hk1,by have:=HXM.out;omega,rfl,HR.out.1,?_,by simp;omega,HS2.out,HR.out.2,HA2.out⟩
    ·rcases Nat.eq_zero_or_pos k' with e|e
     ·rw[e]at hk1;simp at hk1;have:=HXM.out;omega
     ·exact e
    ·rw[List.append_assoc,←HQ.out,HS.out];rfl
   case measure=>simp[intOf];omega
  ·have hwd:IntKind.u8.wrap xm=xm:=by rw[IntKind.wrap_u8];omega
   have HS:=h_ (show l++sev n=pre++[xm] by
    have:=HXM.out
    rw[←HQ.out,sevF,if_pos (by omega),HXM.out])
   have HLT:=h_ (OwnY.lit wr [xm] (by simp) (fun z hz=>by simp at hz;omega))
   go_wp2_with (at_builtin;refine app_bysW rfl _ _ rfl base _ (.slice (some ⟨wr.heap.size,0,none⟩) 1 1) pre [xm] rfl (HO.out.u_ (o_ _ _)) rfl HLT.out.isBys HLT.out.nilOk ?h1 ?h2 ?_)
   case h1=>first|omega|(simp;omega)
   case h2=>have:=HSZ.out;first|omega|(rw[World.size_alloc];omega)
   intro v' w2 hown hgr has2 hsz2
   have HA2:=h_ (show AsideY w w2 v v'∧w.heap.size≤w2.heap.size from ⟨(HAS.out.1.trans HAS.out.2 (AsideY.u_ (o_ _ _) (Nat.le_refl _))).trans (Nat.le_trans HAS.out.2 (o_ _ _).size) has2,Nat.le_trans HAS.out.2 (Nat.le_trans (Nat.le_succ _) hsz2)⟩)
   clear has2 hsz2
   have HR:=h_ (show OwnY w2 base v' (l++sev n)∧base≤w2.heap.size∧(∀w0:World,Below w0.heap.size w0 w→w0.heap.size≤base→Below w0.heap.size w0 w2) from ⟨by rw[HS.out];exact hown,hown.baseLe (by simp),fun w0 h1 h2=>hgr w0 (bel_on (HBE.out w0 h1 h2) (o_ _ _)) h2⟩)
   clear hown hgr
   go_wp2
   exact bodyPost_ret (v:=v') (by simp[results,Tryz.results65,go_sem]) rfl ⟨_,rfl,HR.out.1,HR.out.2.1,HR.out.2.2,HA2.out⟩
end Go.Proofs.YtniloklglpchfakGreat
