/- What OneOf of the document's answer comes to: one step of all parts. -/
import Derived.Test.YtniloklglpchfaeGreatDoorPkNetLaw
import Derived.Test.YtniloklglpchfaeGreatDoorPkRNet
import Derived.Test.YtniloklglpchfaeGreatDoorPkRLoss
import Derived.Test.YtniloklglpchfaeGreatDoorRGather
import Derived.Test.YtniloklglpchfaeGreatDoorRStepO
import Derived.Test.YtniloklglpchfaeGreatDoorRZeros
import Derived.Test.YtniloklglpchfaeGreatDoorLists
import Derived.Test.YtniloklglpchfaeGreatDoorLBack
namespace Go.Proofs.YtniloklglpchfaeGreatDoor
open Go.RowKit
set_option maxHeartbeats 16000000 in
set_option maxRecDepth 100000 in
theorem roneof_owns(v v1:Value)(ls:List Ly)(ps:List (Mx×Mx))(n:Int)(b:Mx×Mx)(parts le ke:Int)(sa:Option Addr)(sn sk:Nat)(ta:Option Addr)(tn tk:Nat)(w:World)(hv:Y_ w v ls)(hp:D_ w v1 ps)(hs:I_ w (.slice sa sn sk) b.1.cells)(ht:I_ w (.slice ta tn tk) b.2.cells):
  Calls Tryz.prog 10 #[.agg #[v,v1,.int .i64 n],.agg #[.int .i64 b.1.rows,.int .i64 b.1.cols,.slice sa sn sk,.int .i64 b.2.rows,.int .i64 b.2.cols,.slice ta tn tk],.int .i64 parts,.agg #[.int .i64 le,.int .i64 ke]] w fun e w'=>Below w.heap.size w w'/\
   ((oneE ls ps n b parts le ke=0/\∃u t,e=.returned (.tuple #[.agg #[u,t,.int .i64 (n+1)],.int .i64 (sumAt ls (splX b parts)),.int .i64 0])/\Owns 0 w.heap.size w' 58 7 u (oneN ls ps b parts le ke).length ((oneN ls ps b parts le ke).flatMap lyS)/\Owns 0 w.heap.size w' 61 6 t (oneV ls ps b parts ke).length ((oneV ls ps b parts ke).flatMap gdS))\/
   (oneE ls ps n b parts le ke≠0/\e=.returned (.tuple #[.agg #[.slice none 0 0,.slice none 0 0,.int .i64 0],.int .i64 0,.int .i64 (oneE ls ps n b parts le ke)]))):=by
 obtain ⟨a,cap,rfl,hlc,hcm⟩:=hv.shape
 obtain ⟨a1,cap1,rfl,hlc1,hcm1⟩:=hp.shape
 have HV:=h_ hv
 have HP:=h_ hp
 obtain ⟨N,hN⟩:=gN (ls.length)
 obtain ⟨N1,hN1⟩:=gN (ps.length)
 have HN:=h_ (And.intro hN hN1)
 rw[hN]at hv HV ⊢
 rw[hN1]at hp HP ⊢
 obtain ⟨V,hV⟩:=gM ((((w.alloc (.cells #[.slice a N cap,.slice a1 N1 cap1,.int .i64 n] 25)).alloc (.cells #[.int .i64 b.1.rows,.int .i64 b.1.cols,.slice sa sn sk,.int .i64 b.2.rows,.int .i64 b.2.cols,.slice ta tn tk] 30)).alloc (.cells #[.int .i64 le,.int .i64 ke] 32)).alloc (.cells #[.slice none 0 0,.slice none 0 0,.int .i64 0] 25))
 have HVV:=h_ hV
 have HWV:Hid (Below w.heap.size w V):=by rw[hV];exact h_ (a_ (a_ (a_ (o_ _ _))))
 have HVS:Hid (V.heap.size=w.heap.size+4):=by rw[hV];exact h_ (by simp)
 have HX0:Hid (Box V w.heap.size [.slice a N cap,.slice a1 N1 cap1,.int .i64 n]):=by rw[hV];exact h_ ((Box.new w [.slice a N cap,.slice a1 N1 cap1,.int .i64 n] 25 rfl).u_ (a_ (a_ (o_ _ _))))
 have HX1:Hid (Box V (w.heap.size+1) [.int .i64 b.1.rows,.int .i64 b.1.cols,.slice sa sn sk,.int .i64 b.2.rows,.int .i64 b.2.cols,.slice ta tn tk]):=by rw[hV];exact h_ ((Box.new _ [.int .i64 b.1.rows,.int .i64 b.1.cols,.slice sa sn sk,.int .i64 b.2.rows,.int .i64 b.2.cols,.slice ta tn tk] 30 (by simp)).u_ (a_ (o_ _ _)))
 have HX2:Hid (Box V (w.heap.size+1+1) [.int .i64 le,.int .i64 ke]):=by rw[hV];exact h_ ((Box.new _ [.int .i64 le,.int .i64 ke] 32 (by simp)).u_ (o_ _ _))
 have HX3:Hid (Box V (w.heap.size+1+1+1) [.slice none 0 0,.slice none 0 0,.int .i64 0]):=by rw[hV];exact h_ (Box.new _ [.slice none 0 0,.slice none 0 0,.int .i64 0] 25 (by simp))
 have HF3:Hid (Free V (w.heap.size+1+1+1)):=by rw[hV];exact h_ (Free.new _ _ _ (by simp))
 have HC:=h_ (ronefault_any (.slice a N cap) (.slice a1 N1 cap1) ls ps n b parts le ke sa sn sk ta tn tk V (hv.u_ HWV.out) (hp.u_ HWV.out) (hs.u_ HWV.out) (ht.u_ HWV.out))
 obtain ⟨E,hE⟩:=gN (oneE ls ps n b parts le ke)
 have HE:=h_ hE
 have HOL:=h_ (show (if E=0 then splX b parts else [])=oneL ls ps n b parts le ke by rw[<-hE];rfl)
 rw[hE]at HC ⊢
 obtain ⟨d0,d1,d2⟩:=HX0.out.c3
 obtain ⟨g0,g1,g2,g3,g4,g5⟩:=HX1.out.c6
 obtain ⟨r0,r1⟩:=HX2.out.c2
 rw[HVV.out]at d0 d1 d2 g0 g1 g2 g3 g4 g5 r0 r1
 clear hV hv hp hs ht hlc hcm hlc1 hcm1 hN hN1 hE
 go_enter Tryz.func10,Tryz.ntmps10
 go_wp2_with fail
 rw[<-HVV.out]
 refine HC.out.mono ?_
 rintro e w1 ⟨u,rfl,hu,hb1⟩
 have HB1:=h_ hb1
 have HW1:=h_ (b_ HWV.out hb1)
 have HU:=h_ hu
 clear hb1 hu HC d0 d1 d2 g0 g1 g2 g3 g4 g5 r0 r1
 by_cases k1:E=0
 ·subst k1
  obtain ⟨q1,q2,q3,q4⟩:=one_parts HE.out
  obtain ⟨s1,s2,s3,s4,s5⟩:=state_good q1
  have HST:=h_ (And.intro s1 (And.intro s2 s5))
  have HQ4:=h_ q4
  have HOU:=h_ (show D_ w1 u (splX b parts) by have h:=HU.out;rw[<-HOL.out,if_pos rfl]at h;exact h)
  obtain ⟨ua,ucap,rfl,_,hucm⟩:=HOU.out.shape
  obtain ⟨K,hK⟩:=gN ((splX b parts).length)
  have HK:=h_ hK
  rw[hK]at HOU ⊢
  have hKm:K<=12:=by
   have h:=hK
   unfold splX at h
   rw[if_pos q3,List.length_map,List.length_range]at h
   unfold splE at q3
   by_cases z1:batE b=0
   ·rw[if_neg (by simp[z1])]at q3
    unfold szE at q3
    by_cases z2:b.1.rows<1\/24<b.1.rows\/parts<1\/12<parts
    ·rw[if_pos z2]at q3;cases q3
    ·omega
   ·rw[if_pos z1]at q3;exact absurd q3 z1
  have HZF:=h_ (zero_fits ls (stt_good s2 s5))
  have HZ:=h_ (rzeros_any (.slice a N cap) ls w1 (HV.out.u_ HW1.out) s1 (stt_good s2 s5))
  have d0:=(HX0.out.u_ HB1.out) 0 _ rfl
  have hn0:0<=n:=s3
  have hn1:n<=1000000000:=s4
  clear q1 q2 q3 q4 s1 s2 s3 s4 s5 hK hucm HU
  go_wp2_with fail
  refine HZ.out.mono ?_
  rintro e w2 ⟨z,rfl,hz,hb2⟩
  have HB2:=h_ (b_ HB1.out hb2)
  have HW2:=h_ (b_ HW1.out hb2)
  have HZI:=h_ hz
  replace HOU:=h_ (HOU.out.u_ hb2)
  clear hz hb2 HZ d0
  go_wp2
  go_loopw [13,14,15] (fun y s c wr=>∃(i:Nat) (xi:Int),i<=K/\xi=(i:Int)/\c=.int .i64 xi/\s=.int .i64 (sumAt ls ((splX b parts).take i))/\D_ wr y (byAt ls ((splX b parts).take i))/\Below w2.heap.size w2 wr) (fun _ _ c _=>K - (intOf c).toNat)
  case atStart=>exact ⟨0,0,Nat.zero_le _,rfl,rfl,rfl,HZI.out,Below.refl _ _⟩
  case round=>
   obtain ⟨i,xi,hi,hxi,rfl,rfl,hy,hb⟩:=hrel
   have HXI:=h_ hxi
   have HY:=h_ hy
   have HBP:=h_ hb
   have hxi0:0<=xi:=by omega
   have hxi1:xi<=12:=by omega
   obtain ⟨sm,esm⟩:=gN (sumAt ls ((splX b parts).take i))
   have HSM:=h_ esm
   rw[esm]
   clear hxi hy hb esm
   by_cases hlt:xi<(K:Int)
   ·have hin:i<K:=by have:=HXI.out;omega
    have hxn:xi.toNat=i:=by have:=HXI.out;omega
    obtain ⟨d,hd⟩:∃x,(splX b parts)[i]?=some x:=⟨(splX b parts)[i]'(by have:=HK.out;omega),List.getElem?_eq_getElem _⟩
    obtain ⟨ub,uo,uc,xa,xn,xk,ya,yn,yk,ev,c0,c1,c2,c3,c4,c5,hdw,hdb⟩:=HOU.out.at hd
    obtain rfl:=(Value.slice.inj ev).1
    obtain ⟨p1,⟨R,C,p2,p3⟩,p4⟩:=HQ4.out d (List.mem_of_getElem? hd)
    rw[<-hxn]at c0 c1 c2 c3 c4 c5
    have HTK:=h_ (take_end hd)
    have HDF:=h_ (prt_fits p4)
    have HCD:=h_ (And.intro c0 (And.intro c1 (And.intro c2 (And.intro c3 (And.intro c4 c5)))))
    have HT:=h_ (rpart_any (.slice a N cap) ls d R C xa xn xk ya yn yk wr.drew (HV.out.u_ (d_ (b_ HW2.out HBP.out))) (hdw.u_ (d_ HBP.out)) (hdb.u_ (d_ HBP.out)) p1 p2 p3)
    have HSB:Hid (∀W',Below wr.heap.size wr W'->(fun W'=>W'.cell? ⟨w.heap.size,0,none⟩=some (.slice a N cap)/\W'.cell? ⟨ub,uo+xi.toNat*6,none⟩=some (.int .i64 d.1.rows)/\W'.cell? ⟨ub,uo+xi.toNat*6+1,none⟩=some (.int .i64 d.1.cols)/\W'.cell? ⟨ub,uo+xi.toNat*6+2,none⟩=some (.slice xa xn xk)/\W'.cell? ⟨ub,uo+xi.toNat*6+3,none⟩=some (.int .i64 d.2.rows)/\W'.cell? ⟨ub,uo+xi.toNat*6+4,none⟩=some (.int .i64 d.2.cols)/\W'.cell? ⟨ub,uo+xi.toNat*6+5,none⟩=some (.slice ya yn yk)) W'):=h_ (fun W' h=>have hx:=b_ HBP.out h;⟨(HX0.out.u_ (b_ HB2.out hx)) 0 _ rfl,c_ hx HCD.out.1,c_ hx HCD.out.2.1,c_ hx HCD.out.2.2.1,c_ hx HCD.out.2.2.2.1,c_ hx HCD.out.2.2.2.2.1,c_ hx HCD.out.2.2.2.2.2⟩)
    obtain ⟨px,epx⟩:=gN (prtX ls d)
    rw[epx]at HT
    have HPX:=h_ epx
    have HBF:=h_ (by_fits HZF.out ((splX b parts).take i) (fun e he=>prt_fits (HQ4.out e (List.mem_of_mem_take he)).2.2))
    have HGL:=h_ (show (byAt ls ((splX b parts).take i)).length<=1759218604390 by rw[HBF.out.len];have:=HST.out.1;omega)
    have HGE:=h_ (ga_fits HBF.out HDF.out).1
    have HBN:=h_ (show byAt ls ((splX b parts).take (i+1))=gaX (byAt ls ((splX b parts).take i)) (prtD ls d) by rw[HTK.out,byAt_snoc])
    have HSN:=h_ (show sumAt ls ((splX b parts).take (i+1))=ad sm px by rw[HTK.out,sumAt_snoc,HSM.out,HPX.out])
    clear ev c0 c1 c2 c3 c4 c5 hdw hdb p1 p2 p3 p4 hd hxn epx
    obtain ⟨lm0,lm1,lm2,lm3,lm4,lm5,lm6⟩:=HSB.out wr (Below.refl _ _)
    go_wp2
    go_region_held3 (fun W'=>W'.cell? ⟨w.heap.size,0,none⟩=some (.slice a N cap)/\W'.cell? ⟨ub,uo+xi.toNat*6,none⟩=some (.int .i64 d.1.rows)/\W'.cell? ⟨ub,uo+xi.toNat*6+1,none⟩=some (.int .i64 d.1.cols)/\W'.cell? ⟨ub,uo+xi.toNat*6+2,none⟩=some (.slice xa xn xk)/\W'.cell? ⟨ub,uo+xi.toNat*6+3,none⟩=some (.int .i64 d.2.rows)/\W'.cell? ⟨ub,uo+xi.toNat*6+4,none⟩=some (.int .i64 d.2.cols)/\W'.cell? ⟨ub,uo+xi.toNat*6+5,none⟩=some (.slice ya yn yk)) ((refine HSB.out _ ?_;repeat' (first|with_reducible exact Below.refl _ _|with_reducible exact HBQ.out|with_reducible refine d_ ?_|with_reducible refine a_ ?_)))
     (first
      |(go_at_call 28;refine HT.out.mono ?_;rintro e w3 ⟨dv,rfl,hdv,hb3⟩;obtain ⟨da,dk,rfl,_,_⟩:=hdv.shape;have HDV:=h_ hdv;have HBQ:=h_ (show Below wr.heap.size wr w3 from b_ (d_ (Below.refl _ _)) hb3);clear hdv hb3))
    have HGA:=h_ (rgather_any _ _ (byAt ls ((splX b parts).take i)) (prtD ls d) w3 (HY.out.u_ HBQ.out) HDV.out HGL.out)
    rw[HGE.out,<-HBN.out]at HGA
    clear lm0 lm1 lm2 lm3 lm4 lm5 lm6
    go_wp2_with fail
    refine HGA.out.mono ?_
    rintro e w4 ⟨y4,rfl,hy4,hb4⟩
    have HY4:=h_ hy4
    have HB4:=h_ (b_ HBP.out (b_ HBQ.out hb4))
    clear hy4 hb4 HGA
    go_wp2_with fail
    refine (radd_any sm px w4).mono ?_
    rintro e w5 ⟨rfl,rfl⟩
    go_wp2
    go_roundw
    case rel=>exact ⟨i+1,_,by omega,by have:=HXI.out;omega,rfl,by rw[HSN.out],HY4.out,HB4.out⟩
    case measure=>have:=HXI.out;simp[intOf];omega
   ·have hin:i=K:=by have:=HXI.out;omega
    have htk:(splX b parts).take i=splX b parts:=by rw[hin,<-HK.out,List.take_length]
    rw[htk]at HSM
    replace HY:=h_ (show D_ wr u13 (byAt ls (splX b parts)) by rw[<-htk];exact HY.out)
    have HBF:=h_ (by_fits HZF.out (splX b parts) (fun e he=>prt_fits (HQ4.out e he).2.2))
    have HWR:=h_ (b_ HW2.out HBP.out)
    have HDR:=h_ (b_ HB2.out HBP.out)
    have HSO:=h_ (rstepof_any (.slice a N cap) (.slice a1 N1 cap1) u13 ls ps (byAt ls (splX b parts)) le ke wr (HV.out.u_ HWR.out) (HP.out.u_ HWR.out) HY.out HST.out.1 HST.out.2.1 HBF.out.len (stp_of HST.out.2.1 HST.out.2.2 HBF.out))
    obtain ⟨d0,d1⟩:=(HX0.out.u_ HDR.out).c2
    obtain ⟨r0,r1⟩:=(HX2.out.u_ HDR.out).c2
    clear hin htk
    go_wp2_with fail
    refine HSO.out.mono ?_
    rintro e w3 ⟨u',t',rfl,ho1,ho2,hb3⟩
    obtain ⟨ua',uk',rfl,_,_⟩:=(show Y_ w3 u' _ from ho1.reads).shape
    obtain ⟨va',vk',rfl,_,_⟩:=(show D_ w3 t' _ from ho2.reads).shape
    obtain ⟨un',eun⟩:=gN ((stpL le ke ls ps (byAt ls (splX b parts))).length)
    obtain ⟨vn',evn⟩:=gN ((stpG ke ls ps (byAt ls (splX b parts))).length)
    rw[eun]at ho1 ⊢
    rw[evn]at ho2 ⊢
    have HEU:=h_ (And.intro eun evn)
    have HD3:=h_ (b_ HDR.out hb3)
    have HW3:=h_ (b_ HWR.out hb3)
    have hlt3:=(HX3.out.u_ HDR.out).lt
    have HOU1:=h_ (show Owns 0 wr.heap.size (((w3.setCell ⟨w.heap.size+1+1+1,0,none⟩ (.slice ua' un' uk')).setCell ⟨w.heap.size+1+1+1,1,none⟩ (.slice va' vn' vk')).setCell ⟨w.heap.size+1+1+1,2,none⟩ (.int .i64 (n+1))) 58 7 (.slice ua' un' uk') un' ((stpL le ke ls ps (byAt ls (splX b parts))).flatMap lyS) from ((ho1.set (Nat.zero_le _) hlt3 0 _).set (Nat.zero_le _) hlt3 1 _).set (Nat.zero_le _) hlt3 2 _)
    have HOU2:=h_ (show Owns 0 wr.heap.size (((w3.setCell ⟨w.heap.size+1+1+1,0,none⟩ (.slice ua' un' uk')).setCell ⟨w.heap.size+1+1+1,1,none⟩ (.slice va' vn' vk')).setCell ⟨w.heap.size+1+1+1,2,none⟩ (.int .i64 (n+1))) 61 6 (.slice va' vn' vk') vn' ((stpG ke ls ps (byAt ls (splX b parts))).flatMap gdS) from ((ho2.set (Nat.zero_le _) hlt3 0 _).set (Nat.zero_le _) hlt3 1 _).set (Nat.zero_le _) hlt3 2 _)
    have HIL:=h_ (show Owns 0 w.heap.size (((w3.setCell ⟨w.heap.size+1+1+1,0,none⟩ (.slice ua' un' uk')).setCell ⟨w.heap.size+1+1+1,1,none⟩ (.slice va' vn' vk')).setCell ⟨w.heap.size+1+1+1,2,none⟩ (.int .i64 (n+1))) 58 7 (.slice ua' un' uk') (oneN ls ps b parts le ke).length ((oneN ls ps b parts le ke).flatMap lyS) by
     show Owns 0 w.heap.size (((w3.setCell ⟨w.heap.size+1+1+1,0,none⟩ (.slice ua' un' uk')).setCell ⟨w.heap.size+1+1+1,1,none⟩ (.slice va' vn' vk')).setCell ⟨w.heap.size+1+1+1,2,none⟩ (.int .i64 (n+1))) 58 7 (.slice ua' un' uk') (stpL le ke ls ps (byAt ls (splX b parts))).length _
     rw[HEU.out.1];exact Owns.weaken HOU1.out HWR.out.size (Nat.le_refl _))
    have HIG:=h_ (show Owns 0 w.heap.size (((w3.setCell ⟨w.heap.size+1+1+1,0,none⟩ (.slice ua' un' uk')).setCell ⟨w.heap.size+1+1+1,1,none⟩ (.slice va' vn' vk')).setCell ⟨w.heap.size+1+1+1,2,none⟩ (.int .i64 (n+1))) 61 6 (.slice va' vn' vk') (oneV ls ps b parts ke).length ((oneV ls ps b parts ke).flatMap gdS) by
     show Owns 0 w.heap.size (((w3.setCell ⟨w.heap.size+1+1+1,0,none⟩ (.slice ua' un' uk')).setCell ⟨w.heap.size+1+1+1,1,none⟩ (.slice va' vn' vk')).setCell ⟨w.heap.size+1+1+1,2,none⟩ (.int .i64 (n+1))) 61 6 (.slice va' vn' vk') (stpG ke ls ps (byAt ls (splX b parts))).length _
     rw[HEU.out.2];exact Owns.weaken HOU2.out HWR.out.size (Nat.le_refl _))
    have HBE:=h_ (show Below w.heap.size w (((w3.setCell ⟨w.heap.size+1+1+1,0,none⟩ (.slice ua' un' uk')).setCell ⟨w.heap.size+1+1+1,1,none⟩ (.slice va' vn' vk')).setCell ⟨w.heap.size+1+1+1,2,none⟩ (.int .i64 (n+1))) from S_ HW3.out (by omega) _ _ _)
    obtain ⟨t0,t1,t2⟩:=(HX3.out.u_ HD3.out).c3
    obtain ⟨f0,f1,f2⟩:=(HF3.out.u_ HD3.out HX3.out.lt).f3
    have e2:=(HX0.out.u_ HD3.out) 2 _ rfl
    clear ho1 ho2 hb3 eun evn hlt3 HSO d0 d1 r0 r1
    go_wp2
    exact bodyPost_ret (v:=.tuple #[.agg #[.slice ua' un' uk',.slice va' vn' vk',.int .i64 (n+1)],.int .i64 sm,.int .i64 0]) (by simp[results,Tryz.results10,go_sem,t0,t1,t2]) rfl ⟨HBE.out,_,_,by rw[HSM.out],HIL.out,HIG.out⟩
 ·have HKE:=h_ k1
  have n1:(E !=0)=true:=by simpa using k1
  obtain ⟨ua,ucap,rfl,_,_⟩:=(show D_ w1 u _ from HU.out).shape
  obtain ⟨t0,t1,t2⟩:=(HX3.out.u_ HB1.out).c3
  obtain ⟨f0,f1,f2⟩:=(HF3.out.u_ HB1.out HX3.out.lt).f3
  have HBE:=h_ (show Below w.heap.size w (((w1.setCell ⟨w.heap.size+1+1+1,0,none⟩ (.slice none 0 0)).setCell ⟨w.heap.size+1+1+1,1,none⟩ (.slice none 0 0)).setCell ⟨w.heap.size+1+1+1,2,none⟩ (.int .i64 0)) from S_ HW1.out (by omega) _ _ _)
  clear k1
  go_wp2
  exact bodyPost_ret (v:=.tuple #[.agg #[.slice none 0 0,.slice none 0 0,.int .i64 0],.int .i64 0,.int .i64 E]) (by simp[results,Tryz.results10,go_sem,t0,t1,t2]) rfl ⟨HBE.out,.inr ⟨HKE.out,rfl⟩⟩
set_option maxHeartbeats 4000000 in
set_option maxRecDepth 100000 in
theorem gds_same(v v':Value)(xs:List (Mx×Mx))(w:World)(h0:D_ w v xs)(h1:D_ w v' xs):
  Calls Tryz.prog 17 #[v,v'] w fun e w'=>e=.returned (.bool true)/\Below w.heap.size w w':=by
 obtain ⟨a,cap,rfl,hlc,hcm⟩:=h0.shape
 obtain ⟨a',cap',rfl,_,_⟩:=h1.shape
 have H0:=h_ h0
 have H1:=h_ h1
 obtain ⟨N,hN⟩:=gN (xs.length)
 have HN:=h_ hN
 have hNm:N<=9223372036854775807:=by unfold maxLen at hcm;omega
 rw[hN]at H0 H1 ⊢
 clear h0 h1 hlc hcm hN
 go_enter Tryz.func17,Tryz.ntmps17
 go_wp2
 go_loopw [5] (fun x wr=>∃(i:Nat) (xi:Int),i<=N/\xi=(i:Int)/\x=.int .i64 xi/\Below w.heap.size w wr) (fun x _=>N - (intOf x).toNat)
 case atStart=>exact ⟨0,0,Nat.zero_le _,rfl,rfl,Below.refl _ _⟩
 case round=>
  obtain ⟨i,xi,hi,hxi,rfl,hbw⟩:=hrel
  have HB:=h_ hbw
  have HXI:=h_ hxi
  have hxi0:0<=xi:=by omega
  have hxi1:xi<=9223372036854775807:=by omega
  clear hbw hxi
  by_cases hlt:xi<(N:Int)
  ·have hin:i<N:=by have:=HXI.out;omega
   have hxn:xi.toNat=i:=by have:=HXI.out;omega
   obtain ⟨x,hx⟩:∃x,xs[i]?=some x:=⟨xs[i]'(by have:=HN.out;omega),List.getElem?_eq_getElem _⟩
   obtain ⟨b,off,cp,s0a,s0n,s0k,s1a,s1n,s1k,ev,k0,k1,k2,k3,k4,k5,hs0,hs1⟩:=H0.out.at hx
   injection ev with ev1 ev2 ev3
   clear ev2 ev3
   subst ev1
   obtain ⟨b',off',cp',s0'a,s0'n,s0'k,s1'a,s1'n,s1'k,ev,y0,y1,y2,y3,y4,y5,hs0',hs1'⟩:=H1.out.at hx
   injection ev with ev1 ev2 ev3
   clear ev2 ev3
   subst ev1
   rw[<-hxn]at k0 k1 k2 k3 k4 k5 y0 y1 y2 y3 y4 y5
   have HK:=h_ (fun W (h:Below w.heap.size w W)=>(And.intro (c_ h k0) (And.intro (c_ h k1) (And.intro (c_ h k2) (And.intro (c_ h k3) (And.intro (c_ h k4) (And.intro (c_ h k5) (And.intro (c_ h y0) (And.intro (c_ h y1) (And.intro (c_ h y2) (And.intro (c_ h y3) (And.intro (c_ h y4) (c_ h y5)))))))))))))
   have HM0:=h_ (fun W (h:Below w.heap.size w W)=>matrices_any _ _ x.1 x.1 W ⟨_,rfl,hs0.u_ h⟩ ⟨_,rfl,hs0'.u_ h⟩)
   rw[sameM_refl]at HM0
   have HM1:=h_ (fun W (h:Below w.heap.size w W)=>matrices_any _ _ x.2 x.2 W ⟨_,rfl,hs1.u_ h⟩ ⟨_,rfl,hs1'.u_ h⟩)
   rw[sameM_refl]at HM1
   clear k0 k1 k2 k3 k4 k5 y0 y1 y2 y3 y4 y5 hs0 hs0' hs1 hs1' hx hxn
   obtain ⟨k0,k1,k2,k3,k4,k5,y0,y1,y2,y3,y4,y5⟩:=HK.out wr HB.out
   go_wp2
   refine region_tail 10 (by kernel_rfl) (by kernel_rfl) ?_
   simp only[List.take_succ_cons,List.take_zero,List.drop_succ_cons,List.drop_zero]
   repeat still_step
   refine wpStill_nil ?_
   go_wp2_with fail
   refine (HM0.out _ (r_ HB.out)).mono ?_
   rintro e w1 ⟨rfl,hb1⟩
   have HB1:=h_ (b_ (r_ HB.out) hb1)
   clear hb1 k0 k1 k2 k3 k4 k5 y0 y1 y2 y3 y4 y5
   obtain ⟨k0,k1,k2,k3,k4,k5,y0,y1,y2,y3,y4,y5⟩:=HK.out w1 HB1.out
   have kz1:=k4
   have kz2:=k5
   have yz1:=y4
   have yz2:=y5
   go_wp2
   refine region_tail 10 (by kernel_rfl) (by kernel_rfl) ?_
   simp only[List.take_succ_cons,List.take_zero,List.drop_succ_cons,List.drop_zero]
   repeat still_step
   refine wpStill_nil ?_
   go_wp2_with fail
   refine (HM1.out _ (r_ HB1.out)).mono ?_
   rintro e w2 ⟨rfl,hb2⟩
   have HB2:=h_ (b_ (r_ HB1.out) hb2)
   clear hb2 k0 k1 k2 k3 k4 k5 y0 y1 y2 y3 y4 y5 kz1 kz2 yz1 yz2
   go_wp2
   go_roundw
   case rel=>exact ⟨i+1,_,by omega,by have:=HXI.out;omega,rfl,HB2.out⟩
   case measure=>have:=HXI.out;simp[intOf];omega
  ·go_wp2
   go_ret
   exact ⟨rfl,HB.out⟩
set_option maxHeartbeats 4000000 in
set_option maxRecDepth 100000 in
theorem lys_same(v v':Value)(xs:List Ly)(w:World)(h0:Y_ w v xs)(h1:Y_ w v' xs):
  Calls Tryz.prog 15 #[v,v'] w fun e w'=>e=.returned (.bool true)/\Below w.heap.size w w':=by
 obtain ⟨a,cap,rfl,hlc,hcm⟩:=h0.shape
 obtain ⟨a',cap',rfl,_,_⟩:=h1.shape
 have H0:=h_ h0
 have H1:=h_ h1
 obtain ⟨N,hN⟩:=gN (xs.length)
 have HN:=h_ hN
 have hNm:N<=9223372036854775807:=by unfold maxLen at hcm;omega
 rw[hN]at H0 H1 ⊢
 clear h0 h1 hlc hcm hN
 go_enter Tryz.func15,Tryz.ntmps15
 go_wp2
 go_loopw [5] (fun x wr=>∃(i:Nat) (xi:Int),i<=N/\xi=(i:Int)/\x=.int .i64 xi/\Below w.heap.size w wr) (fun x _=>N - (intOf x).toNat)
 case atStart=>exact ⟨0,0,Nat.zero_le _,rfl,rfl,Below.refl _ _⟩
 case round=>
  obtain ⟨i,xi,hi,hxi,rfl,hbw⟩:=hrel
  have HB:=h_ hbw
  have HXI:=h_ hxi
  have hxi0:0<=xi:=by omega
  have hxi1:xi<=9223372036854775807:=by omega
  clear hbw hxi
  by_cases hlt:xi<(N:Int)
  ·have hin:i<N:=by have:=HXI.out;omega
   have hxn:xi.toNat=i:=by have:=HXI.out;omega
   obtain ⟨x,hx⟩:∃x,xs[i]?=some x:=⟨xs[i]'(by have:=HN.out;omega),List.getElem?_eq_getElem _⟩
   obtain ⟨b,off,cp,s0a,s0n,s0k,s1a,s1n,s1k,ev,k0,k1,k2,k3,k4,k5,k6,hly⟩:=H0.out.at hx
   obtain ⟨hs0,hs1⟩:=Y_.ints hly
   clear hly
   injection ev with ev1 ev2 ev3
   clear ev2 ev3
   subst ev1
   obtain ⟨b',off',cp',s0'a,s0'n,s0'k,s1'a,s1'n,s1'k,ev,y0,y1,y2,y3,y4,y5,y6,hly'⟩:=H1.out.at hx
   obtain ⟨hs0',hs1'⟩:=Y_.ints hly'
   clear hly'
   injection ev with ev1 ev2 ev3
   clear ev2 ev3
   subst ev1
   rw[<-hxn]at k0 k1 k2 k3 k4 k5 k6 y0 y1 y2 y3 y4 y5 y6
   have HK:=h_ (fun W (h:Below w.heap.size w W)=>(And.intro (c_ h k0) (And.intro (c_ h k1) (And.intro (c_ h k2) (And.intro (c_ h k3) (And.intro (c_ h k4) (And.intro (c_ h k5) (And.intro (c_ h k6) (And.intro (c_ h y0) (And.intro (c_ h y1) (And.intro (c_ h y2) (And.intro (c_ h y3) (And.intro (c_ h y4) (And.intro (c_ h y5) (c_ h y6)))))))))))))))
   have HM0:=h_ (fun W (h:Below w.heap.size w W)=>matrices_any _ _ x.w x.w W ⟨_,rfl,hs0.u_ h⟩ ⟨_,rfl,hs0'.u_ h⟩)
   rw[sameM_refl]at HM0
   have HM1:=h_ (fun W (h:Below w.heap.size w W)=>matrices_any _ _ x.b x.b W ⟨_,rfl,hs1.u_ h⟩ ⟨_,rfl,hs1'.u_ h⟩)
   rw[sameM_refl]at HM1
   clear k0 k1 k2 k3 k4 k5 k6 y0 y1 y2 y3 y4 y5 y6 hs0 hs0' hs1 hs1' hx hxn
   obtain ⟨k0,k1,k2,k3,k4,k5,k6,y0,y1,y2,y3,y4,y5,y6⟩:=HK.out wr HB.out
   have kz1:=k2
   have kz2:=k3
   have yz1:=y2
   have yz2:=y3
   go_wp2
   refine region_tail 10 (by kernel_rfl) (by kernel_rfl) ?_
   simp only[List.take_succ_cons,List.take_zero,List.drop_succ_cons,List.drop_zero]
   repeat still_step
   refine wpStill_nil ?_
   go_wp2_with fail
   refine (HM0.out _ (r_ HB.out)).mono ?_
   rintro e w1 ⟨rfl,hb1⟩
   have HB1:=h_ (b_ (r_ HB.out) hb1)
   clear hb1 k0 k1 k2 k3 k4 k5 k6 y0 y1 y2 y3 y4 y5 y6 kz1 kz2 yz1 yz2
   obtain ⟨k0,k1,k2,k3,k4,k5,k6,y0,y1,y2,y3,y4,y5,y6⟩:=HK.out w1 HB1.out
   have kz1:=k5
   have kz2:=k6
   have yz1:=y5
   have yz2:=y6
   go_wp2
   refine region_tail 10 (by kernel_rfl) (by kernel_rfl) ?_
   simp only[List.take_succ_cons,List.take_zero,List.drop_succ_cons,List.drop_zero]
   repeat still_step
   refine wpStill_nil ?_
   go_wp2_with fail
   refine (HM1.out _ (r_ HB1.out)).mono ?_
   rintro e w2 ⟨rfl,hb2⟩
   have HB2:=h_ (b_ (r_ HB1.out) hb2)
   clear hb2 k0 k1 k2 k3 k4 k5 k6 y0 y1 y2 y3 y4 y5 y6 kz1 kz2 yz1 yz2
   obtain ⟨k0,k1,k2,k3,k4,k5,k6,y0,y1,y2,y3,y4,y5,y6⟩:=HK.out w2 HB2.out
   clear k1 k2 k3 k4 k5 k6 y1 y2 y3 y4 y5 y6
   go_wp2
   go_region
   all_goals go_wp2
   all_goals go_roundw
   case rel=>exact ⟨i+1,_,by omega,by have:=HXI.out;omega,rfl,r_ HB2.out⟩
   case measure=>have:=HXI.out;simp[intOf];omega
  ·go_wp2
   go_ret
   exact ⟨rfl,HB.out⟩
set_option maxHeartbeats 4000000 in
set_option maxRecDepth 100000 in
theorem lawstate_any(a:Option Addr)(N cap:Nat)(a1:Option Addr)(N1 cap1:Nat)(n:Int)(w:World):
  Calls Tryz.prog 6 #[.agg #[.slice a N cap,.slice a1 N1 cap1,.int .i64 n]] w fun e w'=>e=.returned (.agg #[.slice a N cap,.slice a1 N1 cap1,.int .i64 n])/\Below w.heap.size w w':=by
 have HB:=h_ (show Below w.heap.size w ((w.alloc (.cells #[.slice a N cap,.slice a1 N1 cap1,.int .i64 n] 25)).alloc (.cells #[.slice a N cap,.slice a1 N1 cap1,.int .i64 n] 35)) from a_ (o_ _ _))
 go_enter Tryz.func6,Tryz.ntmps6
 go_wp2
 exact bodyPost_ret (v:=.agg #[.slice a N cap,.slice a1 N1 cap1,.int .i64 n]) (by simp[results,Tryz.results6,go_sem]) rfl ⟨rfl,HB.out⟩
set_option maxHeartbeats 4000000 in
set_option maxRecDepth 100000 in
theorem lawstates_any(v v1 u u1:Value)(ls:List Ly)(ps:List (Mx×Mx))(n:Int)(w:World)(h0:Y_ w v ls)(h1:D_ w v1 ps)(h2:Y_ w u ls)(h3:D_ w u1 ps):
  Calls Tryz.prog 11 #[.agg #[v,v1,.int .i64 n],.agg #[u,u1,.int .i64 n]] w fun e w'=>e=.returned (.bool true)/\Below w.heap.size w w':=by
 obtain ⟨V,hV⟩:=gM ((w.alloc (.cells #[v,v1,.int .i64 n] 35)).alloc (.cells #[u,u1,.int .i64 n] 25))
 have HV:=h_ hV
 have HWV:Hid (Below w.heap.size w V):=by rw[hV];exact h_ (a_ (o_ _ _))
 have HX0:Hid (Box V w.heap.size [v,v1,.int .i64 n]):=by rw[hV];exact h_ ((Box.new w [v,v1,.int .i64 n] 35 rfl).u_ (o_ _ _))
 have HX1:Hid (Box V (w.heap.size+1) [u,u1,.int .i64 n]):=by rw[hV];exact h_ (Box.new _ [u,u1,.int .i64 n] 25 (by simp))
 have HC:=h_ (lys_same v u ls V (h0.u_ HWV.out) (h2.u_ HWV.out))
 have HD:=h_ (fun W (h:Below w.heap.size w W)=>gds_same v1 u1 ps W (h1.u_ h) (h3.u_ h))
 obtain ⟨va,vk,rfl,_,_⟩:=h0.shape
 obtain ⟨qa,qk,rfl,_,_⟩:=h1.shape
 obtain ⟨ua,uk,rfl,_,_⟩:=h2.shape
 obtain ⟨ta,tk,rfl,_,_⟩:=h3.shape
 obtain ⟨N,hN⟩:=gN (ls.length)
 obtain ⟨N1,hN1⟩:=gN (ps.length)
 rw[hN]at HV HX0 HX1 HC ⊢
 rw[hN1]at HV HX0 HX1 HD ⊢
 have d0:=HX0.out 0 _ rfl
 have e0:=HX1.out 0 _ rfl
 rw[HV.out]at d0 e0
 clear hV h0 h1 h2 h3 hN hN1
 go_enter Tryz.func11,Tryz.ntmps11
 go_wp2_with fail
 rw[<-HV.out]
 refine HC.out.mono ?_
 rintro e w1 ⟨rfl,hb1⟩
 have HB1:=h_ hb1
 have HW1:=h_ (b_ HWV.out hb1)
 clear hb1 d0 e0 HC
 have d1:=(HX0.out.u_ HB1.out) 1 _ rfl
 have e1:=(HX1.out.u_ HB1.out) 1 _ rfl
 go_wp2_with fail
 refine (HD.out _ HW1.out).mono ?_
 rintro e w2 ⟨rfl,hb2⟩
 have HB2:=h_ (b_ HB1.out hb2)
 have HW2:=h_ (b_ HW1.out hb2)
 clear hb2 d1 e1
 have d2:=(HX0.out.u_ HB2.out) 2 _ rfl
 have e2:=(HX1.out.u_ HB2.out) 2 _ rfl
 go_wp2
 go_ret
 exact ⟨rfl,HW2.out⟩
theorem roneof_step(v v1:Value)(ls:List Ly)(ps:List (Mx×Mx))(n:Int)(b:Mx×Mx)(parts le ke:Int)(sa:Option Addr)(sn sk:Nat)(ta:Option Addr)(tn tk:Nat)(w:World)(hv:Y_ w v ls)(hp:D_ w v1 ps)(hs:I_ w (.slice sa sn sk) b.1.cells)(ht:I_ w (.slice ta tn tk) b.2.cells):
  Calls Tryz.prog 10 #[.agg #[v,v1,.int .i64 n],.agg #[.int .i64 b.1.rows,.int .i64 b.1.cols,.slice sa sn sk,.int .i64 b.2.rows,.int .i64 b.2.cols,.slice ta tn tk],.int .i64 parts,.agg #[.int .i64 le,.int .i64 ke]] w fun e w'=>Below w.heap.size w w'/\
   ∃u t,e=.returned (.tuple #[.agg #[u,t,.int .i64 (stepS ⟨ls,ps,n⟩ b parts le ke).n],.int .i64 (stepK ⟨ls,ps,n⟩ b parts le ke),.int .i64 (oneE ls ps n b parts le ke)])/\
    Owns 0 w.heap.size w' 58 7 u (stepS ⟨ls,ps,n⟩ b parts le ke).net.length ((stepS ⟨ls,ps,n⟩ b parts le ke).net.flatMap lyS)/\Owns 0 w.heap.size w' 61 6 t (stepS ⟨ls,ps,n⟩ b parts le ke).spd.length ((stepS ⟨ls,ps,n⟩ b parts le ke).spd.flatMap gdS):=by
 refine (roneof_owns v v1 ls ps n b parts le ke sa sn sk ta tn tk w hv hp hs ht).mono ?_
 rintro e w1 ⟨hb,h⟩
 refine ⟨hb,?_⟩
 rcases h with ⟨h0,u,t,rfl,h1,h2⟩|⟨h0,rfl⟩
 ·have eS:stepS ⟨ls,ps,n⟩ b parts le ke=nextS ⟨ls,ps,n⟩ b parts le ke:=by unfold stepS;rw[if_pos (show nextE ⟨ls,ps,n⟩ b parts le ke=0 from h0)]
  have eK:stepK ⟨ls,ps,n⟩ b parts le ke=sumAt ls (splX b parts):=by unfold stepK;rw[if_pos (show nextE ⟨ls,ps,n⟩ b parts le ke=0 from h0)];rfl
  rw[eS,eK,h0]
  exact ⟨u,t,rfl,h1,h2⟩
 ·have eS:stepS ⟨ls,ps,n⟩ b parts le ke=noSt:=by unfold stepS;rw[if_neg (show ¬nextE ⟨ls,ps,n⟩ b parts le ke=0 from h0)]
  have eK:stepK ⟨ls,ps,n⟩ b parts le ke=0:=by unfold stepK;rw[if_neg (show ¬nextE ⟨ls,ps,n⟩ b parts le ke=0 from h0)]
  rw[eS,eK]
  exact ⟨_,_,rfl,Owns.nil _ _ _ _ _,Owns.nil _ _ _ _ _⟩
end Go.Proofs.YtniloklglpchfaeGreatDoor
