/- The walk of the law TrainAlls: All and Begin of package train answer what the document says. Conditions: the room that any slice that comes in may have; the library's variable errors.errorType is as its text lays it. -/
import Derived.Test.YtniloklglpchfaeGreatDoorTrC7
import Derived.Test.YtniloklglpchfaeGreatDoorPkROneOf
import Derived.Test.YtniloklglpchfaeGreatDoorPkAs
import Derived.Test.YtniloklglpchfaeGreatDoorPkRStepE
import Derived.StillTailTactics
import Derived.Deep.CutBlock
import Derived.Deep.CutRange
namespace Go.Proofs.YtniloklglpchfaeGreatDoor
open Go.RowKit
theorem sameI_refl(zs:List Int):sameI zs zs=true:=by unfold sameI;simp
theorem allE_loop(s:St)(bs:List (Mx×Mx))(parts le ke:Int):allE s bs parts le ke=if (if 20<bs.length then (3:Int) else if bs=[] then stE1 s else 0)≠0 then (if 20<bs.length then (3:Int) else if bs=[] then stE1 s else 0) else runsE parts le ke s bs:=by
 unfold allE
 by_cases h1:20<bs.length
 ·rw[if_pos h1,if_pos h1,if_pos (by decide)]
 ·rw[if_neg h1,if_neg h1]
  by_cases h2:bs=[]
  ·rw[if_pos h2,if_pos h2]
   by_cases h3:stE1 s=0
   ·rw[if_neg (by simp[h3]),h3,h2];rfl
   ·rw[if_pos h3]
  ·rw[if_neg h2,if_neg h2,if_neg (by simp)]
set_option maxHeartbeats 40000000 in
set_option maxRecDepth 100000 in
theorem talls_walk(v0 v1 vl:Value)(ls:List Ly)(ps:List (Mx×Mx))(n:Int)(bs:List (Mx×Mx))(parts le ke:Int)(w:World)(w0:Y_ w v0 ls)(w1:D_ w v1 ps)(w2:IsBts w vl bs)(hle:ls.length<=1599289640355)(hz:∀l∈ls,l.w.cells.length<=17592186043904/\l.b.cells.length<=17592186043904)(hH:Handle w):Calls Tryz.prog 4 #[.agg #[v0,v1,.int .i64 n],vl,.int .i64 parts,.agg #[.int .i64 le,.int .i64 ke]] w fun e w'=>e=.returned (.bool true)/\Below w.heap.size w w':=by
 obtain ⟨a,cap,rfl,_,_⟩:=w0.shape
 obtain ⟨a1,cap1,rfl,_,_⟩:=w1.shape
 obtain ⟨la,lk,rfl,hlc,hlm⟩:=(show D_ w vl bs from w2).shape
 obtain ⟨N,hN⟩:=gN (ls.length)
 obtain ⟨N1,hN1⟩:=gN (ps.length)
 obtain ⟨M,hM⟩:=gN (bs.length)
 have HMM:=h_ hM
 have HLE:=h_ hle
 have HZ:=h_ hz
 rw[hN]at w0 ⊢
 rw[hN1]at w1 ⊢
 replace w2:D_ w (.slice la bs.length lk) bs:=w2
 rw[hM]at w2 hlc ⊢
 have hm0:M<=maxLen:=by omega
 unfold maxLen at hm0
 obtain ⟨V,hV⟩:=gM ((w.alloc (.cells #[.slice a N cap,.slice a1 N1 cap1,.int .i64 n] 25)).alloc (.cells #[.int .i64 le,.int .i64 ke] 32))
 have HV:=h_ hV
 have HWV:Hid (Below w.heap.size w V):=by rw[hV];exact h_ (a_ (o_ _ _))
 have HX0:Hid (Box V w.heap.size [.slice a N cap,.slice a1 N1 cap1,.int .i64 n]):=by rw[hV];exact h_ ((Box.new w [.slice a N cap,.slice a1 N1 cap1,.int .i64 n] 25 rfl).u_ (o_ _ _))
 have HX2:Hid (Box V (w.heap.size+1) [.int .i64 le,.int .i64 ke]):=by rw[hV];exact h_ (Box.new _ [.int .i64 le,.int .i64 ke] 32 (by simp))
 have P0:=h_ w0
 have P1:=h_ w1
 have P2:=h_ w2
 have M0:=h_ (w0.u_ HWV.out)
 have M1:=h_ (w1.u_ HWV.out)
 have M2:=h_ (w2.u_ HWV.out)
 have HH:=h_ (hH.u_ HWV.out)
 obtain ⟨E,hE⟩:=gN (allE ⟨ls,ps,n⟩ bs parts le ke)
 obtain ⟨X,hX⟩:=gN (allS ⟨ls,ps,n⟩ bs parts le ke)
 obtain ⟨K,hK⟩:=gN (allK ⟨ls,ps,n⟩ bs parts le ke)
 obtain ⟨E0,hE0⟩:∃E:Int,E=if 20<M then 3 else 0:=⟨_,rfl⟩
 obtain ⟨E1,hE1⟩:∃E:Int,E=if 20<M then 3 else if bs=[] then stateE ls ps n else 0:=⟨_,rfl⟩
 have HE0:=h_ hE0
 have HE1:=h_ hE1
 have HE:=h_ (And.intro hE (And.intro hX hK))
 have HEL:=h_ (show E=if E1≠0 then E1 else runsE parts le ke ⟨ls,ps,n⟩ bs by rw[<-hE,allE_loop,hE1,hM];rfl)
 have HXL:=h_ (show X=if E=0 then runsS parts le ke ⟨ls,ps,n⟩ bs else noSt by rw[<-hE,<-hX];rfl)
 have HKL:=h_ (show K=if E=0 then runsK parts le ke ⟨ls,ps,n⟩ bs else [] by rw[<-hE,<-hK];rfl)
 have HBN:=h_ (show bs=[]↔M=0 from ⟨fun h=>by rw[<-HMM.out,h];rfl,fun h=>List.eq_nil_of_length_eq_zero (HMM.out.trans h)⟩)
 clear w0 w1 w2 hH hE hX hK hN hN1 hM hlc hlm hle hz hE0 hE1
 have C0:=h_ (Below.refl V.heap.size V)
 obtain ⟨d0,d1,d2⟩:=(HX0.out.u_ C0.out).c3
 rw[HV.out]at d0 d1 d2
 clear hV
 go_enter Tryz.func4,Tryz.ntmps4
 have HX:=h_ (lawstate_any a N cap a1 N1 cap1 n V)
 go_wp2_with fail
 rw[<-HV.out]
 refine HX.out.mono ?_
 rintro e u1 ⟨rfl,hb⟩
 replace C0:=h_ (b_ C0.out hb)
 clear HX hb
 have C1:=h_ (Below.refl u1.heap.size u1)
 clear d0 d1 d2
 replace C0:=h_ (a_ (o:=(.cells #[.slice a N cap,.slice a1 N1 cap1,.int .i64 n] 35)) C0.out)
 replace C1:=h_ (a_ (o:=(.cells #[.slice a N cap,.slice a1 N1 cap1,.int .i64 n] 35)) C1.out)
 have HX3:=h_ (show Box (u1.alloc (.cells #[.slice a N cap,.slice a1 N1 cap1,.int .i64 n] 35)) u1.heap.size [.slice a N cap,.slice a1 N1 cap1,.int .i64 n] from Box.new _ _ _ rfl)
 have C2:=h_ (Below.refl (u1.alloc (.cells #[.slice a N cap,.slice a1 N1 cap1,.int .i64 n] 35)).heap.size (u1.alloc (.cells #[.slice a N cap,.slice a1 N1 cap1,.int .i64 n] 35)))
 obtain ⟨r0,r1⟩:=(HX2.out.u_ C0.out).c2
 have HX:=h_ (trall_any _ _ _ ls ps n bs parts le ke _ (M0.out.u_ C0.out) (M1.out.u_ C0.out) (M2.out.u_ C0.out))
 go_wp2_with fail
 refine HX.out.mono ?_
 rintro e u2 ⟨hb,x1,x2,x3,rfl,ho1,ho2,ho3⟩
 replace C0:=h_ (b_ C0.out hb)
 replace C1:=h_ (b_ C1.out hb)
 replace C2:=h_ (b_ C2.out hb)
 clear HX hb
 have C3:=h_ (Below.refl u2.heap.size u2)
 rw[HE.out.1,HE.out.2.1]
 rw[HE.out.2.1]at ho1 ho2
 rw[HE.out.2.2]at ho3
 have Hp1:=h_ ho1
 have Hp2:=h_ ho2
 have Hp3:=h_ ho3
 obtain ⟨pa,pk,rfl,_,_⟩:=Hp1.out.shape
 obtain ⟨pb,pl,rfl,_,_⟩:=Hp2.out.shape
 obtain ⟨oa,on,ok,rfl⟩:=ho3.shape
 clear ho1 ho2 ho3 r0 r1
 obtain ⟨XN,eXN⟩:=gN (X.net.length)
 obtain ⟨XV,eXV⟩:=gN (X.spd.length)
 obtain ⟨xn,exn⟩:=gN (X.n)
 have HXN:=h_ (And.intro eXN (And.intro eXV exn))
 rw[eXN]at Hp1 ⊢
 rw[eXV]at Hp2 ⊢
 rw[exn]
 clear eXN eXV exn
 obtain ⟨EV,hEV⟩:=gM (errV E)
 have HEV:=h_ hEV
 rw[<-hEV]
 clear hEV
 replace C0:=h_ (a_ (o:=(.cells #[.slice pa XN pk,.slice pb XV pl,.int .i64 xn] 35)) C0.out)
 replace C1:=h_ (a_ (o:=(.cells #[.slice pa XN pk,.slice pb XV pl,.int .i64 xn] 35)) C1.out)
 replace C2:=h_ (a_ (o:=(.cells #[.slice pa XN pk,.slice pb XV pl,.int .i64 xn] 35)) C2.out)
 replace C3:=h_ (a_ (o:=(.cells #[.slice pa XN pk,.slice pb XV pl,.int .i64 xn] 35)) C3.out)
 have HX4:=h_ (show Box (u2.alloc (.cells #[.slice pa XN pk,.slice pb XV pl,.int .i64 xn] 35)) u2.heap.size [.slice pa XN pk,.slice pb XV pl,.int .i64 xn] from Box.new _ _ _ rfl)
 have C4:=h_ (Below.refl (u2.alloc (.cells #[.slice pa XN pk,.slice pb XV pl,.int .i64 xn] 35)).heap.size (u2.alloc (.cells #[.slice pa XN pk,.slice pb XV pl,.int .i64 xn] 35)))
 obtain ⟨V2,hV2⟩:=gM ((u2.alloc (.cells #[.slice pa XN pk,.slice pb XV pl,.int .i64 xn] 35)))
 have HV2:=h_ hV2
 have HU2:=h_ (show u2.heap.size=u2.heap.size from rfl)
 replace HX0:=h_ (HX0.out.u_ C0.out)
 rw[<-hV2]at HX0
 replace HX2:=h_ (HX2.out.u_ C0.out)
 rw[<-hV2]at HX2
 replace M0:=h_ (M0.out.u_ C0.out)
 rw[<-hV2]at M0
 replace M1:=h_ (M1.out.u_ C0.out)
 rw[<-hV2]at M1
 replace M2:=h_ (M2.out.u_ C0.out)
 rw[<-hV2]at M2
 replace HH:=h_ (HH.out.u_ C0.out)
 rw[<-hV2]at HH
 replace HX4:=h_ (HX4.out.u_ C4.out)
 rw[<-hV2]at HX4
 replace Hp1:=h_ (Hp1.out.u_ C3.out)
 rw[<-hV2]at Hp1
 replace Hp2:=h_ (Hp2.out.u_ C3.out)
 rw[<-hV2]at Hp2
 replace Hp3:=h_ (Hp3.out.u_ C3.out)
 rw[<-hV2]at Hp3
 have HW2:=h_ (b_ HWV.out C0.out)
 rw[<-hV2]at HW2
 clear hV2 C0 C1 C2 C3 C4 HX3
 obtain ⟨BX,hBX⟩:=gN (u2.heap.size)
 rw[hBX]at HX4
 have HBX:=h_ hBX
 clear hBX HU2
 go_upto_if 38 with fail
 rw[<-HV2.out,HBX.out]
 clear HV2 HBX
 go_cut [13] from 25 to 120 (fun ev wx=>ev=.int .i64 E0/\V2=wx)
 case first=>as_aux_lemma=>
  by_cases c0:20<M
  ·have hq:(20:Int)<(M:Int):=by omega
   have HC:=h_ (show E0=3 by rw[HE0.out,if_pos c0])
   clear c0
   go_wp2
   go_meet
   exact ⟨by rw[HC.out],rfl⟩
  ·have hq:¬(20:Int)<(M:Int):=by omega
   have HC:=h_ (show E0=0 by rw[HE0.out,if_neg c0])
   clear c0
   go_wp2
   go_meet
   exact ⟨by rw[HC.out],rfl⟩
 case rest=>
 obtain ⟨rfl,rfl⟩:=hcut
 obtain ⟨cb,hcb⟩:∃c:Bool,c=decide (¬20<M/\M=0):=⟨_,rfl⟩
 have HCB:=h_ hcb
 clear hcb
 go_upto_region 6 with fail
 go_cut [45] from 25 to 120 (fun c wx=>c=.bool cb/\V2=wx)
 case first=>as_aux_lemma=>
  by_cases c0:20<M
  ·have hq:(E0==0)=false:=by rw[HE0.out,if_pos c0];rfl
   obtain rfl:cb=false:=by rw[HCB.out];exact decide_eq_false (fun h=>h.1 c0)
   clear c0
   go_wp2
   go_meet
   exact ⟨rfl,rfl⟩
  ·have hq:(E0==0)=true:=by rw[HE0.out,if_neg c0];rfl
   by_cases c1:M=0
   ·have hq1:((M:Int)==0)=true:=by simp[c1]
    obtain rfl:cb=true:=by rw[HCB.out];exact decide_eq_true ⟨c0,c1⟩
    clear c0 c1
    go_wp2
    go_meet
    exact ⟨rfl,rfl⟩
   ·have hq1:((M:Int)==0)=false:=by simp;omega
    obtain rfl:cb=false:=by rw[HCB.out];exact decide_eq_false (fun h=>c1 h.2)
    clear c0 c1
    go_wp2
    go_meet
    exact ⟨rfl,rfl⟩
 case rest=>
 obtain ⟨rfl,rfl⟩:=hcut
 go_upto_if 45 with fail
 go_cut [13] from 25 to 120 (fun ev wx=>ev=.int .i64 E1/\Below V2.heap.size V2 wx)
 case first=>as_aux_lemma=>
  cases cb with
  |true=>
   obtain ⟨c0,c1⟩:=of_decide_eq_true HCB.out.symm
   have HC:=h_ (show stateE ls ps n=E1 by rw[HE1.out,if_neg c0,if_pos (HBN.out.2 c1)])
   obtain ⟨d0,d1,d2⟩:=HX0.out.c3
   have HS:=h_ (rstatefault_any _ _ ls ps n V2 M0.out M1.out)
   rw[HC.out]at HS
   clear c0 c1
   go_wp2_with fail
   refine HS.out.mono ?_
   rintro e w3 ⟨rfl,hb3⟩
   clear d0 d1 d2 HS
   go_wp2
   go_meet
   exact ⟨rfl,hb3⟩
  |false=>
   have c0:=of_decide_eq_false HCB.out.symm
   have HC:=h_ (show E0=E1 by
    rw[HE0.out,HE1.out]
    by_cases h:20<M
    ·rw[if_pos h,if_pos h]
    ·rw[if_neg h,if_neg h,if_neg (fun h'=>c0 ⟨h,HBN.out.1 h'⟩)])
   clear c0
   go_wp2
   go_meet
   exact ⟨by rw[HC.out],Below.refl _ _⟩
 case rest=>
 obtain ⟨rfl,hbc⟩:=hcut
 obtain ⟨W1,hW1⟩:=gM (wc)
 subst hW1
 obtain ⟨V3,hV3⟩:=gM (W1.alloc (.cells #[.slice a N cap,.slice a1 N1 cap1,.int .i64 n] 25))
 have HV3:=h_ hV3
 obtain ⟨B,hB⟩:=gN (W1.heap.size)
 have HBB:=h_ hB
 have HS3:Hid (V3.heap.size=B+1):=by rw[hV3,<-hB];exact h_ (by simp)
 have HC3:Hid (Below V2.heap.size V2 V3):=by rw[hV3];exact h_ (a_ hbc)
 have LB:Hid (V2.heap.size<=B):=by rw[<-hB];exact h_ hbc.size
 have LW:Hid (w.heap.size<=B):=h_ (Nat.le_trans HW2.out.size LB.out)
 have HY3:Hid (Box V3 B [.slice a N cap,.slice a1 N1 cap1,.int .i64 n]):=by rw[hV3];exact h_ (Box.new W1 _ 25 hB)
 have HF3:Hid (Free V3 B):=by rw[hV3];exact h_ (Free.new W1 _ 25 hB)
 have HW3:=h_ (b_ HW2.out HC3.out)
 obtain ⟨e0,ei,hz0,hz1,hz2⟩:=info_parts infoInt
 have HEI:=h_ (And.intro ei (And.intro hz0 (And.intro hz1 hz2)))
 obtain ⟨d0,d1,d2⟩:=(HX0.out.u_ hbc).c3
 clear hbc hV3 hB ei hz0 hz1 hz2
 go_upto_block 0 with fail
 rw[<-HV3.out,HBB.out]
 clear HV3 HBB d0 d1 d2
 go_cut [13,15] from 16 to 120 (fun ev wv wx=>ev=.int .i64 E/\Below V2.heap.size V2 wx/\Free wx B/\∃(u t:Value) (s:St) (ks:List Int),Box wx B [u,t,.int .i64 s.n]/\(∃x y z,u=.slice x y z)/\(∃x y z,t=.slice x y z)/\(∃x y z,wv=.slice x y z)/\(E=0->s=X/\ks=K/\Y_ wx u s.net/\D_ wx t s.spd/\I_ wx wv ks))
 case first=>as_aux_lemma=>
  have HLD:∀b,(fun b=>b=B\/(Value.slice none 0 0).ownBlock=some b) b->w.heap.size<=b:=fun b hb=>by
   rcases hb with hb|hb
   ·rw[hb];exact LW.out
   ·simp[Value.ownBlock]at hb
  have HLY:=h_ (Reads.hold (show Reads w (.slice a N cap) ls.length (ls.flatMap lyS) from P0.out) HW3.out HLD)
  have HGD:=h_ (Reads.hold (show Reads w (.slice a1 N1 cap1) ps.length (ps.flatMap gdS) from P1.out) HW3.out HLD)
  clear HLD
  go_wp2_with fail
  go_loopw [13,15,16] (fun ev wv iv wr=>∃(i:Nat) (xi Fe:Int) (s:St) (ks:List Int) (u t:Value),i<=M/\xi=(i:Int)/\iv=.int .i64 xi/\ev=.int .i64 Fe/\ks.length=i/\
   ((Fe=0/\E1=0/\runsE parts le ke s (bs.drop i)=E/\runsS parts le ke s (bs.drop i)=runsS parts le ke ⟨ls,ps,n⟩ bs/\ks++runsK parts le ke s (bs.drop i)=runsK parts le ke ⟨ls,ps,n⟩ bs)\/(Fe≠0/\Fe=E))/\
   Box wr B [u,t,.int .i64 s.n]/\Free wr B/\Hold (fun b=>b=B\/(wv).ownBlock=some b) wr (fun W=>Y_ W u s.net)/\Hold (fun b=>b=B\/(wv).ownBlock=some b) wr (fun W=>D_ W t s.spd)/\Owns 0 (B+1) wr 3 1 wv i (ks.map Sum.inl)/\Below V2.heap.size V2 wr/\(Fe=0\/i=0\/i<=20)) (fun _ _ iv _=>M - (intOf iv).toNat)
  case atStart=>
   refine ⟨0,0,E1,⟨ls,ps,n⟩,[],_,_,Nat.zero_le _,rfl,rfl,rfl,rfl,?_,HY3.out,HF3.out,HLY.out,HGD.out,Owns.nil _ _ _ _ _,HC3.out,.inr (.inl rfl)⟩
   by_cases q:E1=0
   ·exact .inl ⟨q,q,by rw[HEL.out,if_neg (by simp[q])];rfl,rfl,rfl⟩
   ·exact .inr ⟨q,by rw[HEL.out,if_pos q]⟩
  case round=>
   obtain ⟨i,xi,Fe,s,ks,u,t,hi,hxi,rfl,rfl,hkl,hor,hbx,hfr,hhl,hhg,how,hbw,_⟩:=hrel
   obtain ⟨pna,pnk,rfl,_,_⟩:=(show Y_ wr u s.net from hhl.now).shape
   obtain ⟨qna,qnk,rfl,_,_⟩:=(show D_ wr t s.spd from hhg.now).shape
   obtain ⟨oa',ok',ew,_,_⟩:=(show I_ wr u15 ks by have h:=how;rw[<-hkl]at h;exact h.ints)
   have HXI:=h_ hxi
   have HKLN:=h_ hkl
   have HOR:=h_ hor
   have HBX:=h_ hbx
   have HFR:=h_ hfr
   have HHL:=h_ hhl
   have HHG:=h_ hhg
   have HOW:=h_ how
   have HBV:=h_ hbw
   have HBW:=h_ (b_ HW2.out hbw)
   have HEW:=h_ ew
   have hxi0:0<=xi:=by omega
   have hxiM:xi<=(M:Int):=by omega
   have hxi63:xi<=9223372036854775807:=by omega
   clear hxi hkl hor hbx hfr hhl hhg how hbw ew
   have FIN:=h_ (show (Fe=E)->(E=0->i=M)->(Value.int .i64 Fe=.int .i64 E/\Below V2.heap.size V2 wr/\Free wr B/\∃(u t:Value) (s:St) (ks:List Int),Box wr B [u,t,.int .i64 s.n]/\(∃x y z,u=.slice x y z)/\(∃x y z,t=.slice x y z)/\(∃x y z,u15=.slice x y z)/\(E=0->s=X/\ks=K/\Y_ wr u s.net/\D_ wr t s.spd/\I_ wr u15 ks)) from fun hFE hall=>⟨by rw[hFE],HBV.out,HFR.out,_,_,s,ks,HBX.out,⟨_,_,_,rfl⟩,⟨_,_,_,rfl⟩,⟨_,_,_,HEW.out⟩,fun hz=>by
    have hiM:=hall hz
    have hdr:bs.drop i=[]:=by rw[hiM,<-HMM.out,List.drop_length]
    rcases HOR.out with ⟨_,_,_,r2,r3⟩|⟨r1,r2⟩
    ·rw[hdr]at r2 r3
     refine ⟨?_,?_,HHL.out.now,HHG.out.now,?_⟩
     ·rw[HXL.out,if_pos hz];exact r2
     ·rw[HKL.out,if_pos hz,<-r3];show ks=ks++[];simp
     ·have h:=HOW.out;rw[<-HKLN.out]at h;exact h.ints
    ·exact absurd (r2.trans hz) r1⟩)
   by_cases hlt:xi<(M:Int)
   ·by_cases hF:Fe=0
    case neg=>
     have hq:(Fe==0)=false:=by simpa using hF
     have HFE:=h_ (FIN.out (HOR.out.elim (fun h=>absurd h.1 hF) (fun h=>h.2)) (fun hz=>absurd ((HOR.out.elim (fun h=>absurd h.1 hF) (fun h=>h.2)).trans hz) hF))
     clear hF FIN
     go_wp2
     go_meet
     exact HFE.out
    subst hF
    obtain ⟨_,q1,q2,q3,q4⟩:=HOR.out.resolve_right (fun h=>h.1 rfl)
    have hM20:M<=20:=by
     have h:=HE1.out
     rw[q1]at h
     by_cases h20:20<M
     ·rw[if_pos h20]at h;cases h
     ·omega
    have HQ:=h_ (And.intro q1 (And.intro q2 (And.intro q3 q4)))
    have hin:i<M:=by have:=HXI.out;omega
    have hxn:xi.toNat=i:=by have:=HXI.out;omega
    obtain ⟨d,hd⟩:∃x,bs[i]?=some x:=⟨bs[i]'(by have:=HMM.out;omega),List.getElem?_eq_getElem _⟩
    obtain ⟨ub,uo,uc,xa,xn',xk,ya,yn,yk,ev,c0,c1,c2,c3,c4,c5,hdw,hdb⟩:=P2.out.at hd
    obtain rfl:=(Value.slice.inj ev).1
    rw[<-hxn]at c0 c1 c2 c3 c4 c5
    have HCW:=h_ (And.intro c0 (And.intro c1 (And.intro c2 (And.intro c3 (And.intro c4 c5)))))
    have HSB:Hid (∀W',Below V2.heap.size V2 W'->(fun W'=>W'.cell? ⟨ub,uo+xi.toNat*6,none⟩=some (.int .i64 d.1.rows)/\W'.cell? ⟨ub,uo+xi.toNat*6+1,none⟩=some (.int .i64 d.1.cols)/\W'.cell? ⟨ub,uo+xi.toNat*6+2,none⟩=some (.slice xa xn' xk)/\W'.cell? ⟨ub,uo+xi.toNat*6+3,none⟩=some (.int .i64 d.2.rows)/\W'.cell? ⟨ub,uo+xi.toNat*6+4,none⟩=some (.int .i64 d.2.cols)/\W'.cell? ⟨ub,uo+xi.toNat*6+5,none⟩=some (.slice ya yn yk)/\W'.cell? ⟨w.heap.size+1,0,none⟩=some (.int .i64 le)/\W'.cell? ⟨w.heap.size+1,1,none⟩=some (.int .i64 ke)) W'):=h_ (fun W' h=>have hx:=b_ HW2.out h;⟨c_ hx HCW.out.1,c_ hx HCW.out.2.1,c_ hx HCW.out.2.2.1,c_ hx HCW.out.2.2.2.1,c_ hx HCW.out.2.2.2.2.1,c_ hx HCW.out.2.2.2.2.2,(HX2.out.u_ h) 0 _ rfl,(HX2.out.u_ h) 1 _ rfl⟩)
    clear c0 c1 c2 c3 c4 c5
    have HDR:=h_ (drop_at hd)
    obtain ⟨pn,epn⟩:=gN (s.net.length)
    obtain ⟨qn,eqn⟩:=gN (s.spd.length)
    obtain ⟨sn',esn⟩:=gN (s.n)
    rw[epn]at HBX HHL
    rw[eqn]at HBX HHG
    rw[esn]at HBX
    have HSN:=h_ esn
    have HON:=h_ (roneof_step (.slice pna pn pnk) (.slice qna qn qnk) s.net s.spd s.n d parts le ke xa xn' xk ya yn yk wr.drew ((show Y_ wr (.slice pna pn pnk) s.net from HHL.out.now).u_ (d_ (Below.refl _ _))) ((show D_ wr (.slice qna qn qnk) s.spd from HHG.out.now).u_ (d_ (Below.refl _ _))) (hdw.u_ (d_ HBW.out)) (hdb.u_ (d_ HBW.out)))
    obtain ⟨F1,hF1⟩:=gN (oneE s.net s.spd s.n d parts le ke)
    have HF1:=h_ (show nextE s d parts le ke=F1 from hF1)
    rw[hF1,HSN.out]at HON
    obtain ⟨X1,hX1⟩:=gN (stepS ⟨s.net,s.spd,sn'⟩ d parts le ke)
    obtain ⟨K1,hK1⟩:=gN (stepK ⟨s.net,s.spd,sn'⟩ d parts le ke)
    rw[hX1,hK1]at HON
    have HX1':=h_ (show (if F1=0 then nextS s d parts le ke else noSt)=X1 by rw[<-hX1,<-HF1.out,<-HSN.out];rfl)
    have HK1':=h_ (show (if F1=0 then nextK s d parts else 0)=K1 by rw[<-hK1,<-HF1.out,<-HSN.out];rfl)
    obtain ⟨b0,b1,b2⟩:=HBX.out.c3
    have hq:((0:Int)==0)=true:=rfl
    obtain ⟨un,eun⟩:=gN (X1.net.length)
    obtain ⟨vn,evn⟩:=gN (X1.spd.length)
    obtain ⟨nn,enn⟩:=gN (X1.n)
    rw[eun,evn,enn]at HON
    have HEU:=h_ (And.intro eun evn)
    have HNN:=h_ enn
    have hBlt:B<wr.heap.size:=HBX.out.lt
    have HBL:=h_ hBlt
    clear ev hdw hdb hd hxn hF1 hX1 hK1 q1 q2 q3 q4 epn eqn esn FIN eun evn enn hBlt
    obtain ⟨lm0,lm1,lm2,lm3,lm4,lm5,lm6,lm7⟩:=HSB.out wr HBV.out
    go_wp2
    refine wp_region_held_drew (S:=(fun W'=>W'.cell? ⟨ub,uo+xi.toNat*6,none⟩=some (.int .i64 d.1.rows)/\W'.cell? ⟨ub,uo+xi.toNat*6+1,none⟩=some (.int .i64 d.1.cols)/\W'.cell? ⟨ub,uo+xi.toNat*6+2,none⟩=some (.slice xa xn' xk)/\W'.cell? ⟨ub,uo+xi.toNat*6+3,none⟩=some (.int .i64 d.2.rows)/\W'.cell? ⟨ub,uo+xi.toNat*6+4,none⟩=some (.int .i64 d.2.cols)/\W'.cell? ⟨ub,uo+xi.toNat*6+5,none⟩=some (.slice ya yn yk)/\W'.cell? ⟨w.heap.size+1,0,none⟩=some (.int .i64 le)/\W'.cell? ⟨w.heap.size+1,1,none⟩=some (.int .i64 ke))) (by kernel_rfl) (HSB.out _ (d_ HBV.out)) (fun hHeld=>?_)
    refine wpAnyH_take (i := 1) (oi := { dst := some 61, op := .move (.tmp 1), type := 47, pos := "train.go:54", after := #[], guard := none }) (v := ?v1) rfl (by kernel_rfl) (by kernel_rfl) (by kernel_rfl) (fun _ _ _ h => h) (Or.inl ⟨by rfl, ?hy1⟩) (by assumption) ?rest1
    case hy1=>(intro w hSw;(try dsimp only at hSw);go_simp;(try with_reducible rfl))
    try simp only[Act.put,List.setIfInBounds_toArray,List.set_cons_zero,List.set_cons_succ]
    refine wpAnyH_take (i := 2) (oi := { dst := some 62, op := .move (.tmp 16), type := 3, pos := "train.go:54", after := #[], guard := none }) (v := ?v2) rfl (by kernel_rfl) (by kernel_rfl) (by kernel_rfl) (fun _ _ _ h => h) (Or.inl ⟨by rfl, ?hy2⟩) (by assumption) ?rest2
    case hy2=>(intro w hSw;(try dsimp only at hSw);go_simp;(try with_reducible rfl))
    try simp only[Act.put,List.setIfInBounds_toArray,List.set_cons_zero,List.set_cons_succ]
    refine wpAnyH_take (i := 3) (oi := { dst := some 63, op := .indexAddr 47 (.tmp 61) (.tmp 62), type := 0, pos := "train.go:54", after := #[{ on := 1, ground := .data }, { on := 2, ground := .data }], guard := none }) (v := ?v3) rfl (by kernel_rfl) (by kernel_rfl) (by kernel_rfl) (fun _ _ _ h => h) (Or.inl ⟨by rfl, ?hy3⟩) (by assumption) ?rest3
    case hy3=>(intro w hSw;(try dsimp only at hSw);go_simp;(try with_reducible rfl))
    try simp only[Act.put,List.setIfInBounds_toArray,List.set_cons_zero,List.set_cons_succ]
    refine wpAnyH_take (i := 4) (oi := { dst := some 64, op := .load 30 (.tmp 63), type := 30, pos := "train.go:54", after := #[{ on := 3, ground := .data }], guard := none }) (v := ?v4) rfl (by kernel_rfl) (by kernel_rfl) (by kernel_rfl) (fun _ _ _ h => h) (Or.inl ⟨by rfl, ?hy4⟩) (by assumption) ?rest4
    case hy4=>(intro w hSw;(try dsimp only at hSw);go_simp;(try with_reducible rfl))
    try simp only[Act.put,List.setIfInBounds_toArray,List.set_cons_zero,List.set_cons_succ]
    refine wpAnyH_take (i := 5) (oi := { dst := some 65, op := .move (.tmp 2), type := 3, pos := "train.go:54", after := #[], guard := none }) (v := ?v5) rfl (by kernel_rfl) (by kernel_rfl) (by kernel_rfl) (fun _ _ _ h => h) (Or.inl ⟨by rfl, ?hy5⟩) (by assumption) ?rest5
    case hy5=>(intro w hSw;(try dsimp only at hSw);go_simp;(try with_reducible rfl))
    try simp only[Act.put,List.setIfInBounds_toArray,List.set_cons_zero,List.set_cons_succ]
    refine wpAnyH_take (i := 6) (oi := { dst := some 66, op := .load 32 (.tmp 7), type := 32, pos := "train.go:54", after := #[], guard := none }) (v := ?v6) rfl (by kernel_rfl) (by kernel_rfl) (by kernel_rfl) (fun _ _ _ h => h) (Or.inl ⟨by rfl, ?hy6⟩) (by assumption) ?rest6
    case hy6=>(intro w hSw;(try dsimp only at hSw);go_simp;(try with_reducible rfl))
    try simp only[Act.put,List.setIfInBounds_toArray,List.set_cons_zero,List.set_cons_succ]
    refine wpAnyH_ready (rs:=[0]) (by kernel_rfl) (by simp) ?_
    refine AllReadyH.cons (o := { dst := some 60, op := .load 25 (.tmp 14), type := 25, pos := "train.go:54", after := #[], guard := none }) rfl (fun K hK => ?_) AllReadyH.nil
    go_simp
    refine hK.out _ _ ?hS0 (fun hHeld0=>?_)
    case hS0=>exact hHeld
    clear hK K
    try simp only[Act.put,List.setIfInBounds_toArray,List.set_cons_zero,List.set_cons_succ]
    refine wpAnyH_ready (rs:=[7]) (by kernel_rfl) (by simp) ?_
    refine AllReadyH.cons (o := { dst := some 67, op := .call { callee := .value (.func 10), args := #[.tmp 60, .tmp 64, .tmp 65, .tmp 66], argTypes := #[25, 30, 3, 32] }, type := 43, pos := "train.go:54", after := #[{ on := 0, ground := .data }, { on := 4, ground := .data }, { on := 5, ground := .data }, { on := 6, ground := .data }], guard := none }) rfl (fun K hK => ?_) AllReadyH.nil
    go_simp
    go_at_call 10
    refine HON.out.mono ?_
    rintro e w4 ⟨hb4,u1',t1',rfl,ho1,ho2⟩
    obtain ⟨ua,uk,rfl,_,_,_⟩:=ho1.reads
    obtain ⟨va,vk,rfl,_,_,_⟩:=ho2.reads
    have HB4:=h_ (show Below wr.heap.size wr w4 from b_ (d_ (Below.refl _ _)) hb4)
    have H24:=h_ (show Below V2.heap.size V2 w4 from b_ HBV.out HB4.out)
    have HO1:=h_ (show Owns 0 wr.heap.size w4 58 7 (.slice ua un uk) un (X1.net.flatMap lyS) from ho1)
    have HO2:=h_ (show Owns 0 wr.heap.size w4 61 6 (.slice va vn vk) vn (X1.spd.flatMap gdS) from ho2)
    obtain ⟨t0,t1,t2⟩:=(HBX.out.u_ HB4.out).c3
    obtain ⟨f0,f1,f2⟩:=(HFR.out.u_ HB4.out HBL.out).f3
    clear hb4 ho1 ho2
    go_wp2_with fail
    refine hK.out _ _ ?hS7 (fun hHeld7=>?_)
    case hS7=>exact HSB.out _ H24.out
    clear hK K
    try simp only[Act.put,List.setIfInBounds_toArray,List.set_cons_zero,List.set_cons_succ]
    refine wpAnyH_take (i := 8) (oi := { dst := some 59, op := .move (.tmp 67), type := 43, pos := "train.go:54", after := #[{ on := 7, ground := .data }], guard := none }) (v := ?v8) rfl (by kernel_rfl) (by kernel_rfl) (by kernel_rfl) (fun _ _ _ h => h) (Or.inl ⟨by rfl, ?hy8⟩) (by assumption) ?rest8
    case hy8=>(intro w hSw;(try dsimp only at hSw);go_simp;(try with_reducible rfl))
    try simp only[Act.put,List.setIfInBounds_toArray,List.set_cons_zero,List.set_cons_succ]
    refine wpAnyH_take (i := 9) (oi := { dst := some 68, op := .extract (.tmp 59) 0, type := 25, pos := "train.go:54", after := #[{ on := 8, ground := .data }], guard := none }) (v := ?v9) rfl (by kernel_rfl) (by kernel_rfl) (by kernel_rfl) (fun _ _ _ h => h) (Or.inl ⟨by rfl, ?hy9⟩) (by assumption) ?rest9
    case hy9=>(intro w hSw;(try dsimp only at hSw);go_simp;(try with_reducible rfl))
    try simp only[Act.put,List.setIfInBounds_toArray,List.set_cons_zero,List.set_cons_succ]
    refine wpAnyH_take (i := 10) (oi := { dst := some 69, op := .extract (.tmp 59) 1, type := 3, pos := "train.go:54", after := #[{ on := 8, ground := .data }, { on := 12, ground := .gcOnly .lateStores }], guard := none }) (v := ?v10) rfl (by kernel_rfl) (by kernel_rfl) (by kernel_rfl) (fun _ _ _ h => h) (Or.inl ⟨by rfl, ?hy10⟩) (by assumption) ?rest10
    case hy10=>(intro w hSw;(try dsimp only at hSw);go_simp;(try with_reducible rfl))
    try simp only[Act.put,List.setIfInBounds_toArray,List.set_cons_zero,List.set_cons_succ]
    refine wpAnyH_take (i := 11) (oi := { dst := some 70, op := .extract (.tmp 59) 2, type := 33, pos := "train.go:54", after := #[{ on := 8, ground := .data }, { on := 13, ground := .gcOnly .lateStores }], guard := none }) (v := ?v11) rfl (by kernel_rfl) (by kernel_rfl) (by kernel_rfl) (fun _ _ _ h => h) (Or.inl ⟨by rfl, ?hy11⟩) (by assumption) ?rest11
    case hy11=>(intro w hSw;(try dsimp only at hSw);go_simp;(try with_reducible rfl))
    try simp only[Act.put,List.setIfInBounds_toArray,List.set_cons_zero,List.set_cons_succ]
    refine wpAnyH_ready (rs:=[12]) (by kernel_rfl) (by simp) ?_
    refine AllReadyH.cons (o := { dst := none, op := .store 25 (.tmp 14) (.tmp 68), type := 0, pos := "train.go:54", after := #[{ on := 9, ground := .data }, { on := 7, ground := .chain }, { on := 0, ground := .phase }, { on := 1, ground := .phase }, { on := 2, ground := .phase }, { on := 3, ground := .phase }, { on := 4, ground := .phase }, { on := 5, ground := .phase }, { on := 6, ground := .phase }, { on := 7, ground := .phase }, { on := 8, ground := .phase }, { on := 9, ground := .phase }, { on := 10, ground := .textOnly .lateStores }, { on := 11, ground := .textOnly .lateStores }], guard := none }) rfl (fun K hK => ?_) AllReadyH.nil
    go_simp
    refine hK.out _ _ ?hS12 (fun hHeld12=>?_)
    case hS12=>exact HSB.out _ (t_ (t_ (t_ H24.out LB.out) LB.out) LB.out)
    clear hK K
    try simp only[Act.put,List.setIfInBounds_toArray,List.set_cons_zero,List.set_cons_succ]
    refine wpAnyH_take (i := 13) (oi := { dst := some 17, op := .assign (.tmp 69), type := 3, pos := "train.go:54", after := #[{ on := 10, ground := .data }, { on := 12, ground := .chain }, { on := 0, ground := .phase }, { on := 1, ground := .phase }, { on := 2, ground := .phase }, { on := 3, ground := .phase }, { on := 4, ground := .phase }, { on := 5, ground := .phase }, { on := 6, ground := .phase }, { on := 7, ground := .phase }, { on := 8, ground := .phase }, { on := 9, ground := .phase }, { on := 10, ground := .phase }, { on := 11, ground := .textOnly .lateStores }, { on := 12, ground := .phase }], guard := none }) (v := ?v13) rfl (by kernel_rfl) (by kernel_rfl) (by kernel_rfl) (fun _ _ _ h => h) (Or.inl ⟨by rfl, ?hy13⟩) (by assumption) ?rest13
    case hy13=>(intro w hSw;(try dsimp only at hSw);go_simp;(try with_reducible rfl))
    try simp only[Act.put,List.setIfInBounds_toArray,List.set_cons_zero,List.set_cons_succ]
    refine wpAnyH_take (i := 14) (oi := { dst := some 13, op := .assign (.tmp 70), type := 33, pos := "train.go:54", after := #[{ on := 11, ground := .data }, { on := 13, ground := .chain }, { on := 0, ground := .phase }, { on := 1, ground := .phase }, { on := 2, ground := .phase }, { on := 3, ground := .phase }, { on := 4, ground := .phase }, { on := 5, ground := .phase }, { on := 6, ground := .phase }, { on := 7, ground := .phase }, { on := 8, ground := .phase }, { on := 9, ground := .phase }, { on := 10, ground := .phase }, { on := 11, ground := .phase }, { on := 12, ground := .phase }, { on := 13, ground := .phase }], guard := none }) (v := ?v14) rfl (by kernel_rfl) (by kernel_rfl) (by kernel_rfl) (fun _ _ _ h => h) (Or.inl ⟨by rfl, ?hy14⟩) (by assumption) ?rest14
    case hy14=>(intro w hSw;(try dsimp only at hSw);go_simp;(try with_reducible rfl))
    try simp only[Act.put,List.setIfInBounds_toArray,List.set_cons_zero,List.set_cons_succ]
    refine wpAnyH_done (by kernel_rfl) ?_ _
    clear HON b0 b1 b2 lm0 lm1 lm2 lm3 lm4 lm5 lm6 lm7
    have HORN:=h_ (show (F1=0/\E1=0/\runsE parts le ke X1 (bs.drop (i+1))=E/\runsS parts le ke X1 (bs.drop (i+1))=runsS parts le ke ⟨ls,ps,n⟩ bs/\(ks++[K1])++runsK parts le ke X1 (bs.drop (i+1))=runsK parts le ke ⟨ls,ps,n⟩ bs)\/(F1≠0/\F1=E) by
     obtain ⟨q1,q2,q3,q4⟩:=HQ.out
     rw[HDR.out,runsE_cons,HF1.out]at q2
     rw[HDR.out,runsS_cons]at q3
     rw[HDR.out,runsK_cons]at q4
     by_cases z:F1=0
     ·have e1:=HX1'.out
      have e2:=HK1'.out
      rw[if_pos z]at e1 e2
      rw[if_neg (by simp[z]),e1]at q2
      rw[e1]at q3
      rw[e1,e2]at q4
      exact .inl ⟨z,q1,q2,q3,by rw[List.append_assoc];exact q4⟩
     ·rw[if_pos z]at q2
      exact .inr ⟨z,q2⟩)
    have hBlt:B<wr.heap.size:=HBL.out
    have HGB:=h_ (show (fun b=>b=B\/(u15).ownBlock=some b) B from .inl rfl)
    have hob:∀b,(fun b=>b=B\/(u15).ownBlock=some b) b->b<wr.heap.size:=fun b hb=>by
     rcases hb with hb|hb
     ·rw[hb];exact hBlt
     ·exact (HOW.out.lt b hb).2
    have HL1:=h_ (show Hold (fun b=>b=B\/(u15).ownBlock=some b) ((((w4.setCell ⟨B,0,none⟩ (.slice ua un uk)).setCell ⟨B,1,none⟩ (.slice va vn vk)).setCell ⟨B,2,none⟩ (.int .i64 nn)).alloc (.cells #[.int .i64 K1] 3)) (fun W=>Reads W (.slice ua un uk) un (X1.net.flatMap lyS)) from (((((HO1.out.hold.mono (fun b _ h=>hob b h)).set HGB.out 0 _).set HGB.out 1 _).set HGB.out 2 _).u_ (o_ _ _)))
    have HL2:=h_ (show Hold (fun b=>b=B\/(u15).ownBlock=some b) ((((w4.setCell ⟨B,0,none⟩ (.slice ua un uk)).setCell ⟨B,1,none⟩ (.slice va vn vk)).setCell ⟨B,2,none⟩ (.int .i64 nn)).alloc (.cells #[.int .i64 K1] 3)) (fun W=>Reads W (.slice va vn vk) vn (X1.spd.flatMap gdS)) from (((((HO2.out.hold.mono (fun b _ h=>hob b h)).set HGB.out 0 _).set HGB.out 1 _).set HGB.out 2 _).u_ (o_ _ _)))
    have HYS:=h_ (show (((w4.setCell ⟨B,0,none⟩ (.slice ua un uk)).setCell ⟨B,1,none⟩ (.slice va vn vk)).setCell ⟨B,2,none⟩ (.int .i64 nn)).heap.size=w4.heap.size by simp[World.setCell])
    have hlb:B<B+1:=Nat.lt_succ_self _
    have HOA:=h_ (show Owns 0 (B+1) ((((w4.setCell ⟨B,0,none⟩ (.slice ua un uk)).setCell ⟨B,1,none⟩ (.slice va vn vk)).setCell ⟨B,2,none⟩ (.int .i64 nn)).alloc (.cells #[.int .i64 K1] 3)) 3 1 u15 i (ks.map Sum.inl) from ((((HOW.out.u_ HB4.out).set (Nat.zero_le _) hlb 0 _).set (Nat.zero_le _) hlb 1 _).set (Nat.zero_le _) hlb 2 _).u_ (o_ _ _))
    have HEN:=h_ (enc_int ((((w4.setCell ⟨B,0,none⟩ (.slice ua un uk)).setCell ⟨B,1,none⟩ (.slice va vn vk)).setCell ⟨B,2,none⟩ (.int .i64 nn)).alloc (.cells #[.int .i64 K1] 3)) (fun b=>u15.ownBlock=some b\/(0<=b/\b<B+1)) K1)
    have HNB:=h_ (show Box ((((w4.setCell ⟨B,0,none⟩ (.slice ua un uk)).setCell ⟨B,1,none⟩ (.slice va vn vk)).setCell ⟨B,2,none⟩ (.int .i64 nn)).alloc (.cells #[.int .i64 K1] 3)) w4.heap.size [.int .i64 K1] from Box.new _ _ _ HYS.out)
    have HBYA:=h_ (show Below V2.heap.size V2 ((((w4.setCell ⟨B,0,none⟩ (.slice ua un uk)).setCell ⟨B,1,none⟩ (.slice va vn vk)).setCell ⟨B,2,none⟩ (.int .i64 nn)).alloc (.cells #[.int .i64 K1] 3)) from a_ (S_ (b_ HBV.out HB4.out) LB.out _ _ _))
    have HBS:=h_ (show B+1<=((((w4.setCell ⟨B,0,none⟩ (.slice ua un uk)).setCell ⟨B,1,none⟩ (.slice va vn vk)).setCell ⟨B,2,none⟩ (.int .i64 nn)).alloc (.cells #[.int .i64 K1] 3)).heap.size by rw[World.size_alloc,HYS.out];have:=HB4.out.size;omega)
    have HM1:=h_ (show i+1<=maxLen by unfold maxLen;omega)
    have HM2:=h_ (show (i+1)*8<=140737488355328 by omega)
    have HV0:=h_ (show Box ((((w4.setCell ⟨B,0,none⟩ (.slice ua un uk)).setCell ⟨B,1,none⟩ (.slice va vn vk)).setCell ⟨B,2,none⟩ (.int .i64 nn)).alloc (.cells #[.int .i64 K1] 3)) B [.slice ua un uk,.slice va vn vk,.int .i64 nn] from (three_set (HBX.out.u_ HB4.out) (.slice ua un uk) (.slice va vn vk) (.int .i64 nn)).u_ (o_ _ _))
    have HU0:=h_ (show Free ((((w4.setCell ⟨B,0,none⟩ (.slice ua un uk)).setCell ⟨B,1,none⟩ (.slice va vn vk)).setCell ⟨B,2,none⟩ (.int .i64 nn)).alloc (.cells #[.int .i64 K1] 3)) B from ((((HFR.out.u_ HB4.out hBlt).put _ _).put _ _).put _ _).u_ (o_ _ _) (by rw[HYS.out];have:=HB4.out.size;omega))
    have HNB0:=h_ (show some B≠u15.ownBlock from fun e=>by have:=(HOW.out.lt _ e.symm).1;omega)
    clear hob hBlt hlb
    go_wp2_with (at_builtin;refine wpList_append_owns rfl _ _ 26 rfl (B+1) 3 e0 (.int .i64 0) 1 8 Tryz.underlying26 HEI.out.1 HEI.out.2.1 HEI.out.2.2.1 HEI.out.2.2.2 rfl (by decide) 0 u15 _ _ rfl HOA.out ⟨w4.heap.size,0,none⟩ 1 1 [.int .i64 K1] rfl rfl (fun q u hq=>by rw[addr_add];exact HNB.out q u hq) [.inl K1] HEN.out HM1.out HM2.out HBS.out ?_)
    intro v' w' hown' hgrow hwh
    have HVW:=h_ (show Owns 0 (B+1) w' 3 1 v' (i+1) ((ks++[K1]).map Sum.inl) by rw[List.map_append];exact hown')
    have hGG:∀b,b<((((w4.setCell ⟨B,0,none⟩ (.slice ua un uk)).setCell ⟨B,1,none⟩ (.slice va vn vk)).setCell ⟨B,2,none⟩ (.int .i64 nn)).alloc (.cells #[.int .i64 K1] 3)).heap.size->(fun b=>b=B\/(v').ownBlock=some b) b->(fun b=>b=B\/(u15).ownBlock=some b) b:=fun b hlt' hb=>hb.imp id (fun h=>by
     rcases hwh with h'|h'
     ·rw[<-h'];exact h
     ·rw[h']at h
      have:=Option.some.inj h
      rw[World.size_alloc,HYS.out]at hlt'
      have e9:=HYS.out
      omega)
    have HL3:=h_ (HL1.out.grown hgrow (fun b hb=>.inr hb) hGG)
    have HL4:=h_ (HL2.out.grown hgrow (fun b hb=>.inr hb) hGG)
    have HW0':=h_ (show Box w' B [.slice ua un uk,.slice va vn vk,.int .i64 nn] from fun j x hx=>hgrow.cell (HV0.out j x hx) HNB0.out)
    have HF0':=h_ (show Free w' B from fun j=>(World.frozen?_of_block (a:=⟨B,j,none⟩) (hgrow.block _ HV0.out.lt HNB0.out)).trans (HU0.out j))
    have HBW':=h_ (show Below V2.heap.size V2 w' from HBYA.out.grown hgrow HBYA.out.size (fun k hk=>by have:=(HOW.out.lt k hk).1;have:=LB.out;omega))
    have HKL':=h_ (show (ks++[K1]).length=i+1 by rw[List.length_append,HKLN.out];rfl)
    clear hown' hgrow hwh hGG t0 t1 t2 f0 f1 f2
    go_wp2
    go_roundw
    case rel=>exact ⟨i+1,_,F1,X1,ks++[K1],_,_,by omega,by have:=HXI.out;omega,rfl,rfl,HKL'.out,HORN.out,by rw[HNN.out];exact HW0'.out,HF0'.out,by have h:=HL3.out;show Hold _ _ (fun W=>Reads W _ X1.net.length _);rw[HEU.out.1];exact h,by have h:=HL4.out;show Hold _ _ (fun W=>Reads W _ X1.spd.length _);rw[HEU.out.2];exact h,HVW.out,HBW'.out,.inr (.inr (by omega))⟩
    case measure=>have:=HXI.out;simp[intOf];omega
   ·have hin:i=M:=by have:=HXI.out;omega
    have hFE:Fe=E:=by
     rcases HOR.out with ⟨r0,_,r1,_,_⟩|⟨_,r2⟩
     ·rw[hin,<-HMM.out,List.drop_length]at r1
      rw[r0];exact r1
     ·exact r2
    have HFE:=h_ (FIN.out hFE (fun _=>hin))
    clear hin hFE FIN
    go_wp2
    go_meet
    exact HFE.out
 case rest=>
 obtain ⟨rfl,hb5,hf5,u5,t5,s5,k5,hx5,⟨ua,un,uk,rfl⟩,⟨va,vn,vk,rfl⟩,⟨wa,wn,wk,rfl⟩,hz5⟩:=hcut
 obtain ⟨W5,hW5⟩:=gM (wc)
 subst hW5
 have HB5:=h_ hb5
 have HF5:=h_ hf5
 have HX5:=h_ hx5
 have HZ5:=h_ hz5
 obtain ⟨n5,en5⟩:=gN (s5.n)
 rw[en5]at HX5
 have HN5:=h_ en5
 clear hb5 hf5 hx5 hz5 en5 HC3 HY3 HF3 HW3 HS3
 go_upto_if 76 with fail
 go_cut [15] from 16 to 120 (fun wv wx=>∃(xa xk ya yk:_) (w6:Value),wv=w6/\Box wx B [.slice xa XN xk,.slice ya XV yk,.int .i64 xn]/\Y_ wx (.slice xa XN xk) X.net/\D_ wx (.slice ya XV yk) X.spd/\I_ wx w6 K/\Below V2.heap.size V2 wx)
 case first=>as_aux_lemma=>
  by_cases c0:E=0
  ·have hq:(E !=0)=false:=by simp[c0]
   obtain ⟨rfl,rfl,g1,g2,g3⟩:=HZ5.out c0
   obtain ⟨_,_,e1,_,_⟩:=g1.shape
   obtain ⟨_,_,e2,_,_⟩:=g2.shape
   have e3:un=XN:=by have h:=(Value.slice.inj e1).2.1;rw[h];exact HXN.out.1
   have e4:vn=XV:=by have h:=(Value.slice.inj e2).2.1;rw[h];exact HXN.out.2.1
   have e5:n5=xn:=by rw[<-HN5.out];exact HXN.out.2.2
   have HR:=h_ (show ∃(xa xk ya yk:_) (w6:Value),Value.slice wa wn wk=w6/\Box W5 B [.slice xa XN xk,.slice ya XV yk,.int .i64 xn]/\Y_ W5 (.slice xa XN xk) s5.net/\D_ W5 (.slice ya XV yk) s5.spd/\I_ W5 w6 k5/\Below V2.heap.size V2 W5 from ⟨ua,uk,va,vk,_,rfl,by rw[<-e3,<-e4,<-e5];exact HX5.out,by rw[<-e3];exact g1,by rw[<-e4];exact g2,g3,HB5.out⟩)
   clear c0 g1 g2 g3 e1 e2 e3 e4 e5
   go_wp2
   go_meet
   exact HR.out
  ·have hq:(E !=0)=true:=by simpa using c0
   have eX:X=noSt:=by rw[HXL.out,if_neg c0]
   have eK:K=[]:=by rw[HKL.out,if_neg c0]
   subst eX eK
   have e3:XN=0:=HXN.out.1.symm
   have e4:XV=0:=HXN.out.2.1.symm
   have e5:xn=0:=HXN.out.2.2.symm
   have hBlt:B<W5.heap.size:=HX5.out.lt
   have HR:=h_ (show ∃(xa xk ya yk:_) (w6:Value),Value.slice none 0 0=w6/\Box (((W5.setCell ⟨B,0,none⟩ (.slice none 0 0)).setCell ⟨B,1,none⟩ (.slice none 0 0)).setCell ⟨B,2,none⟩ (.int .i64 0)) B [.slice xa XN xk,.slice ya XV yk,.int .i64 xn]/\Y_ (((W5.setCell ⟨B,0,none⟩ (.slice none 0 0)).setCell ⟨B,1,none⟩ (.slice none 0 0)).setCell ⟨B,2,none⟩ (.int .i64 0)) (.slice xa XN xk) noSt.net/\D_ (((W5.setCell ⟨B,0,none⟩ (.slice none 0 0)).setCell ⟨B,1,none⟩ (.slice none 0 0)).setCell ⟨B,2,none⟩ (.int .i64 0)) (.slice ya XV yk) noSt.spd/\I_ (((W5.setCell ⟨B,0,none⟩ (.slice none 0 0)).setCell ⟨B,1,none⟩ (.slice none 0 0)).setCell ⟨B,2,none⟩ (.int .i64 0)) w6 []/\Below V2.heap.size V2 (((W5.setCell ⟨B,0,none⟩ (.slice none 0 0)).setCell ⟨B,1,none⟩ (.slice none 0 0)).setCell ⟨B,2,none⟩ (.int .i64 0)) from ⟨none,0,none,0,_,rfl,by rw[e3,e4,e5];exact three_set HX5.out _ _ _,by rw[e3];exact Owns.reads (Owns.nil 0 0 _ 58 7),by rw[e4];exact Owns.reads (Owns.nil 0 0 _ 61 6),I_.nil _,S_ HB5.out LB.out _ _ _⟩)
   obtain ⟨t0,t1,t2⟩:=HX5.out.c3
   obtain ⟨f0,f1,f2⟩:=HF5.out.f3
   clear c0 e3 e4 e5
   go_wp2
   go_meet
   exact HR.out
 case rest=>
 obtain ⟨xa,xk,ya,yk,w6,rfl,hbx6,hl6,hg6,hi6,hb6⟩:=hcut
 obtain ⟨W6,hW6⟩:=gM (wc)
 subst hW6
 obtain ⟨wa6,wn6,wk6,rfl⟩:=hi6.shape
 have HB6:=h_ hb6
 have HX6:=h_ hbx6
 have HL6:=h_ hl6
 have HG6:=h_ hg6
 have HI6:=h_ hi6
 clear hbx6 hl6 hg6 hi6 hb6 HB5 HF5 HX5 HZ5 HN5
 rw[HEV.out]
 replace HX0:=h_ (HX0.out.u_ HB6.out)
 replace HX2:=h_ (HX2.out.u_ HB6.out)
 replace M0:=h_ (M0.out.u_ HB6.out)
 replace M1:=h_ (M1.out.u_ HB6.out)
 replace M2:=h_ (M2.out.u_ HB6.out)
 replace HH:=h_ (HH.out.u_ HB6.out)
 replace HX4:=h_ (HX4.out.u_ HB6.out)
 replace Hp1:=h_ (Hp1.out.u_ HB6.out)
 replace Hp2:=h_ (Hp2.out.u_ HB6.out)
 replace Hp3:=h_ (Hp3.out.u_ HB6.out)
 have C0:=h_ (Below.refl W6.heap.size W6)
 have HX:=h_ (error_same (k:=E) (n:=E) rfl _ (HH.out.u_ C0.out))
 go_wp2_with fail
 refine HX.out.mono ?_
 rintro e u7 ⟨rfl,hb⟩
 replace C0:=h_ (b_ C0.out hb)
 clear HX hb
 have C1:=h_ (Below.refl u7.heap.size u7)
 obtain ⟨d0,d1,d2⟩:=(HX4.out.u_ C0.out).c3
 obtain ⟨g0,g1,g2⟩:=(HX6.out.u_ C0.out).c3
 have HX:=h_ (lawstates_any (.slice pa XN pk) (.slice pb XV pl) (.slice xa XN xk) (.slice ya XV yk) X.net X.spd xn _ (Hp1.out.u_ C0.out) (Hp2.out.u_ C0.out) (HL6.out.u_ C0.out) (HG6.out.u_ C0.out))
 go_wp2_with fail
 refine HX.out.mono ?_
 rintro e u8 ⟨rfl,hb⟩
 replace C0:=h_ (b_ C0.out hb)
 replace C1:=h_ (b_ C1.out hb)
 clear HX hb
 have C2:=h_ (Below.refl u8.heap.size u8)
 clear d0 d1 d2 g0 g1 g2
 have HX:=h_ (ints_any _ _ K K _ (Hp3.out.u_ C0.out) (HI6.out.u_ C0.out))
 go_wp2_with fail
 refine HX.out.mono ?_
 rintro e u9 ⟨rfl,dn,ed⟩
 have hb:Below u8.heap.size u8 u9:=by rw[ed];exact below_drewN _ dn
 clear ed
 replace C0:=h_ (b_ C0.out hb)
 replace C1:=h_ (b_ C1.out hb)
 replace C2:=h_ (b_ C2.out hb)
 clear HX hb
 have C3:=h_ (Below.refl u9.heap.size u9)
 rw[sameI_refl]
 have d0:=(HX0.out.u_ C0.out) 0 _ rfl
 have HX:=h_ (trbegin_any _ ls _ (M0.out.u_ C0.out) HLE.out HZ.out)
 go_wp2_with fail
 refine HX.out.mono ?_
 rintro e u10 ⟨y1,y2,rfl,ho1,ho2,hb⟩
 replace C0:=h_ (b_ C0.out hb)
 replace C1:=h_ (b_ C1.out hb)
 replace C2:=h_ (b_ C2.out hb)
 replace C3:=h_ (b_ C3.out hb)
 clear HX hb
 have C4:=h_ (Below.refl u10.heap.size u10)
 have HQ1:=h_ (show Y_ u10 y1 ls from ho1.reads)
 have HQ2:=h_ (show D_ u10 y2 (zeroD ls) from ho2.reads)
 obtain ⟨ba,bk,rfl,_,_⟩:=HQ1.out.shape
 obtain ⟨bc,bl,rfl,_,_⟩:=HQ2.out.shape
 obtain ⟨bn,ebn⟩:=gN (ls.length)
 obtain ⟨bm,ebm⟩:=gN ((zeroD ls).length)
 rw[ebn]at HQ1 ⊢
 rw[ebm]at HQ2 ⊢
 clear ho1 ho2 d0 ebn ebm
 replace C0:=h_ (a_ (o:=(.cells #[.slice ba bn bk,.slice bc bm bl,.int .i64 0] 35)) C0.out)
 replace C1:=h_ (a_ (o:=(.cells #[.slice ba bn bk,.slice bc bm bl,.int .i64 0] 35)) C1.out)
 replace C2:=h_ (a_ (o:=(.cells #[.slice ba bn bk,.slice bc bm bl,.int .i64 0] 35)) C2.out)
 replace C3:=h_ (a_ (o:=(.cells #[.slice ba bn bk,.slice bc bm bl,.int .i64 0] 35)) C3.out)
 replace C4:=h_ (a_ (o:=(.cells #[.slice ba bn bk,.slice bc bm bl,.int .i64 0] 35)) C4.out)
 have HX7:=h_ (show Box (u10.alloc (.cells #[.slice ba bn bk,.slice bc bm bl,.int .i64 0] 35)) u10.heap.size [.slice ba bn bk,.slice bc bm bl,.int .i64 0] from Box.new _ _ _ rfl)
 have C5:=h_ (Below.refl (u10.alloc (.cells #[.slice ba bn bk,.slice bc bm bl,.int .i64 0] 35)).heap.size (u10.alloc (.cells #[.slice ba bn bk,.slice bc bm bl,.int .i64 0] 35)))
 have d0:=(HX0.out.u_ C0.out) 0 _ rfl
 have g0:=(HX7.out.u_ C5.out) 0 _ rfl
 have HX:=h_ (lys_same _ _ ls _ (HQ1.out.u_ C4.out) (M0.out.u_ C0.out))
 go_wp2_with fail
 refine HX.out.mono ?_
 rintro e u11 ⟨rfl,hb⟩
 replace C0:=h_ (b_ C0.out hb)
 replace C1:=h_ (b_ C1.out hb)
 replace C2:=h_ (b_ C2.out hb)
 replace C3:=h_ (b_ C3.out hb)
 replace C4:=h_ (b_ C4.out hb)
 replace C5:=h_ (b_ C5.out hb)
 clear HX hb
 have C6:=h_ (Below.refl u11.heap.size u11)
 clear d0 g0
 have d0:=(HX0.out.u_ C0.out) 0 _ rfl
 have HX:=h_ (netzero_any _ ls _ (M0.out.u_ C0.out) HLE.out HZ.out)
 go_wp2_with fail
 refine HX.out.mono ?_
 rintro e u12 ⟨z1,rfl,hz1,hb⟩
 replace C0:=h_ (b_ C0.out hb)
 replace C1:=h_ (b_ C1.out hb)
 replace C2:=h_ (b_ C2.out hb)
 replace C3:=h_ (b_ C3.out hb)
 replace C4:=h_ (b_ C4.out hb)
 replace C5:=h_ (b_ C5.out hb)
 replace C6:=h_ (b_ C6.out hb)
 clear HX hb
 have C7:=h_ (Below.refl u12.heap.size u12)
 have HZ1:=h_ hz1
 clear hz1 d0
 have g1:=(HX7.out.u_ C5.out) 1 _ rfl
 have HX:=h_ (gds_same _ _ (zeroD ls) _ (HQ2.out.u_ C4.out) (HZ1.out.u_ C7.out))
 go_wp2_with fail
 refine HX.out.mono ?_
 rintro e u13 ⟨rfl,hb⟩
 replace C0:=h_ (b_ C0.out hb)
 replace C1:=h_ (b_ C1.out hb)
 replace C2:=h_ (b_ C2.out hb)
 replace C3:=h_ (b_ C3.out hb)
 replace C4:=h_ (b_ C4.out hb)
 replace C5:=h_ (b_ C5.out hb)
 replace C6:=h_ (b_ C6.out hb)
 replace C7:=h_ (b_ C7.out hb)
 clear HX hb
 have C8:=h_ (Below.refl u13.heap.size u13)
 clear g1
 have g2:=(HX7.out.u_ C5.out) 2 _ rfl
 go_wp2
 go_ret
 exact ⟨rfl,b_ HW2.out (b_ HB6.out C0.out)⟩
end Go.Proofs.YtniloklglpchfaeGreatDoor
