/- What NetWide of the document's answer comes to. -/
import Derived.Test.YtniloklglpchfaeGreatDoorPkLBox
import Derived.Test.YtniloklglpchfaeGreatDoorPkRSplit
import Derived.Test.YtniloklglpchfaeGreatDoorPkRLBackL
import Derived.Test.YtniloklglpchfaeGreatDoorPkNetLaw
import Derived.Test.YtniloklglpchfaeGreatDoorPkRStepE
import Derived.Test.YtniloklglpchfaeGreatDoorRLGo
namespace Go.Proofs.YtniloklglpchfaeGreatDoor
open Go.RowKit
set_option maxHeartbeats 4000000 in
set_option maxRecDepth 100000 in
theorem rnetwide_any(v:Value)(ls:List Ly)(n:Int)(w:World)(hv:Y_ w v ls):
  Calls Tryz.prog 55 #[v,.int .i64 n] w fun e w'=>e=.returned (.tuple #[.int .i64 (nwX ls n),.int .i64 (nwE ls n)])/\Below w.heap.size w w':=by
 obtain ⟨a,cap,rfl,hlc,hcm⟩:=hv.shape
 have HV:=h_ hv
 obtain ⟨N,hN⟩:=gN (ls.length)
 have HN:=h_ hN
 have hNm:N<=maxLen:=by omega
 unfold maxLen at hNm
 obtain ⟨X,hX⟩:=gN (nwX ls n)
 obtain ⟨E,hE⟩:=gN (nwE ls n)
 have HX:=h_ (And.intro hX hE)
 rw[hX,hE]
 rw[hN]at HV ⊢
 clear hX hE hv hN hlc hcm
 by_cases h12:12<N
 ·obtain rfl:E=3:=by rw[<-HX.out.2];unfold nwE;rw[if_pos (by rw[HN.out];exact h12)]
  obtain rfl:X=0:=by rw[<-HX.out.1];unfold nwX;rw[HX.out.2,if_neg (by decide)]
  have h12':(12:Int)<(N:Int):=by omega
  go_enter Tryz.func55,Tryz.ntmps55
  go_wp2
  exact bodyPost_ret (v:=.tuple #[.int .i64 0,.int .i64 3]) (by simp[results,Tryz.results55,go_sem]) rfl ⟨rfl,Below.refl _ _⟩
 ·have h12':¬(12:Int)<(N:Int):=by omega
  have hE0:netE ls n=E:=by rw[<-HX.out.2];unfold nwE;rw[if_neg (by rw[HN.out];exact h12)]
  have hX0:(if E=0 then netW ls n else 0)=X:=by rw[<-HX.out.1];unfold nwX;rw[HX.out.2]
  have HEE:=h_ (And.intro hE0 hX0)
  clear hE0 hX0 hNm
  go_enter Tryz.func55,Tryz.ntmps55
  go_wp2
  go_loopw [1,6,7] (fun s a _e wr=>∃(i:Nat) (xi m:Int),i<=N/\xi=(i:Int)/\a=.int .i64 xi/\s=.int .i64 m/\netE (ls.drop i) m=E/\netW (ls.drop i) m=netW ls n/\Below w.heap.size w wr) (fun _ a _ _=>N - (intOf a).toNat)
  case atStart=>exact ⟨0,0,n,Nat.zero_le _,rfl,rfl,rfl,HEE.out.1,rfl,Below.refl _ _⟩
  case round=>
   obtain ⟨i,xi,m,hi,hxi,rfl,rfl,he,hw,hb⟩:=hrel
   have HXI:=h_ hxi
   have HR:=h_ (And.intro he hw)
   have HB:=h_ hb
   have hxi0:0<=xi:=by omega
   have hxi1:xi<=12:=by omega
   clear hxi he hw hb
   by_cases hlt:xi<(N:Int)
   ·have hin:i<N:=by have:=HXI.out;omega
    have hxn:xi.toNat=i:=by have:=HXI.out;omega
    obtain ⟨l,hl⟩:∃l,ls[i]?=some l:=⟨ls[i]'(by have:=HN.out;omega),List.getElem?_eq_getElem _⟩
    obtain ⟨b,off,cp,sa,sn,sk,ta,tn,tk,ev,k0,k1,k2,k3,k4,k5,k6,hly⟩:=HV.out.at hl
    injection ev with ev1 ev2 ev3
    clear ev2 ev3
    subst ev1
    obtain ⟨lk,e0⟩:=gN (l.k)
    obtain ⟨lr,e1⟩:=gN (l.w.rows)
    obtain ⟨lc,e2⟩:=gN (l.w.cols)
    obtain ⟨br,e3⟩:=gN (l.b.rows)
    obtain ⟨bc,e4⟩:=gN (l.b.cols)
    rw[e0,e1,e2,e3,e4]at hly
    rw[e0]at k0
    rw[e1]at k1
    rw[e2]at k2
    rw[e3]at k4
    rw[e4]at k5
    rw[<-hxn]at k0 k1 k2 k3 k4 k5 k6
    have HK:=h_ (fun W (h:Below w.heap.size w W)=>And.intro (c_ h k0) (And.intro (c_ h k1) (And.intro (c_ h k2) (And.intro (c_ h k3) (And.intro (c_ h k4) (And.intro (c_ h k5) (c_ h k6)))))))
    have HLY:=h_ hly
    have HDR:=h_ (drop_at hl)
    clear k0 k1 k2 k3 k4 k5 k6 hly e0 e1 e2 e3 e4 hl hxn
    obtain ⟨k0,k1,k2,k3,k4,k5,k6⟩:=HK.out wr HB.out
    go_wp2_with fail
    refine (rlfault_any _ l _ (HLY.out.u_ HB.out)).mono ?_
    rintro e w1 ⟨rfl,hb1⟩
    have HB1:=h_ (b_ HB.out hb1)
    clear hb1 k0 k1 k2 k3 k4 k5 k6
    obtain ⟨he,hw⟩:=HR.out
    rw[HDR.out]at he hw
    have HE1:=h_ he
    have HW1:=h_ hw
    clear he hw
    by_cases hf:l_ l=0
    ·rw[hf]
     by_cases hm0:m<0
     ·have hEE:1=E:=by rw[<-HE1.out];unfold netE;rw[show wideE l m=1 by unfold wideE;rw[if_neg (by simp[hf]),if_pos (.inl hm0)],if_pos (by decide)]
      subst hEE
      have hX0:0=X:=by rw[<-HEE.out.2,if_neg (by decide)]
      subst hX0
      clear hf
      go_wp2
      exact bodyPost_ret (v:=.tuple #[.int .i64 0,.int .i64 1]) (by simp[results,Tryz.results55,go_sem]) rfl ⟨rfl,HB1.out⟩
     ·by_cases hm1:12<m
      ·have hEE:1=E:=by rw[<-HE1.out];unfold netE;rw[show wideE l m=1 by unfold wideE;rw[if_neg (by simp[hf]),if_pos (.inr hm1)],if_pos (by decide)]
       subst hEE
       have hX0:0=X:=by rw[<-HEE.out.2,if_neg (by decide)]
       subst hX0
       clear hf
       go_wp2
       exact bodyPost_ret (v:=.tuple #[.int .i64 0,.int .i64 1]) (by simp[results,Tryz.results55,go_sem]) rfl ⟨rfl,HB1.out⟩
      ·have HF:=h_ hf
       have hg0:0<=g_ l m:=by
        obtain ⟨_,_,fw,_,_⟩:=lgood_of hf
        obtain ⟨_,Cw,gw⟩:=o__ fw
        have:=gw.c
        unfold g_;split<;>omega
       have HG0:=h_ hg0
       have HM:=h_ (show ¬(m<0\/12<m) by omega)
       clear hf hg0
       obtain ⟨k0,k1,k2,k3,k4,k5,k6⟩:=HK.out w1 HB1.out
       go_wp2_with fail
       refine (rwide_any _ l m _ (HLY.out.u_ HB1.out)).mono ?_
       rintro e w2 ⟨rfl,hb2⟩
       have HB2:=h_ (b_ HB1.out hb2)
       clear hb2 k0 k1 k2 k3 k4 k5 k6
       cases htk:takesL l m with
       |true=>
        rw[wideR_yes htk]
        have hE2:=HE1.out
        have hW2:=HW1.out
        unfold netE at hE2
        rw[show wideE l m=0 by unfold wideE;rw[if_neg (by simp[HF.out]),if_neg HM.out,if_neg (by simp[htk])],if_neg (by decide)]at hE2
        replace hW2:netW (ls.drop (i+1)) (g_ l m)=netW ls n:=hW2
        have hg:=HG0.out
        obtain ⟨q,hq⟩:=gN (g_ l m)
        rw[hq]at hE2 hW2 hg ⊢
        have HR2:=h_ (And.intro hE2 hW2)
        clear hE2 hW2 htk hq
        go_wp2
        go_roundw
        case rel=>exact ⟨i+1,_,q,by omega,by have:=HXI.out;omega,rfl,rfl,HR2.out.1,HR2.out.2,HB2.out⟩
        case measure=>have:=HXI.out;simp[intOf];omega
       |false=>
        rw[wideR_no htk]
        have hEE:2=E:=by rw[<-HE1.out];unfold netE;rw[show wideE l m=2 by unfold wideE;rw[if_neg (by simp[HF.out]),if_neg HM.out,if_pos htk],if_pos (by decide)]
        subst hEE
        have hX0:0=X:=by rw[<-HEE.out.2,if_neg (by decide)]
        subst hX0
        clear htk
        go_wp2
        exact bodyPost_ret (v:=.tuple #[.int .i64 0,.int .i64 2]) (by simp[results,Tryz.results55,go_sem]) rfl ⟨rfl,HB2.out⟩
    ·have hEE:l_ l=E:=by rw[<-HE1.out];unfold netE;rw[show wideE l m=l_ l by unfold wideE;rw[if_pos hf],if_pos hf]
     have hE0:(E==0)=false:=by rw[<-hEE];simp[hf]
     have hE1:(E !=0)=true:=by rw[<-hEE];simp[hf]
     have hX0:0=X:=by rw[<-HEE.out.2,if_neg (by rw[<-hEE];exact hf)]
     rw[hEE]
     subst hX0
     clear hf hEE
     go_wp2
     exact bodyPost_ret (v:=.tuple #[.int .i64 0,.int .i64 E]) (by simp[results,Tryz.results55,go_sem]) rfl ⟨rfl,HB1.out⟩
   ·have hin:i=N:=by have:=HXI.out;omega
    obtain ⟨he,hw⟩:=HR.out
    rw[hin,<-HN.out,List.drop_length]at he hw
    unfold netE at he
    replace hw:m=netW ls n:=hw
    have hx:=HEE.out.2
    rw[<-hw]at hx
    clear hw hin
    by_cases hm0:m<0
    ·rw[if_pos (.inl hm0)]at he
     subst he
     rw[if_neg (by decide)]at hx
     subst hx
     go_wp2
     exact bodyPost_ret (v:=.tuple #[.int .i64 0,.int .i64 1]) (by simp[results,Tryz.results55,go_sem]) rfl ⟨rfl,HB.out⟩
    ·by_cases hm1:12<m
     ·rw[if_pos (.inr hm1)]at he
      subst he
      rw[if_neg (by decide)]at hx
      subst hx
      go_wp2
      exact bodyPost_ret (v:=.tuple #[.int .i64 0,.int .i64 1]) (by simp[results,Tryz.results55,go_sem]) rfl ⟨rfl,HB.out⟩
     ·rw[if_neg (by omega)]at he
      subst he
      rw[if_pos rfl]at hx
      subst hx
      go_wp2
      exact bodyPost_ret (v:=.tuple #[.int .i64 m,.int .i64 0]) (by simp[results,Tryz.results55,go_sem]) rfl ⟨rfl,HB.out⟩
set_option maxHeartbeats 8000000 in
set_option maxRecDepth 100000 in
theorem ronefault_any(v v1:Value)(ls:List Ly)(ps:List (Mx×Mx))(n:Int)(b:Mx×Mx)(parts le ke:Int)(sa:Option Addr)(sn sk:Nat)(ta:Option Addr)(tn tk:Nat)(w:World)(hv:Y_ w v ls)(hp:D_ w v1 ps)(hs:I_ w (.slice sa sn sk) b.1.cells)(ht:I_ w (.slice ta tn tk) b.2.cells):
  Calls Tryz.prog 26 #[.agg #[v,v1,.int .i64 n],.agg #[.int .i64 b.1.rows,.int .i64 b.1.cols,.slice sa sn sk,.int .i64 b.2.rows,.int .i64 b.2.cols,.slice ta tn tk],.int .i64 parts,.agg #[.int .i64 le,.int .i64 ke]] w fun e w'=>∃u,e=.returned (.tuple #[u,.int .i64 (oneE ls ps n b parts le ke)])/\IsBts w' u (oneL ls ps n b parts le ke)/\Below w.heap.size w w':=by
 obtain ⟨a,cap,rfl,hlc,hcm⟩:=hv.shape
 obtain ⟨a1,cap1,rfl,hlc1,hcm1⟩:=hp.shape
 obtain ⟨N,hN⟩:=gN (ls.length)
 obtain ⟨N1,hN1⟩:=gN (ps.length)
 rw[hN]at hv ⊢
 rw[hN1]at hp ⊢
 obtain ⟨V,hV⟩:=gM (((w.alloc (.cells #[.slice a N cap,.slice a1 N1 cap1,.int .i64 n] 25)).alloc (.cells #[.int .i64 b.1.rows,.int .i64 b.1.cols,.slice sa sn sk,.int .i64 b.2.rows,.int .i64 b.2.cols,.slice ta tn tk] 30)).alloc (.cells #[.int .i64 le,.int .i64 ke] 32))
 have HVV:=h_ hV
 have HWV:Hid (Below w.heap.size w V):=by rw[hV];exact h_ (a_ (a_ (o_ _ _)))
 have HX0:Hid (Box V w.heap.size [.slice a N cap,.slice a1 N1 cap1,.int .i64 n]):=by rw[hV];exact h_ ((Box.new w [.slice a N cap,.slice a1 N1 cap1,.int .i64 n] 25 rfl).u_ (a_ (o_ _ _)))
 have HX1:Hid (Box V (w.heap.size+1) [.int .i64 b.1.rows,.int .i64 b.1.cols,.slice sa sn sk,.int .i64 b.2.rows,.int .i64 b.2.cols,.slice ta tn tk]):=by rw[hV];exact h_ ((Box.new _ [.int .i64 b.1.rows,.int .i64 b.1.cols,.slice sa sn sk,.int .i64 b.2.rows,.int .i64 b.2.cols,.slice ta tn tk] 30 (by simp)).u_ (o_ _ _))
 have HX2:Hid (Box V (w.heap.size+1+1) [.int .i64 le,.int .i64 ke]):=by rw[hV];exact h_ (Box.new _ [.int .i64 le,.int .i64 ke] 32 (by simp))
 have HC1:=h_ (rstatefault_any (.slice a N cap) (.slice a1 N1 cap1) ls ps n V (hv.u_ HWV.out) (hp.u_ HWV.out))
 have HC2:=h_ (fun W (h:Below w.heap.size w W)=>rsplit_any b parts sa sn sk ta tn tk W (hs.u_ h) (ht.u_ h))
 have HC3:=h_ (fun W (h:Below w.heap.size w W)=>rnetwide_any (.slice a N cap) ls b.1.cols W (hv.u_ h))
 obtain ⟨E,hE⟩:=gN (oneE ls ps n b parts le ke)
 obtain ⟨L,hL⟩:=gN (oneL ls ps n b parts le ke)
 obtain ⟨g1,hg1⟩:=gN (stateE ls ps n)
 obtain ⟨g2,hg2⟩:=gN (splE b parts)
 obtain ⟨g3,hg3⟩:=gN (nwE ls b.1.cols)
 obtain ⟨m,hm⟩:=gN (nwX ls b.1.cols)
 have HE:=h_ (show (if g1≠0 then g1 else if g2≠0 then g2 else if g3≠0 then g3 else if m≠b.2.cols then 2 else if 12<headR b parts\/le<0\/256<le\/ke<0\/256<ke then 1 else 0)=E by rw[<-hE,<-hg1,<-hg2,<-hg3,<-hm];rfl)
 have HL:=h_ (show (if E=0 then splX b parts else [])=L by rw[<-hL,<-hE];rfl)
 have HG2:=h_ hg2
 rw[hg1]at HC1
 rw[hg2]at HC2
 rw[hg3,hm]at HC3
 rw[hE,hL]
 obtain ⟨d0,d1,d2⟩:=HX0.out.c3
 rw[HVV.out]at d0 d1 d2
 clear hV hv hp hs ht hlc hcm hlc1 hcm1 hN hN1 hE hL hg1 hg2 hg3 hm
 have bad:E≠0->L=[]:=fun h=>by rw[<-HL.out,if_neg h]
 have HBAD:=h_ bad
 clear bad
 go_enter Tryz.func26,Tryz.ntmps26
 go_wp2_with fail
 rw[<-HVV.out]
 refine HC1.out.mono ?_
 rintro e w1 ⟨rfl,hb1⟩
 have HB1:=h_ hb1
 have HW1:=h_ (b_ HWV.out hb1)
 clear hb1 HC1 d0 d1 d2
 by_cases k1:g1=0
 ·subst k1
  obtain ⟨d0,d1,d2,d3,d4,d5⟩:=(HX1.out.u_ HB1.out).c6
  go_wp2_with fail
  refine (HC2.out _ HW1.out).mono ?_
  rintro e w2 ⟨u,rfl,hu,hb2⟩
  have HB2:=h_ (b_ HB1.out hb2)
  have HW2:=h_ (b_ HW1.out hb2)
  have HU:=h_ hu
  clear hb2 hu HC2 d0 d1 d2 d3 d4 d5
  by_cases k2:g2=0
  ·subst k2
   have d0:=(HX0.out.u_ HB2.out) 0 _ rfl
   have d1:=(HX1.out.u_ HB2.out) 1 _ rfl
   go_wp2_with fail
   refine (HC3.out _ HW2.out).mono ?_
   rintro e w3 ⟨rfl,hb3⟩
   have HB3:=h_ (b_ HB2.out hb3)
   have HW3:=h_ (b_ HW2.out hb3)
   replace HU:=h_ (HU.out.u_ hb3)
   clear hb3 HC3 d0 d1
   by_cases k3:g3=0
   ·subst k3
    have d4:=(HX1.out.u_ HB3.out) 4 _ rfl
    obtain ⟨bc,ebc⟩:=gN (b.2.cols)
    rw[ebc]at HE d4 ⊢
    clear ebc
    by_cases k4:m=bc
    ·subst k4
     have n4:(m !=m)=false:=by simp
     obtain ⟨dd,hd,hr⟩:=splX_head HG2.out
     have HUG:=h_ (show D_ w3 u (splX b parts) from HU.out)
     obtain ⟨ub,uo,uc,ua,un,uk,va,vn,vk,rfl,c0,_,_,_,_,_,_,_⟩:=HUG.out.at hd
     rw[hr,Nat.zero_mul,Nat.add_zero]at c0
     obtain ⟨hr',ehr⟩:=gN (headR b parts)
     rw[ehr]at c0 HE
     have hlp:0<(splX b parts).length:=(List.getElem?_eq_some_iff.1 hd).1
     obtain ⟨K,hK⟩:=gN ((splX b parts).length)
     have HKK:=h_ hK
     rw[hK]at hlp HU ⊢
     have hlp':(0:Int)<(K:Int):=by omega
     obtain ⟨r0,r1⟩:=(HX2.out.u_ HB3.out).c2
     clear hd hr ehr hK hlp
     have HE5:=h_ (show (if 12<hr'\/le<0\/256<le\/ke<0\/256<ke then 1 else 0)=E by have h:=HE.out;simpa using h)
     by_cases c1x:12<hr'
     ·obtain rfl:E=1:=by rw[<-HE5.out,if_pos (.inl c1x)]
      obtain rfl:L=[]:=HBAD.out (by decide)
      go_wp2
      exact bodyPost_ret (v:=.tuple #[.slice none 0 0,.int .i64 1]) (by simp[results,Tryz.results26,go_sem]) rfl ⟨_,rfl,isBts_nil _,HW3.out⟩
     by_cases c2x:le<0
     ·obtain rfl:E=1:=by rw[<-HE5.out,if_pos (.inr (.inl c2x))]
      obtain rfl:L=[]:=HBAD.out (by decide)
      go_wp2
      exact bodyPost_ret (v:=.tuple #[.slice none 0 0,.int .i64 1]) (by simp[results,Tryz.results26,go_sem]) rfl ⟨_,rfl,isBts_nil _,HW3.out⟩
     by_cases c3x:256<le
     ·obtain rfl:E=1:=by rw[<-HE5.out,if_pos (.inr (.inr (.inl c3x)))]
      obtain rfl:L=[]:=HBAD.out (by decide)
      go_wp2
      exact bodyPost_ret (v:=.tuple #[.slice none 0 0,.int .i64 1]) (by simp[results,Tryz.results26,go_sem]) rfl ⟨_,rfl,isBts_nil _,HW3.out⟩
     by_cases c4x:ke<0
     ·obtain rfl:E=1:=by rw[<-HE5.out,if_pos (.inr (.inr (.inr (.inl c4x))))]
      obtain rfl:L=[]:=HBAD.out (by decide)
      go_wp2
      exact bodyPost_ret (v:=.tuple #[.slice none 0 0,.int .i64 1]) (by simp[results,Tryz.results26,go_sem]) rfl ⟨_,rfl,isBts_nil _,HW3.out⟩
     by_cases c5x:256<ke
     ·obtain rfl:E=1:=by rw[<-HE5.out,if_pos (.inr (.inr (.inr (.inr c5x))))]
      obtain rfl:L=[]:=HBAD.out (by decide)
      go_wp2
      exact bodyPost_ret (v:=.tuple #[.slice none 0 0,.int .i64 1]) (by simp[results,Tryz.results26,go_sem]) rfl ⟨_,rfl,isBts_nil _,HW3.out⟩
     obtain rfl:E=0:=by rw[<-HE5.out,if_neg (by omega)]
     obtain rfl:L=splX b parts:=by rw[<-HL.out,if_pos rfl]
     go_wp2
     exact bodyPost_ret (v:=.tuple #[.slice (some ⟨ub,uo,none⟩) K uc,.int .i64 0]) (by simp[results,Tryz.results26,go_sem]) rfl ⟨_,rfl,HU.out,HW3.out⟩
    ·have n4:(m !=bc)=true:=by simpa using k4
     obtain rfl:E=2:=by rw[<-HE.out,if_neg (by simp),if_neg (by simp),if_neg (by simp),if_pos k4]
     obtain rfl:L=[]:=HBAD.out (by decide)
     clear k4
     go_wp2
     exact bodyPost_ret (v:=.tuple #[.slice none 0 0,.int .i64 2]) (by simp[results,Tryz.results26,go_sem]) rfl ⟨_,rfl,isBts_nil _,HW3.out⟩
   ·obtain rfl:g3=E:=by rw[<-HE.out,if_neg (by simp),if_neg (by simp),if_pos k3]
    obtain rfl:L=[]:=HBAD.out k3
    have n3:(g3 !=0)=true:=by simpa using k3
    clear k3
    go_wp2
    exact bodyPost_ret (v:=.tuple #[.slice none 0 0,.int .i64 g3]) (by simp[results,Tryz.results26,go_sem]) rfl ⟨_,rfl,isBts_nil _,HW3.out⟩
  ·obtain rfl:g2=E:=by rw[<-HE.out,if_neg (by simp),if_pos k2]
   obtain rfl:L=[]:=HBAD.out k2
   have n2:(g2 !=0)=true:=by simpa using k2
   clear k2
   go_wp2
   exact bodyPost_ret (v:=.tuple #[.slice none 0 0,.int .i64 g2]) (by simp[results,Tryz.results26,go_sem]) rfl ⟨_,rfl,isBts_nil _,HW2.out⟩
 ·obtain rfl:g1=E:=by rw[<-HE.out,if_pos k1]
  obtain rfl:L=[]:=HBAD.out k1
  have n1:(g1 !=0)=true:=by simpa using k1
  clear k1
  go_wp2
  exact bodyPost_ret (v:=.tuple #[.slice none 0 0,.int .i64 g1]) (by simp[results,Tryz.results26,go_sem]) rfl ⟨_,rfl,isBts_nil _,HW1.out⟩
theorem rgo_any(v vx:Value)(l:Ly)(x:Mx)(w:World)(hv:IsLy w v l)(hx:M_ w vx x)(hE:goE l x=0):Calls Tryz.prog 89 #[v,vx] w (RefEnd w (goX l x)):=by
 obtain ⟨s,t,rfl,hs,ht⟩:=hv
 obtain ⟨xa,xn,xk,rfl⟩:=hs.shape
 obtain ⟨ya,yn,yk,rfl⟩:=ht.shape
 cases lyG_of (goE_zero hE).1 using LyG.el with
 |lin _ _ hk _ _ _ _ _=>rw[hk];exact rgo_linear l x vx w hk hE hs ht hx
 |relu hk _ _=>rw[hk];exact rgo_relu l x vx w hk hE hx
 |scale hk _ _=>rw[hk];exact rgo_scale l x vx w hk hE hs hx
 |shift _ hk _ _ _=>rw[hk];exact rgo_shift l x vx w hk hE ht hx
set_option maxHeartbeats 4000000 in
set_option maxRecDepth 100000 in
theorem rnetgo_any(v vx:Value)(ls:List Ly)(x:Mx)(w:World)(hv:Y_ w v ls)(hx:M_ w vx x):
  Calls Tryz.prog 57 #[v,vx] w fun e w'=>∃v',e=.returned (.tuple #[v',.int .i64 (ngE ls x)])/\IsMxs w' v' (ngX ls x)/\Below w.heap.size w w':=by
 obtain ⟨a,cap,rfl,hlc,hcm⟩:=hv.shape
 obtain ⟨sx,rfl,hsx⟩:=hx
 obtain ⟨za,zn,zk,rfl⟩:=hsx.shape
 have HV:=h_ hv
 obtain ⟨N,hN⟩:=gN (ls.length)
 have HN:=h_ hN
 obtain ⟨X,hX⟩:=gN (ngX ls x)
 obtain ⟨E,hE⟩:=gN (ngE ls x)
 have HX:=h_ (And.intro hX hE)
 have HSX:=h_ hsx
 have HF:=h_ (fun W (h:Below w.heap.size w W)=>fault_any (.agg #[.int .i64 x.rows,.int .i64 x.cols,.slice za zn zk]) x W ⟨_,rfl,hsx.u_ h⟩)
 have hNm:N<=maxLen:=by omega
 unfold maxLen at hNm
 rw[hX,hE]
 rw[hN]at HV ⊢
 obtain ⟨r,er⟩:=gN (x.rows)
 obtain ⟨c,ec⟩:=gN (x.cols)
 have HRC:=h_ (And.intro er ec)
 rw[er,ec]at HF ⊢
 clear hX hE hv hN hlc hcm hsx er ec
 obtain ⟨V,hV⟩:=gM (w.alloc (.cells #[.int .i64 r,.int .i64 c,.slice za zn zk] 28))
 have HVV:=h_ hV
 have HWV:Hid (Below w.heap.size w V):=by rw[hV];exact h_ (o_ _ _)
 have HBX:Hid (Box V w.heap.size [.int .i64 r,.int .i64 c,.slice za zn zk]):=by rw[hV];exact h_ (Box.new w _ 28 rfl)
 have HFX:Hid (Free V w.heap.size):=by rw[hV];exact h_ (Free.new w _ 28 rfl)
 clear hV
 by_cases h12:12<N
 ·obtain rfl:E=3:=by rw[<-HX.out.2];unfold ngE;rw[if_pos (by rw[HN.out];exact h12)]
  obtain rfl:X=[]:=by rw[<-HX.out.1];unfold ngX;rw[HX.out.2,if_neg (by decide)]
  have h12':(12:Int)<(N:Int):=by omega
  go_enter Tryz.func57,Tryz.ntmps57
  go_wp2
  rw[<-HVV.out]
  exact bodyPost_ret (v:=.tuple #[.slice none 0 0,.int .i64 3]) (by simp[results,Tryz.results57,go_sem]) rfl ⟨_,rfl,isMxs_nil _,HWV.out⟩
 ·have h12':¬(12:Int)<(N:Int):=by omega
  have HE0:=h_ (show (if q_ x≠0 then q_ x else runE ls x)=E by have h:=HX.out.2;unfold ngE at h;rw[if_neg (by rw[HN.out];exact h12)]at h;exact h)
  have HX0:=h_ (show (if E=0 then x::runT ls x else [])=X by have h:=HX.out.1;unfold ngX at h;rw[HX.out.2]at h;exact h)
  obtain ⟨d0,d1,d2⟩:=HBX.out.c3
  rw[HVV.out]at d0 d1 d2
  clear hNm
  go_enter Tryz.func57,Tryz.ntmps57
  go_wp2_with fail
  rw[<-HVV.out]
  refine (HF.out _ HWV.out).mono ?_
  rintro e w1 ⟨rfl,hb1⟩
  have HB1:=h_ hb1
  clear hb1 d0 d1 d2 HF
  by_cases hf:q_ x=0
  ·rw[hf]
   have hE1:=HE0.out
   rw[if_neg (by simp[hf])]at hE1
   have HE1:=h_ hE1
   clear hE1 hf
   obtain ⟨d0,d1,d2⟩:=(HBX.out.u_ HB1.out).c3
   go_wp2
   have HOW:=h_ (Owns.made (lo:=w.heap.size) (base:=w.heap.size+1) (w:=w1) (e:=28) (size:=3) (n:=1) (cs:=[.int .i64 r,.int .i64 c,.slice za zn zk]) (sp:=mxS x)
    (by have h1:=HB1.out.size;rw[HVV.out,World.size_alloc]at h1;exact h1) (by unfold maxLen;decide) rfl
    (by rw[<-HRC.out.1,<-HRC.out.2];exact enc_mx (part_old HSX.out (b_ HWV.out HB1.out) (fun b hb=>hb.1))))
   obtain ⟨W0,hW0⟩:=gM (w1.alloc (.cells #[.int .i64 r,.int .i64 c,.slice za zn zk] 28))
   rw[<-hW0]at HOW ⊢
   have D:Below V.heap.size V W0:=by rw[hW0];exact b_ HB1.out (o_ _ _)
   have HBX0:=h_ (HBX.out.u_ D)
   have HFX0:=h_ (HFX.out.u_ D HBX.out.lt)
   have HW0:=h_ (b_ HWV.out D)
   have HP0:=h_ (show P_ W0 (fun b=>(Value.slice (some ⟨w1.heap.size,0,none⟩) 1 1).ownBlock=some b\/(w.heap.size<=b/\b<w.heap.size+1)) (.inr x.cells) (.slice za zn zk) from part_old HSX.out (b_ HWV.out D) (fun b hb=>by
    rcases hb with hb|hb
    ·have e:w1.heap.size=b:=by simpa [Value.ownBlock] using hb
     have:=(b_ HWV.out HB1.out).size
     omega
    ·exact hb.1))
   clear D hW0 d0 d1 d2
   go_loopw [6,7,8] (fun _e o a wr=>∃(i:Nat) (xi:Int) (m:Mx) (pre:List Mx) (qa:Option Addr) (qn qk:Nat),i<=N/\xi=(i:Int)/\a=.int .i64 xi/\pre.length=i+1/\pre++runT (ls.drop i) m=x::runT ls x/\runE (ls.drop i) m=E/\
    Owns w.heap.size (w.heap.size+1) wr 28 3 o (i+1) (pre.flatMap mxS)/\Box wr w.heap.size [.int .i64 m.rows,.int .i64 m.cols,.slice qa qn qk]/\Free wr w.heap.size/\
    P_ wr (fun b=>o.ownBlock=some b\/(w.heap.size<=b/\b<w.heap.size+1)) (.inr m.cells) (.slice qa qn qk)/\Below w.heap.size w wr) (fun _ _ a _=>N - (intOf a).toNat)
   case atStart=>
    refine ⟨0,0,x,[x],za,zn,zk,Nat.zero_le _,rfl,rfl,rfl,rfl,HE1.out,?_,?_,HFX0.out,HP0.out,HW0.out⟩
    ·simpa using HOW.out
    ·rw[HRC.out.1,HRC.out.2];exact HBX0.out
   case round=>
    obtain ⟨i,xi,m,pre,qa,qn,qk,hi,hxi,rfl,hpl,hpr,he,how,hbx,hfx,hpt,hb⟩:=hrel
    have HXI:=h_ hxi
    have HPL:=h_ (And.intro hpl (And.intro hpr he))
    have HO:=h_ how
    have HBM:=h_ hbx
    have HFM:=h_ hfx
    have HPM:=h_ hpt
    have HB:=h_ hb
    have hxi0:0<=xi:=by omega
    have hxi1:xi<=12:=by omega
    clear hxi hpl hpr he how hbx hfx hpt hb
    by_cases hlt:xi<(N:Int)
    ·have hin:i<N:=by have:=HXI.out;omega
     have hxn:xi.toNat=i:=by have:=HXI.out;omega
     obtain ⟨l,hl⟩:∃l,ls[i]?=some l:=⟨ls[i]'(by have:=HN.out;omega),List.getElem?_eq_getElem _⟩
     obtain ⟨b,off,cp,sa,sn,sk,ta,tn,tk,ev,k0,k1,k2,k3,k4,k5,k6,hly⟩:=HV.out.at hl
     injection ev with ev1 ev2 ev3
     clear ev2 ev3
     subst ev1
     rw[<-hxn]at k0 k1 k2 k3 k4 k5 k6
     have HK:=h_ (fun W (h:Below w.heap.size w W)=>And.intro (c_ h k0) (And.intro (c_ h k1) (And.intro (c_ h k2) (And.intro (c_ h k3) (And.intro (c_ h k4) (And.intro (c_ h k5) (c_ h k6)))))))
     have HLY:=h_ hly
     have HDR:=h_ (drop_at hl)
     obtain ⟨y,hy⟩:=gN (goX l m)
     obtain ⟨ge,hge⟩:=gN (goE l m)
     have HY:=h_ (And.intro hy hge)
     clear k0 k1 k2 k3 k4 k5 k6 hly hl hxn hy hge
     have HGF:=h_ (rgofault_any _ _ l m wr.drew (HLY.out.u_ (r_ HB.out)) ⟨_,rfl,HPM.out.1.u_ (r_ (Below.refl _ wr))⟩)
     rw[HY.out.2]at HGF
     obtain ⟨k0,k1,k2,k3,k4,k5,k6⟩:=HK.out wr HB.out
     obtain ⟨d0,d1,d2⟩:=HBM.out.c3
     go_wp2
     refine region_tail 5 (by kernel_rfl) (by kernel_rfl) ?_
     simp only[List.take_succ_cons,List.take_zero,List.drop_succ_cons,List.drop_zero]
     repeat still_step
     refine wpStill_nil ?_
     go_wp2_with fail
     refine HGF.out.mono ?_
     rintro e w2 ⟨rfl,hb2⟩
     have HB2:=h_ (b_ (r_ (Below.refl wr.heap.size wr)) hb2)
     clear hb2 k0 k1 k2 k3 k4 k5 k6 d0 d1 d2 HGF
     obtain ⟨hpl,hpr,he⟩:=HPL.out
     rw[HDR.out]at hpr he
     by_cases hg:ge=0
     ·subst hg
      have he2:runE (ls.drop (i+1)) y=E:=by rw[<-he];show _=(if goE l m≠0 then goE l m else runE (ls.drop (i+1)) (goX l m));rw[HY.out.1,HY.out.2,if_neg (by simp)]
      have hpr2:(pre++[y])++runT (ls.drop (i+1)) y=x::runT ls x:=by rw[<-hpr];show _=pre++(goX l m::runT (ls.drop (i+1)) (goX l m));rw[HY.out.1];simp
      have HP2:=h_ (And.intro hpl (And.intro hpr2 he2))
      clear hpl hpr he he2 hpr2
      have HGO:=h_ (rgo_any _ _ l m w2.drew (HLY.out.u_ (b_ HB.out (r_ HB2.out))) ⟨_,rfl,HPM.out.1.u_ (r_ HB2.out)⟩ HY.out.2)
      rw[HY.out.1]at HGO
      obtain ⟨k0,k1,k2,k3,k4,k5,k6⟩:=HK.out w2 (b_ HB.out HB2.out)
      obtain ⟨d0,d1,d2⟩:=(HBM.out.u_ HB2.out).c3
      go_wp2
      refine region_tail 5 (by kernel_rfl) (by kernel_rfl) ?_
      simp only[List.take_succ_cons,List.take_zero,List.drop_succ_cons,List.drop_zero]
      repeat still_step
      refine wpStill_nil ?_
      go_wp2_with fail
      refine HGO.out.mono ?_
      rintro e w3 ⟨pa,pn,pk,rfl,hm,hb3,hf⟩
      have D3:=b_ (r_ HB2.out) hb3
      have hlt0:=HBM.out.lt
      have t:=three_set (HBM.out.u_ D3) (.int .i64 y.rows) (.int .i64 y.cols) (.slice pa pn pk)
      obtain ⟨s0,s1,s2⟩:=t.c3
      obtain ⟨t0,t1,t2⟩:=(HBM.out.u_ D3).c3
      obtain ⟨v0,v1,v2⟩:=(HFM.out.u_ D3 hlt0).f3
      have HBT:=h_ t
      have hGlt:∀b,(fun b=>u7.ownBlock=some b\/(w.heap.size<=b/\b<w.heap.size+1)) b->b<w2.drew.heap.size:=fun b hb=>by
       have h1:=(r_ HB2.out).size
       rcases hb with hb|hb
       ·have:=(HO.out.lt b hb).2;omega
       ·omega
      have HPY:=h_ (show P_ (((w3.setCell ⟨w.heap.size,0,none⟩ (.int .i64 y.rows)).setCell ⟨w.heap.size,1,none⟩ (.int .i64 y.cols)).setCell ⟨w.heap.size,2,none⟩ (.slice pa pn pk)) (fun b=>u7.ownBlock=some b\/(w.heap.size<=b/\b<w.heap.size+1)) (.inr y.cells) (.slice pa pn pk) from (((x_ hm.ints hf hGlt).set (.inr ⟨Nat.le_refl _,Nat.lt_succ_self _⟩) 0 _).set (.inr ⟨Nat.le_refl _,Nat.lt_succ_self _⟩) 1 _).set (.inr ⟨Nat.le_refl _,Nat.lt_succ_self _⟩) 2 _)
      have HO3:=h_ (show Owns w.heap.size (w.heap.size+1) (((w3.setCell ⟨w.heap.size,0,none⟩ (.int .i64 y.rows)).setCell ⟨w.heap.size,1,none⟩ (.int .i64 y.cols)).setCell ⟨w.heap.size,2,none⟩ (.slice pa pn pk)) 28 3 u7 (i+1) (pre.flatMap mxS) from (((HO.out.u_ D3).set (Nat.le_refl _) (Nat.lt_succ_self _) 0 _).set (Nat.le_refl _) (Nat.lt_succ_self _) 1 _).set (Nat.le_refl _) (Nat.lt_succ_self _) 2 _)
      have HW3:=h_ (show Below w.heap.size w (((w3.setCell ⟨w.heap.size,0,none⟩ (.int .i64 y.rows)).setCell ⟨w.heap.size,1,none⟩ (.int .i64 y.cols)).setCell ⟨w.heap.size,2,none⟩ (.slice pa pn pk)) from S_ (b_ HB.out D3) (Nat.le_refl _) _ _ _)
      have HFR:=h_ (show Free (((w3.setCell ⟨w.heap.size,0,none⟩ (.int .i64 y.rows)).setCell ⟨w.heap.size,1,none⟩ (.int .i64 y.cols)).setCell ⟨w.heap.size,2,none⟩ (.slice pa pn pk)) w.heap.size from (HFM.out.u_ D3 hlt0).set3 _ _ _ _)
      have HOA:=h_ (HO3.out.u_ (o_ _ (.cells #[.int .i64 y.rows,.int .i64 y.cols,.slice pa pn pk] 28)))
      have HEN:=h_ (enc_mx (HPY.out.u_ (o_ _ (.cells #[.int .i64 y.rows,.int .i64 y.cols,.slice pa pn pk] 28))))
      have HBS:=h_ (show w.heap.size+1<=((((w3.setCell ⟨w.heap.size,0,none⟩ (.int .i64 y.rows)).setCell ⟨w.heap.size,1,none⟩ (.int .i64 y.cols)).setCell ⟨w.heap.size,2,none⟩ (.slice pa pn pk)).alloc (.cells #[.int .i64 y.rows,.int .i64 y.cols,.slice pa pn pk] 28)).heap.size by have:=(b_ HB.out D3).size;simp;omega)
      have HNB:=h_ (show Box ((((w3.setCell ⟨w.heap.size,0,none⟩ (.int .i64 y.rows)).setCell ⟨w.heap.size,1,none⟩ (.int .i64 y.cols)).setCell ⟨w.heap.size,2,none⟩ (.slice pa pn pk)).alloc (.cells #[.int .i64 y.rows,.int .i64 y.cols,.slice pa pn pk] 28)) w3.heap.size [.int .i64 y.rows,.int .i64 y.cols,.slice pa pn pk] from Box.new _ _ _ (by simp))
      obtain ⟨e0,ei,hz0,hz1,hz2⟩:=info_parts infoMx
      have HEI:=h_ (And.intro ei (And.intro hz0 (And.intro hz1 hz2)))
      clear ei hz0 hz1 hz2 hm hb3 hf t hGlt D3 hlt0 k0 k1 k2 k3 k4 k5 k6 d0 d1 d2 HGO
      go_wp2_with (at_builtin;refine wpList_append_owns rfl _ _ 106 rfl (w.heap.size+1) 28 e0 (.agg #[.int .i64 0,.int .i64 0,.slice none 0 0]) 3 40 Tryz.underlying106 HEI.out.1 HEI.out.2.1 HEI.out.2.2.1 HEI.out.2.2.2 rfl (by decide) w.heap.size _ _ _ rfl HOA.out ⟨w3.heap.size,0,none⟩ 1 1 [.int .i64 y.rows,.int .i64 y.cols,.slice pa pn pk] rfl rfl ?c1 (mxS y) HEN.out ?c3 ?c4 HBS.out ?_)
      case c1=>exact fun q u hq=>by rw[addr_add];exact HNB.out q u hq
      case c3=>unfold maxLen;omega
      case c4=>omega
      intro v' w' hown' hgrow hwh
      have hne:some w.heap.size≠u7.ownBlock:=fun e=>by have:=(HO.out.lt _ e.symm).1;omega
      have hlw:w.heap.size<((((w3.setCell ⟨w.heap.size,0,none⟩ (.int .i64 y.rows)).setCell ⟨w.heap.size,1,none⟩ (.int .i64 y.cols)).setCell ⟨w.heap.size,2,none⟩ (.slice pa pn pk)).alloc (.cells #[.int .i64 y.rows,.int .i64 y.cols,.slice pa pn pk] 28)).heap.size:=Nat.lt_of_lt_of_le (Nat.lt_succ_self _) HBS.out
      have hbx:Box w' w.heap.size [.int .i64 y.rows,.int .i64 y.cols,.slice pa pn pk]:=fun j u hu=>hgrow.cell ((HBT.out.u_ (o_ _ (.cells #[.int .i64 y.rows,.int .i64 y.cols,.slice pa pn pk] 28))) j u hu) hne
      have hfr:Free w' w.heap.size:=fun j=>(World.frozen?_of_block (a:=⟨w.heap.size,j,none⟩) (hgrow.block _ hlw hne)).trans ((HFR.out.u_ (o_ _ (.cells #[.int .i64 y.rows,.int .i64 y.cols,.slice pa pn pk] 28)) HBT.out.lt) j)
      have hpt:P_ w' (fun b=>v'.ownBlock=some b\/(w.heap.size<=b/\b<w.heap.size+1)) (.inr y.cells) (.slice pa pn pk):=(HPY.out.u_ (o_ _ (.cells #[.int .i64 y.rows,.int .i64 y.cols,.slice pa pn pk] 28))).grown hgrow (fun b hb=>.inl hb) (fun b hlt hg=>by
       rcases hg with hg|hg
       ·rcases hwh with hwh|hwh
        ·exact .inl (hwh▸hg)
        ·rw[hwh]at hg
         have h1:=Option.some.inj hg
         try simp at h1 hlt
         omega
       ·exact .inr hg)
      have hbl:Below w.heap.size w w':=(b_ HW3.out (o_ _ (.cells #[.int .i64 y.rows,.int .i64 y.cols,.slice pa pn pk] 28))).grown hgrow (Nat.le_of_lt hlw) (fun k hk=>by have:=(HO.out.lt k hk).1;omega)
      rw[flat_snoc]at hown'
      have HR:=h_ (And.intro hown' (And.intro hbx (And.intro hfr (And.intro hpt hbl))))
      clear hown' hgrow hwh hne hlw hbx hfr hpt hbl s0 s1 s2 t0 t1 t2 v0 v1 v2
      go_wp2
      go_roundw
      case rel=>exact ⟨i+1,_,y,pre++[y],pa,pn,pk,by omega,by have:=HXI.out;omega,rfl,by rw[List.length_append,HP2.out.1];rfl,HP2.out.2.1,HP2.out.2.2,HR.out.1,HR.out.2.1,HR.out.2.2.1,HR.out.2.2.2.1,HR.out.2.2.2.2⟩
      case measure=>have:=HXI.out;simp[intOf];omega
     ·have hEE:ge=E:=by rw[<-he];show _=(if goE l m≠0 then goE l m else runE (ls.drop (i+1)) (goX l m));rw[HY.out.2,if_pos hg]
      have hX:X=[]:=by rw[<-HX0.out,if_neg (by rw[<-hEE];exact hg)]
      have hj1:(ge !=0)=true:=by simp[hg]
      subst hX hEE
      clear hg hpl hpr he
      go_wp2
      exact bodyPost_ret (v:=.tuple #[.slice none 0 0,.int .i64 ge]) (by simp[results,Tryz.results57,go_sem]) rfl ⟨_,rfl,isMxs_nil _,b_ HB.out HB2.out⟩
    ·have hin:i=N:=by have:=HXI.out;omega
     obtain ⟨hpl,hpr,he⟩:=HPL.out
     rw[hin,<-HN.out,List.drop_length]at hpr he
     replace hpr:pre=x::runT ls x:=by rw[<-hpr];show pre=pre++[];simp
     replace he:0=E:=he
     subst he
     have hX:pre=X:=by rw[hpr,<-HX0.out,if_pos rfl]
     subst hX
     have HM:=h_ (show IsMxs wr u7 pre from reads_mxs (by rw[hpl];exact HO.out.reads))
     clear hpr hin hpl
     go_wp2
     exact bodyPost_ret (v:=.tuple #[u7,.int .i64 0]) (by simp[results,Tryz.results57,go_sem]) rfl ⟨_,rfl,HM.out,HB.out⟩
  ·obtain rfl:q_ x=E:=by rw[<-HE0.out,if_pos hf]
   obtain rfl:X=[]:=by rw[<-HX0.out,if_neg hf]
   have hj1:(q_ x !=0)=true:=by simp[hf]
   obtain ⟨j,hj⟩:=gN (q_ x)
   rw[hj]at hj1 ⊢
   clear hf
   go_wp2
   exact bodyPost_ret (v:=.tuple #[.slice none 0 0,.int .i64 j]) (by simp[results,Tryz.results57,go_sem]) rfl ⟨_,by rw[hj],isMxs_nil _,b_ HWV.out HB1.out⟩
end Go.Proofs.YtniloklglpchfaeGreatDoor
