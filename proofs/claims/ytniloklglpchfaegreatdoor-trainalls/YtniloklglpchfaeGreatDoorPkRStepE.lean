/- What StepFault of the document's answer comes to: what is wrong with a step. -/
import Derived.Test.YtniloklglpchfaeGreatDoorPkStep
import Derived.Test.YtniloklglpchfaeGreatDoorRLFault
import Derived.Test.YtniloklglpchfaeGreatDoorPkReg
import Derived.Test.YtniloklglpchfaeGreatDoorPkNetLaw
import Derived.Test.YtniloklglpchfaeGreatDoorPkSame
namespace Go.Proofs.YtniloklglpchfaeGreatDoor
open Go.RowKit
theorem shaped_any(va vb:Value)(a b:Mx)(w:World)(hva:M_ w va a)(hvb:M_ w vb b):Calls Tryz.prog 20 #[va,vb] w fun e w'=>e=.returned (.bool (H_ a b))/\Below w.heap.size w w':=by
 obtain ⟨s,rfl,hs⟩:=hva
 obtain ⟨t,rfl,ht⟩:=hvb
 obtain ⟨sa,sn,sk,rfl⟩:=hs.shape
 obtain ⟨ta,tn,tk,rfl⟩:=ht.shape
 unfold H_
 by_cases h1:a.rows=b.rows
 ·by_cases h2:a.cols=b.cols
  ·rw[show decide (a.rows=b.rows/\a.cols=b.cols)=true from decide_eq_true ⟨h1,h2⟩]
   have h1':(a.rows==b.rows)=true:=by simpa using h1
   have h2':(a.cols==b.cols)=true:=by simpa using h2
   clear h1 h2 hs ht
   go_enter Tryz.func20,Tryz.ntmps20
   go_wp2
   go_ret
   exact ⟨rfl,a_ (o_ _ _)⟩
  ·rw[show decide (a.rows=b.rows/\a.cols=b.cols)=false from decide_eq_false (fun h=>h2 h.2)]
   have h1':(a.rows==b.rows)=true:=by simpa using h1
   have h2':(a.cols==b.cols)=false:=by simpa using h2
   clear h1 h2 hs ht
   go_enter Tryz.func20,Tryz.ntmps20
   go_wp2
   go_ret
   exact ⟨rfl,a_ (o_ _ _)⟩
 ·rw[show decide (a.rows=b.rows/\a.cols=b.cols)=false from decide_eq_false (fun h=>h1 h.1)]
  have h1':(a.rows==b.rows)=false:=by simpa using h1
  clear h1 hs ht
  go_enter Tryz.func20,Tryz.ntmps20
  go_wp2
  go_ret
  exact ⟨rfl,a_ (o_ _ _)⟩
set_option maxHeartbeats 8000000 in
set_option maxRecDepth 100000 in
theorem rstatefault_any(v v1:Value)(ls:List Ly)(ps:List (Mx×Mx))(n:Int)(w:World)(hv:Y_ w v ls)(hp:D_ w v1 ps):
  Calls Tryz.prog 5 #[.agg #[v,v1,.int .i64 n]] w fun e w'=>e=.returned (.int .i64 (stateE ls ps n))/\Below w.heap.size w w':=by
 obtain ⟨a,cap,rfl,hlc,hcm⟩:=hv.shape
 obtain ⟨a1,cap1,rfl,hlc1,hcm1⟩:=hp.shape
 have HV:=h_ hv
 have HP:=h_ hp
 obtain ⟨N,hN⟩:=gN (ls.length)
 obtain ⟨N1,hN1⟩:=gN (ps.length)
 have HN:=h_ (And.intro hN hN1)
 obtain ⟨E,hE⟩:=gN (stateE ls ps n)
 have HE1:=h_ (show (if 12<N then 3 else if N1≠N then 2 else if n<0\/1000000000<n then 1 else sttE ls ps)=E by rw[<-hE,<-hN,<-hN1];rfl)
 rw[hE]
 rw[hN]at HV ⊢
 rw[hN1]at HP ⊢
 have hm0:N<=maxLen:=by omega
 have hm1:N1<=maxLen:=by omega
 unfold maxLen at hm0 hm1
 clear hv hp hN hN1 hE hlc hcm hlc1 hcm1
 have HBX:=h_ (o_ w (.cells #[.slice a N cap,.slice a1 N1 cap1,.int .i64 n] 25))
 have HSX:=h_ (Box.new w [.slice a N cap,.slice a1 N1 cap1,.int .i64 n] 25 rfl)
 by_cases h12:12<N
 ·obtain rfl:E=3:=by rw[<-HE1.out,if_pos h12]
  have h12':(12:Int)<(N:Int):=by omega
  go_enter Tryz.func5,Tryz.ntmps5
  go_wp2
  exact bodyPost_ret (v:=.int .i64 3) (by simp[results,Tryz.results5,go_sem]) rfl ⟨rfl,HBX.out⟩
 have h12':¬(12:Int)<(N:Int):=by omega
 by_cases hl1:N1=N
 case neg=>
  obtain rfl:E=2:=by rw[<-HE1.out,if_neg h12,if_pos hl1]
  have hn1:((N1:Int) !=(N:Int))=true:=by simp;omega
  go_enter Tryz.func5,Tryz.ntmps5
  go_wp2
  exact bodyPost_ret (v:=.int .i64 2) (by simp[results,Tryz.results5,go_sem]) rfl ⟨rfl,HBX.out⟩
 subst hl1
 have hnn:((N1:Int) !=(N1:Int))=false:=by simp
 by_cases r0:n<0
 ·obtain rfl:E=1:=by rw[<-HE1.out,if_neg h12,if_neg (by simp),if_pos (.inl r0)]
  go_enter Tryz.func5,Tryz.ntmps5
  go_wp2
  exact bodyPost_ret (v:=.int .i64 1) (by simp[results,Tryz.results5,go_sem]) rfl ⟨rfl,HBX.out⟩
 by_cases r1:1000000000<n
 ·obtain rfl:E=1:=by rw[<-HE1.out,if_neg h12,if_neg (by simp),if_pos (.inr r1)]
  go_enter Tryz.func5,Tryz.ntmps5
  go_wp2
  exact bodyPost_ret (v:=.int .i64 1) (by simp[results,Tryz.results5,go_sem]) rfl ⟨rfl,HBX.out⟩
 have HE2:=h_ (show sttE ls ps=E by rw[<-HE1.out,if_neg h12,if_neg (by simp),if_neg (by omega)])
 clear h12 hm0 hm1
 go_enter Tryz.func5,Tryz.ntmps5
 go_wp2
 go_loopw [3] (fun q wr=>∃(i:Nat) (xi:Int),i<=N1/\xi=(i:Int)/\q=.int .i64 xi/\sttE (ls.drop i) (ps.drop i)=E/\Below (w.alloc (.cells #[.slice a N1 cap,.slice a1 N1 cap1,.int .i64 n] 25)).heap.size (w.alloc (.cells #[.slice a N1 cap,.slice a1 N1 cap1,.int .i64 n] 25)) wr) (fun q _=>N1 - (intOf q).toNat)
 case atStart=>exact ⟨0,0,Nat.zero_le _,rfl,rfl,HE2.out,Below.refl _ _⟩
 case round=>
  obtain ⟨i,xi,hi,hxi,rfl,he,hbv⟩:=hrel
  have HXI:=h_ hxi
  have HBV:=h_ hbv
  have HB:=h_ (b_ HBX.out hbv)
  have HER:=h_ he
  have hxi0:0<=xi:=by omega
  have hxi1:xi<=12:=by omega
  have x0:=(HSX.out.u_ HBV.out) 0 _ rfl
  clear hxi he hbv
  by_cases hlt:xi<(N1:Int)
  ·have hin:i<N1:=by have:=HXI.out;omega
   have hxn:xi.toNat=i:=by have:=HXI.out;omega
   obtain ⟨l,hl⟩:∃x,ls[i]?=some x:=⟨ls[i]'(by have:=HN.out.1;omega),List.getElem?_eq_getElem _⟩
   obtain ⟨p,hp⟩:∃x,ps[i]?=some x:=⟨ps[i]'(by have:=HN.out.2;omega),List.getElem?_eq_getElem _⟩
   obtain ⟨b,off,cp,sa,sn,sk,ta,tn,tk,ev,k0,k1,k2,k3,k4,k5,k6,hly⟩:=HV.out.at hl
   injection ev with ev1 ev2 ev3
   clear ev2 ev3
   subst ev1
   obtain ⟨b1,off1,cp1,pa,pn,pk,qa,qn,qk,ev,y0,y1,y2,y3,y4,y5,hpw,hpb⟩:=HP.out.at hp
   injection ev with ev1 ev2 ev3
   clear ev2 ev3
   subst ev1
   rw[<-hxn]at k0 k1 k2 k3 k4 k5 k6 y0 y1 y2 y3 y4 y5
   have HK:=h_ (fun W (h:Below w.heap.size w W)=>And.intro (c_ h k0) (And.intro (c_ h k1) (And.intro (c_ h k2) (And.intro (c_ h k3) (And.intro (c_ h k4) (And.intro (c_ h k5) (And.intro (c_ h k6) (And.intro (c_ h y0) (And.intro (c_ h y1) (And.intro (c_ h y2) (And.intro (c_ h y3) (And.intro (c_ h y4) (c_ h y5)))))))))))))
   have HLY:=h_ hly
   have HI:=h_ (And.intro (Y_.ints hly) (And.intro hpw hpb))
   have HER2:=h_ (show (if stt1E l p≠0 then stt1E l p else sttE (ls.drop (i+1)) (ps.drop (i+1)))=E by
    have h:=HER.out
    rw[drop_at hl,drop_at hp]at h
    exact h)
   obtain ⟨g0,hg0⟩:=gN (l_ l)
   obtain ⟨g1,hg1⟩:=gN (q_ p.1)
   obtain ⟨g2,hg2⟩:=gN (q_ p.2)
   have HG:=h_ (show stt1E l p=if g0≠0 then g0 else if g1≠0 then g1 else if g2≠0 then g2 else if H_ p.1 l.w=false\/H_ p.2 l.b=false then 2 else 0 by unfold stt1E;rw[hg0,hg1,hg2])
   have HF0:=h_ (fun W (h:Below w.heap.size w W)=>rlfault_any _ l W (HLY.out.u_ h))
   rw[hg0]at HF0
   have HF1:=h_ (fun W (h:Below w.heap.size w W)=>fault_any (.agg #[.int .i64 p.1.rows,.int .i64 p.1.cols,.slice pa pn pk]) p.1 W ⟨_,rfl,HI.out.2.1.u_ h⟩)
   rw[hg1]at HF1
   have HF2:=h_ (fun W (h:Below w.heap.size w W)=>fault_any (.agg #[.int .i64 p.2.rows,.int .i64 p.2.cols,.slice qa qn qk]) p.2 W ⟨_,rfl,HI.out.2.2.u_ h⟩)
   rw[hg2]at HF2
   clear k0 k1 k2 k3 k4 k5 k6 y0 y1 y2 y3 y4 y5 hly hpw hpb hl hp hxn hg0 hg1 hg2 HER x0
   obtain ⟨k0,k1,k2,k3,k4,k5,k6,y0,y1,y2,y3,y4,y5⟩:=HK.out wr HB.out
   obtain ⟨x0,x1⟩:=(HSX.out.u_ HBV.out).c2
   go_wp2_with fail
   refine (HF0.out _ HB.out).mono ?_
   rintro e w0 ⟨rfl,hb⟩
   have HB0:=h_ (b_ HB.out hb)
   have HV0:=h_ (b_ HBV.out hb)
   clear hb k0 k1 k2 k3 k4 k5 k6 y0 y1 y2 y3 y4 y5 x0 x1
   by_cases c0:g0=0
   ·subst c0
    obtain ⟨k0,k1,k2,k3,k4,k5,k6,y0,y1,y2,y3,y4,y5⟩:=HK.out w0 HB0.out
    obtain ⟨x0,x1⟩:=(HSX.out.u_ HV0.out).c2
    go_wp2_with fail
    refine (HF1.out _ HB0.out).mono ?_
    rintro e w1 ⟨rfl,hb⟩
    have HB1:=h_ (b_ HB0.out hb)
    have HV1:=h_ (b_ HV0.out hb)
    clear hb k0 k1 k2 k3 k4 k5 k6 y0 y1 y2 y3 y4 y5 x0 x1
    by_cases c1:g1=0
    ·subst c1
     obtain ⟨k0,k1,k2,k3,k4,k5,k6,y0,y1,y2,y3,y4,y5⟩:=HK.out w1 HB1.out
     obtain ⟨x0,x1⟩:=(HSX.out.u_ HV1.out).c2
     go_wp2_with fail
     refine (HF2.out _ HB1.out).mono ?_
     rintro e w2 ⟨rfl,hb⟩
     have HB2:=h_ (b_ HB1.out hb)
     have HV2:=h_ (b_ HV1.out hb)
     clear hb k0 k1 k2 k3 k4 k5 k6 y0 y1 y2 y3 y4 y5 x0 x1
     by_cases c2:g2=0
     ·subst c2
      have HS0:=h_ (shaped_any (.agg #[.int .i64 p.1.rows,.int .i64 p.1.cols,.slice pa pn pk]) (.agg #[.int .i64 l.w.rows,.int .i64 l.w.cols,.slice sa sn sk]) p.1 l.w w2.drew ⟨_,rfl,HI.out.2.1.u_ (d_ HB2.out)⟩ ⟨_,rfl,HI.out.1.1.u_ (d_ HB2.out)⟩)
      obtain ⟨b0v,eb0⟩:=gN (H_ p.1 l.w)
      rw[eb0]at HS0
      have HEB0:=h_ eb0
      clear eb0
      obtain ⟨k0,k1,k2,k3,k4,k5,k6,y0,y1,y2,y3,y4,y5⟩:=HK.out w2 HB2.out
      obtain ⟨x0,x1⟩:=(HSX.out.u_ HV2.out).c2
      go_wp2
      refine region_tail 12 (by kernel_rfl) (by kernel_rfl) ?_
      simp only[List.take_succ_cons,List.take_zero,List.drop_succ_cons,List.drop_zero]
      repeat still_step
      refine wpStill_nil ?_
      go_wp2_with fail
      refine HS0.out.mono ?_
      rintro e u0 ⟨rfl,hb⟩
      have HU0:=h_ (b_ (d_ HB2.out) hb)
      have HVU0:=h_ (b_ (d_ HV2.out) hb)
      clear hb HS0 k0 k1 k2 k3 k4 k5 k6 y0 y1 y2 y3 y4 y5 x0 x1
      have HS1:=h_ (shaped_any (.agg #[.int .i64 p.2.rows,.int .i64 p.2.cols,.slice qa qn qk]) (.agg #[.int .i64 l.b.rows,.int .i64 l.b.cols,.slice ta tn tk]) p.2 l.b u0.drew ⟨_,rfl,HI.out.2.2.u_ (d_ HU0.out)⟩ ⟨_,rfl,HI.out.1.2.u_ (d_ HU0.out)⟩)
      obtain ⟨b1v,eb1⟩:=gN (H_ p.2 l.b)
      rw[eb1]at HS1
      have HEB1:=h_ eb1
      clear eb1
      obtain ⟨k0,k1,k2,k3,k4,k5,k6,y0,y1,y2,y3,y4,y5⟩:=HK.out u0 HU0.out
      obtain ⟨x0,x1⟩:=(HSX.out.u_ HVU0.out).c2
      go_wp2
      refine region_tail 12 (by kernel_rfl) (by kernel_rfl) ?_
      simp only[List.take_succ_cons,List.take_zero,List.drop_succ_cons,List.drop_zero]
      repeat still_step
      refine wpStill_nil ?_
      go_wp2_with fail
      refine HS1.out.mono ?_
      rintro e u1 ⟨rfl,hb⟩
      have HU1:=h_ (b_ (d_ HU0.out) hb)
      have HVU1:=h_ (b_ (d_ HVU0.out) hb)
      clear hb HS1 k0 k1 k2 k3 k4 k5 k6 y0 y1 y2 y3 y4 y5 x0 x1
      by_cases call:b0v=true/\b1v=true
      ·obtain ⟨rfl,rfl⟩:=call
       have HEN:=h_ (show sttE (ls.drop (i+1)) (ps.drop (i+1))=E by
        have h:=HER2.out
        rw[HG.out,HEB0.out,HEB1.out]at h
        simpa using h)
       go_wp2
       go_roundw
       case rel=>exact ⟨i+1,_,by omega,by have:=HXI.out;omega,rfl,HEN.out,HVU1.out⟩
       case measure=>have:=HXI.out;simp[intOf];omega
      ·obtain rfl:E=2:=by
        have hs:stt1E l p=2:=by
         rw[HG.out,HEB0.out,HEB1.out,if_neg (by simp),if_neg (by simp),if_neg (by simp)]
         revert call
         cases b0v<;>cases b1v<;>simp
        have h:=HER2.out
        rw[hs,if_pos (by decide)]at h
        exact h.symm
       cases b0v<;>cases b1v
       all_goals first
        |exact absurd ⟨rfl,rfl⟩ call
        |(go_wp2;exact bodyPost_ret (v:=.int .i64 2) (by simp[results,Tryz.results5,go_sem]) rfl ⟨rfl,HU1.out⟩)
     ·obtain rfl:g2=E:=by
       have hs:stt1E l p=g2:=by rw[HG.out,if_neg (by simp),if_neg (by simp),if_pos c2]
       have h:=HER2.out
       rw[hs,if_pos c2]at h
       exact h
      have n2:(g2==0)=false:=by simpa using c2
      have m2:(g2 !=0)=true:=by simpa using c2
      clear c2
      go_wp2
      exact bodyPost_ret (v:=.int .i64 g2) (by simp[results,Tryz.results5,go_sem]) rfl ⟨rfl,HB2.out⟩
    ·obtain rfl:g1=E:=by
      have hs:stt1E l p=g1:=by rw[HG.out,if_neg (by simp),if_pos c1]
      have h:=HER2.out
      rw[hs,if_pos c1]at h
      exact h
     have n1:(g1==0)=false:=by simpa using c1
     have m1:(g1 !=0)=true:=by simpa using c1
     clear c1
     go_wp2
     exact bodyPost_ret (v:=.int .i64 g1) (by simp[results,Tryz.results5,go_sem]) rfl ⟨rfl,HB1.out⟩
   ·obtain rfl:g0=E:=by
     have hs:stt1E l p=g0:=by rw[HG.out,if_pos c0]
     have h:=HER2.out
     rw[hs,if_pos c0]at h
     exact h
    have n0:(g0==0)=false:=by simpa using c0
    have m0:(g0 !=0)=true:=by simpa using c0
    clear c0
    go_wp2
    exact bodyPost_ret (v:=.int .i64 g0) (by simp[results,Tryz.results5,go_sem]) rfl ⟨rfl,HB0.out⟩
  ·have hin:i=N1:=by have:=HXI.out;omega
   have he:=HER.out
   rw[hin,<-HN.out.1,List.drop_length]at he
   replace he:0=E:=he
   subst he
   clear hin
   go_wp2
   exact bodyPost_ret (v:=.int .i64 0) (by simp[results,Tryz.results5,go_sem]) rfl ⟨rfl,HB.out⟩
set_option maxHeartbeats 4000000 in
set_option maxRecDepth 100000 in
theorem rbatfault_any(b:Mx×Mx)(sa:Option Addr)(sn sk:Nat)(ta:Option Addr)(tn tk:Nat)(w:World)(hs:I_ w (.slice sa sn sk) b.1.cells)(ht:I_ w (.slice ta tn tk) b.2.cells):
  Calls Tryz.prog 84 #[.agg #[.int .i64 b.1.rows,.int .i64 b.1.cols,.slice sa sn sk,.int .i64 b.2.rows,.int .i64 b.2.cols,.slice ta tn tk]] w fun e w'=>e=.returned (.int .i64 (batE b))/\Below w.heap.size w w':=by
 obtain ⟨V,hV⟩:=gM (w.alloc (.cells #[.int .i64 b.1.rows,.int .i64 b.1.cols,.slice sa sn sk,.int .i64 b.2.rows,.int .i64 b.2.cols,.slice ta tn tk] 30))
 have HV:=h_ hV
 have HWV:Hid (Below w.heap.size w V):=by rw[hV];exact h_ (o_ _ _)
 have HBX:Hid (Box V w.heap.size [.int .i64 b.1.rows,.int .i64 b.1.cols,.slice sa sn sk,.int .i64 b.2.rows,.int .i64 b.2.cols,.slice ta tn tk]):=by rw[hV];exact h_ (Box.new w _ 30 rfl)
 obtain ⟨E,hE⟩:=gN (batE b)
 have HE:=h_ hE
 rw[hE]
 have HF1:=h_ (fault_any (.agg #[.int .i64 b.1.rows,.int .i64 b.1.cols,.slice sa sn sk]) b.1 V ⟨_,rfl,hs.u_ HWV.out⟩)
 have HF2:=h_ (fun W (h:Below w.heap.size w W)=>fault_any (.agg #[.int .i64 b.2.rows,.int .i64 b.2.cols,.slice ta tn tk]) b.2 W ⟨_,rfl,ht.u_ h⟩)
 obtain ⟨g1,hg1⟩:=gN (q_ b.1)
 obtain ⟨g2,hg2⟩:=gN (q_ b.2)
 rw[hg1]at HF1
 rw[hg2]at HF2
 have HG:=h_ (And.intro hg1 hg2)
 obtain ⟨d0,d1,d2⟩:=HBX.out.c3
 rw[HV.out]at d0 d1 d2
 clear hV hE hs ht hg1 hg2
 go_enter Tryz.func84,Tryz.ntmps84
 go_wp2_with fail
 rw[<-HV.out]
 refine HF1.out.mono ?_
 rintro e w1 ⟨rfl,hb1⟩
 have HB1:=h_ hb1
 have HW1:=h_ (b_ HWV.out hb1)
 clear hb1 d0 d1 d2 HF1
 by_cases c1:g1=0
 ·subst c1
  obtain ⟨d3,d4,d5⟩:=(HBX.out.u_ HB1.out).c35
  go_wp2_with fail
  refine (HF2.out _ HW1.out).mono ?_
  rintro e w2 ⟨rfl,hb2⟩
  have HB2:=h_ (b_ HB1.out hb2)
  have HW2:=h_ (b_ HW1.out hb2)
  clear hb2 d3 d4 d5
  by_cases c2:g2=0
  ·subst c2
   have d0:=(HBX.out.u_ HB2.out) 0 _ rfl
   have d3:=(HBX.out.u_ HB2.out) 3 _ rfl
   have HE3:=h_ (show (if b.1.rows≠b.2.rows\/b.1.rows=0 then 2 else 0)=E by rw[<-HE.out];unfold batE;rw[HG.out.1,HG.out.2];simp)
   obtain ⟨r1,e1⟩:=gN (b.1.rows)
   obtain ⟨r2,e2⟩:=gN (b.2.rows)
   rw[e1,e2]at HE3
   rw[e1]at d0 ⊢
   rw[e2]at d3 ⊢
   clear e1 e2
   by_cases c3:r1=r2
   ·subst c3
    have n3:(r1 !=r1)=false:=by simp
    by_cases c4:r1=0
    ·subst c4
     obtain rfl:E=2:=by rw[<-HE3.out,if_pos (.inr rfl)]
     go_wp2
     exact bodyPost_ret (v:=.int .i64 2) (by simp[results,Tryz.results84,go_sem]) rfl ⟨rfl,HW2.out⟩
    ·have n4:(r1==0)=false:=by simpa using c4
     obtain rfl:E=0:=by rw[<-HE3.out,if_neg (by simp[c4])]
     clear c4
     go_wp2
     exact bodyPost_ret (v:=.int .i64 0) (by simp[results,Tryz.results84,go_sem]) rfl ⟨rfl,HW2.out⟩
   ·have n3:(r1 !=r2)=true:=by simpa using c3
    obtain rfl:E=2:=by rw[<-HE3.out,if_pos (.inl c3)]
    clear c3
    go_wp2
    exact bodyPost_ret (v:=.int .i64 2) (by simp[results,Tryz.results84,go_sem]) rfl ⟨rfl,HW2.out⟩
  ·obtain rfl:g2=E:=by rw[<-HE.out];unfold batE;rw[HG.out.1,HG.out.2,if_neg (by simp),if_pos c2]
   have n2:(g2==0)=false:=by simpa using c2
   clear c2
   go_wp2
   exact bodyPost_ret (v:=.int .i64 g2) (by simp[results,Tryz.results84,go_sem]) rfl ⟨rfl,HW2.out⟩
 ·obtain rfl:g1=E:=by rw[<-HE.out];unfold batE;rw[HG.out.1,if_pos c1]
  have n1:(g1==0)=false:=by simpa using c1
  clear c1
  go_wp2
  exact bodyPost_ret (v:=.int .i64 g1) (by simp[results,Tryz.results84,go_sem]) rfl ⟨rfl,HW1.out⟩
set_option maxHeartbeats 4000000 in
set_option maxRecDepth 100000 in
theorem rsizes_any(rows parts:Int)(w:World):Calls Tryz.prog 85 #[.int .i64 rows,.int .i64 parts] w fun e w'=>∃s,e=.returned (.tuple #[s,.int .i64 (szE rows parts)])/\I_ w' s (szX rows parts)/\Below w.heap.size w w'/\(∀r c,F_ w.heap.size (.agg #[r,c,s])):=by
 obtain ⟨E,hE⟩:=gN (szE rows parts)
 obtain ⟨X,hX⟩:=gN (szX rows parts)
 have HE:=h_ hE
 have HX:=h_ (show (if E=0 then tab parts.toNat (fun j=>cnt parts.toNat j rows.toNat) else [])=X by rw[<-hX,<-hE];rfl)
 rw[hE,hX]
 clear hE hX
 have bad:∀{k:Int},E=k->k≠0->X=[]:=fun h hk=>by rw[<-HX.out,if_neg (by rw[h];exact hk)]
 by_cases c0:rows<1
 ·obtain rfl:E=1:=by rw[<-HE.out];unfold szE;rw[if_pos (.inl c0)]
  obtain rfl:X=[]:=bad rfl (by decide)
  clear bad
  go_enter Tryz.func85,Tryz.ntmps85
  go_wp2
  exact bodyPost_ret (v:=.tuple #[.slice none 0 0,.int .i64 1]) (by simp[results,Tryz.results85,go_sem]) rfl ⟨_,rfl,I_.nil _,Below.refl _ _,fun r c=>y_ _ _ _⟩
 by_cases c1:24<rows
 ·obtain rfl:E=1:=by rw[<-HE.out];unfold szE;rw[if_pos (.inr (.inl c1))]
  obtain rfl:X=[]:=bad rfl (by decide)
  clear bad
  go_enter Tryz.func85,Tryz.ntmps85
  go_wp2
  exact bodyPost_ret (v:=.tuple #[.slice none 0 0,.int .i64 1]) (by simp[results,Tryz.results85,go_sem]) rfl ⟨_,rfl,I_.nil _,Below.refl _ _,fun r c=>y_ _ _ _⟩
 by_cases c2:parts<1
 ·obtain rfl:E=1:=by rw[<-HE.out];unfold szE;rw[if_pos (.inr (.inr (.inl c2)))]
  obtain rfl:X=[]:=bad rfl (by decide)
  clear bad
  go_enter Tryz.func85,Tryz.ntmps85
  go_wp2
  exact bodyPost_ret (v:=.tuple #[.slice none 0 0,.int .i64 1]) (by simp[results,Tryz.results85,go_sem]) rfl ⟨_,rfl,I_.nil _,Below.refl _ _,fun r c=>y_ _ _ _⟩
 by_cases c3:12<parts
 ·obtain rfl:E=1:=by rw[<-HE.out];unfold szE;rw[if_pos (.inr (.inr (.inr c3)))]
  obtain rfl:X=[]:=bad rfl (by decide)
  clear bad
  go_enter Tryz.func85,Tryz.ntmps85
  go_wp2
  exact bodyPost_ret (v:=.tuple #[.slice none 0 0,.int .i64 1]) (by simp[results,Tryz.results85,go_sem]) rfl ⟨_,rfl,I_.nil _,Below.refl _ _,fun r c=>y_ _ _ _⟩
 by_cases c4:rows<parts
 ·obtain rfl:E=2:=by rw[<-HE.out];unfold szE;rw[if_neg (by omega),if_pos c4]
  obtain rfl:X=[]:=bad rfl (by decide)
  clear bad
  go_enter Tryz.func85,Tryz.ntmps85
  go_wp2
  exact bodyPost_ret (v:=.tuple #[.slice none 0 0,.int .i64 2]) (by simp[results,Tryz.results85,go_sem]) rfl ⟨_,rfl,I_.nil _,Below.refl _ _,fun r c=>y_ _ _ _⟩
 obtain rfl:E=0:=by rw[<-HE.out];unfold szE;rw[if_neg (by omega),if_neg c4]
 clear bad
 obtain ⟨P,hP⟩:∃P:Nat,parts=(P:Int):=⟨parts.toNat,by omega⟩
 obtain ⟨R,hR⟩:∃R:Nat,rows=(R:Int):=⟨rows.toNat,by omega⟩
 have HXE:Hid (X=tab P (fun j=>cnt P j R)):=h_ (by rw[<-HX.out,if_pos rfl,hP,hR];simp)
 have hmk:=run_mk parts P hP (by omega)
 have HPR:=h_ (And.intro hP hR)
 have HPB:=h_ (show 0<P/\P<=12/\R<=24 by omega)
 clear hP hR
 go_enter Tryz.func85,Tryz.ntmps85
 go_wp2
 clear hmk
 have HR0:=h_ (zeros_row w P)
 go_loopw [7] (fun q wr=>∃(i:Nat) (xi:Int),i<=R/\xi=(i:Int)/\q=.int .i64 xi/\RowAt 3 wr w.heap.size (tab P (fun j=>cnt P j i))/\(w.alloc (.cells (zeros P) 3)).grownBy wr (some w.heap.size)) (fun q _=>R - (intOf q).toNat)
 case atStart=>exact ⟨0,0,Nat.zero_le _,rfl,rfl,HR0.out,World.grownBy.refl _ _⟩
 case round=>
  obtain ⟨i,xi,hi,hxi,rfl,hro,hgr⟩:=hrel
  have HRO:=h_ hro
  have HGR:=h_ hgr
  have HXI:=h_ hxi
  have hxi0:0<=xi:=by omega
  have hxi1:xi<=24:=by have:=HPB.out;omega
  clear hro hgr hxi
  by_cases hlt:xi<rows
  ·have hin:i<R:=by have:=HXI.out;have:=HPR.out.2;omega
   have hm:xi.tmod parts=((i % P:Nat):Int):=by rw[HXI.out,HPR.out.1,Int.tmod_eq_emod_of_nonneg (by omega)];exact (Int.natCast_emod i P).symm
   obtain ⟨k,hk⟩:=gN (i % P)
   have hkP:k<P:=by rw[<-hk];exact Nat.mod_lt _ HPB.out.1
   have HKP:=h_ hkP
   rw[hk]at hm
   obtain ⟨xk,hxk⟩:∃xk:Int,xk=(k:Int):=⟨_,rfl⟩
   have HXK:=h_ hxk
   rw[<-hxk]at hm
   have hxk0:0<=xk:=by omega
   have hxk1:xk<(P:Int):=by omega
   have hxkn:xk.toNat=k:=by omega
   have hbd:=cnt_le P k i
   have hbn:=cnt_nonneg P k i
   obtain ⟨u,hu⟩:=gN (cnt P k i)
   rw[hu]at hbd hbn
   have hu0:0<=u:=hbn
   have hu1:u<=24:=by have:=HPB.out;omega
   have dx:wr.cell? ⟨w.heap.size,xk.toNat,none⟩=some (.int .i64 u):=by rw[hxkn,<-hu];exact HRO.out.cell (tab_at hkP)
   have fx:wr.frozen? ⟨w.heap.size,xk.toNat,none⟩=false:=HRO.out.frozen _
   have HST:=h_ (show (tab P (fun j=>cnt P j i)).set xk.toNat (u+1)=tab P (fun j=>cnt P j (i+1)) by
    rw[hxkn,tab_set]
    refine tab_congr (fun q _=>?_)
    show _=cnt P q i+if i % P=q then 1 else 0
    rw[hk]
    by_cases hq:q=k
    ·subst hq;rw[if_pos rfl,if_pos rfl,hu]
    ·rw[if_neg hq,if_neg (fun e=>hq e.symm)];omega)
   have hp0:¬parts=0:=by omega
   clear hkP hk hxk hxkn hbd hbn hu
   go_wp2
   go_roundw
   case rel=>exact ⟨i+1,_,by omega,by have:=HXI.out;omega,rfl,by rw[<-HST.out];exact HRO.out.set _ _,w_ HGR.out _ _⟩
   case measure=>have:=HXI.out;have:=HPR.out.2;simp[intOf];omega
  ·have hin:i=R:=by have:=HXI.out;have:=HPR.out.2;omega
   have HI:=h_ (show I_ wr (.slice (some ⟨w.heap.size,0,none⟩) P P) X by rw[HXE.out,<-hin];exact HRO.out.isTab (by unfold maxLen;have:=HPB.out;omega))
   have HB:=h_ (show Below w.heap.size w wr from (o_ w (.cells (zeros P) 3)).grown HGR.out (by simp) (fun k hk=>Nat.le_of_eq (Option.some.inj hk)))
   clear hin
   go_wp2
   exact bodyPost_ret (v:=.tuple #[.slice (some ⟨w.heap.size,0,none⟩) P P,.int .i64 0]) (by simp[results,Tryz.results85,go_sem]) rfl ⟨_,rfl,HI.out,HB.out,fun r c=>fresh_at (Nat.le_refl _) _ _ _⟩
end Go.Proofs.YtniloklglpchfaeGreatDoor
