/- What StateFault of the document's answer comes to: what is wrong with a state. -/
import Derived.Test.YtaajlggpjholeajDoorPkLBox
import Derived.Test.YtaajlggpjholeajDoorRStepE
namespace Go.Proofs.YtaajlggpjholeajDoor
open Go.RowKit
set_option maxHeartbeats 8000000 in
set_option maxRecDepth 100000 in
theorem rstatefault_any(v v1:Value)(ls:List Ly)(ps:List (Mx×Mx))(n:Int)(w:World)(hv:Y_ w v ls)(hp:D_ w v1 ps):
  Calls Tryd.prog 7 #[.agg #[v,v1,.int .i64 n]] w fun e w'=>e=.returned (.int .i64 (stateE ls ps n))∧Below w.heap.size w w':=by
 obtain ⟨a,cap,rfl,hlc,hcm⟩:=hv.shape
 obtain ⟨a1,cap1,rfl,hlc1,hcm1⟩:=hp.shape
 have HV:=h_ hv
 have HP:=h_ hp
 obtain ⟨N,hN⟩:=gN (ls.length)
 obtain ⟨N1,hN1⟩:=gN (ps.length)
 have HN:=h_ (And.intro hN hN1)
 obtain ⟨E,hE⟩:=gN (stateE ls ps n)
 have HE1:=h_ (show (if 12<N then 3 else if N1≠N then 2 else if n<0∨1000000000<n then 1 else sttE ls ps)=E by rw[←hE,←hN,←hN1];rfl)
 rw[hE]
 rw[hN]at HV ⊢
 rw[hN1]at HP ⊢
 have hm0:N≤maxLen:=by omega
 have hm1:N1≤maxLen:=by omega
 unfold maxLen at hm0 hm1
 clear hv hp hN hN1 hE hlc hcm hlc1 hcm1
 have HBX:=h_ (o_ w (.cells #[.slice a N cap,.slice a1 N1 cap1,.int .i64 n] 25))
 have HSX:=h_ (Box.new w [.slice a N cap,.slice a1 N1 cap1,.int .i64 n] 25 rfl)
 by_cases h12:12<N
 ·obtain rfl:E=3:=by rw[←HE1.out,if_pos h12]
  have h12':(12:Int)<(N:Int):=by omega
  go_enter Tryd.func7,Tryd.ntmps7
  go_wp2
  exact bodyPost_ret (v:=.int .i64 3) (by simp[results,Tryd.results7,go_sem]) rfl ⟨rfl,HBX.out⟩
 have h12':¬(12:Int)<(N:Int):=by omega
 by_cases hl1:N1=N
 case neg=>
  obtain rfl:E=2:=by rw[←HE1.out,if_neg h12,if_pos hl1]
  have hn1:((N1:Int) !=(N:Int))=true:=by simp;omega
  go_enter Tryd.func7,Tryd.ntmps7
  go_wp2
  exact bodyPost_ret (v:=.int .i64 2) (by simp[results,Tryd.results7,go_sem]) rfl ⟨rfl,HBX.out⟩
 subst hl1
 have hnn:((N1:Int) !=(N1:Int))=false:=by simp
 by_cases r0:n<0
 ·obtain rfl:E=1:=by rw[←HE1.out,if_neg h12,if_neg (by simp),if_pos (.inl r0)]
  go_enter Tryd.func7,Tryd.ntmps7
  go_wp2
  exact bodyPost_ret (v:=.int .i64 1) (by simp[results,Tryd.results7,go_sem]) rfl ⟨rfl,HBX.out⟩
 by_cases r1:1000000000<n
 ·obtain rfl:E=1:=by rw[←HE1.out,if_neg h12,if_neg (by simp),if_pos (.inr r1)]
  go_enter Tryd.func7,Tryd.ntmps7
  go_wp2
  exact bodyPost_ret (v:=.int .i64 1) (by simp[results,Tryd.results7,go_sem]) rfl ⟨rfl,HBX.out⟩
 have HE2:=h_ (show sttE ls ps=E by rw[←HE1.out,if_neg h12,if_neg (by simp),if_neg (by omega)])
 clear h12 hm0 hm1
 go_enter Tryd.func7,Tryd.ntmps7
 go_wp2
 go_loopw [3] (fun q wr=>∃(i:Nat) (xi:Int),i≤N1∧xi=(i:Int)∧q=.int .i64 xi∧sttE (ls.drop i) (ps.drop i)=E∧Below (w.alloc (.cells #[.slice a N1 cap,.slice a1 N1 cap1,.int .i64 n] 25)).heap.size (w.alloc (.cells #[.slice a N1 cap,.slice a1 N1 cap1,.int .i64 n] 25)) wr) (fun q _=>N1 - (intOf q).toNat)
 case atStart=>exact ⟨0,0,Nat.zero_le _,rfl,rfl,HE2.out,Below.refl _ _⟩
 case round=>
  obtain ⟨i,xi,hi,hxi,rfl,he,hbv⟩:=hrel
  have HXI:=h_ hxi
  have HBV:=h_ hbv
  have HB:=h_ (b_ HBX.out hbv)
  have HER:=h_ he
  have hxi0:0≤xi:=by omega
  have hxi1:xi≤12:=by omega
  have x0:=(HSX.out.u_ HBV.out) 0 _ rfl
  clear hxi he hbv
  by_cases hlt:xi<(N1:Int)
  ·have hin:i<N1:=by have:=HXI.out;omega
   have hxn:xi.toNat=i:=by have:=HXI.out;omega
   obtain ⟨l,hl⟩:∃x,ls[i]?=some x:=⟨ls[i]'(by have:=HN.out.1;omega),List.getElem?_eq_getElem _⟩
   obtain ⟨p,hp⟩:∃x,ps[i]?=some x:=⟨ps[i]'(by have:=HN.out.2;omega),List.getElem?_eq_getElem _⟩
   obtain ⟨b,off,cp,sa,sn,sk,ta,tn,tk,ev,k0,k1,k2,k3,k4,k5,k6,hly⟩:=HV.out.at hl
   injection ev with ev1 ev2 ev3
   clear ev2 ev3
   subst ev1
   obtain ⟨b1,off1,cp1,pa,pn,pk,qa,qn,qk,ev,y0,y1,y2,y3,y4,y5,hpw,hpb⟩:=HP.out.at hp
   injection ev with ev1 ev2 ev3
   clear ev2 ev3
   subst ev1
   rw[←hxn]at k0 k1 k2 k3 k4 k5 k6 y0 y1 y2 y3 y4 y5
   have HK:=h_ (fun W (h:Below w.heap.size w W)=>And.intro (c_ h k0) (And.intro (c_ h k1) (And.intro (c_ h k2) (And.intro (c_ h k3) (And.intro (c_ h k4) (And.intro (c_ h k5) (And.intro (c_ h k6) (And.intro (c_ h y0) (And.intro (c_ h y1) (And.intro (c_ h y2) (And.intro (c_ h y3) (And.intro (c_ h y4) (c_ h y5)))))))))))))
   have HLY:=h_ hly
   have HI:=h_ (And.intro (Y_.ints hly) (And.intro hpw hpb))
   have HER2:=h_ (show (if stt1E l p≠0 then stt1E l p else sttE (ls.drop (i+1)) (ps.drop (i+1)))=E by
    have h:=HER.out
    rw[drop_at hl,drop_at hp]at h
    exact h)
   obtain ⟨g0,hg0⟩:=gN (l_ l)
   obtain ⟨g1,hg1⟩:=gN (q_ p.1)
   obtain ⟨g2,hg2⟩:=gN (q_ p.2)
   have HG:=h_ (show stt1E l p=if g0≠0 then g0 else if g1≠0 then g1 else if g2≠0 then g2 else if H_ p.1 l.w=false∨H_ p.2 l.b=false then 2 else 0 by unfold stt1E;rw[hg0,hg1,hg2])
   have HF0:=h_ (fun W (h:Below w.heap.size w W)=>rlfault_any _ l W (HLY.out.u_ h))
   rw[hg0]at HF0
   have HF1:=h_ (fun W (h:Below w.heap.size w W)=>fault_any (.agg #[.int .i64 p.1.rows,.int .i64 p.1.cols,.slice pa pn pk]) p.1 W ⟨_,rfl,HI.out.2.1.u_ h⟩)
   rw[hg1]at HF1
   have HF2:=h_ (fun W (h:Below w.heap.size w W)=>fault_any (.agg #[.int .i64 p.2.rows,.int .i64 p.2.cols,.slice qa qn qk]) p.2 W ⟨_,rfl,HI.out.2.2.u_ h⟩)
   rw[hg2]at HF2
   clear k0 k1 k2 k3 k4 k5 k6 y0 y1 y2 y3 y4 y5 hly hpw hpb hl hp hxn hg0 hg1 hg2 HER x0
   obtain ⟨k0,k1,k2,k3,k4,k5,k6,y0,y1,y2,y3,y4,y5⟩:=HK.out wr HB.out
   obtain ⟨x0,x1⟩:=(HSX.out.u_ HBV.out).c2
   go_wp2_with fail
   refine (HF0.out _ HB.out).mono ?_
   rintro e w0 ⟨rfl,hb⟩
   have HB0:=h_ (b_ HB.out hb)
   have HV0:=h_ (b_ HBV.out hb)
   clear hb k0 k1 k2 k3 k4 k5 k6 y0 y1 y2 y3 y4 y5 x0 x1
   by_cases c0:g0=0
   ·subst c0
    obtain ⟨k0,k1,k2,k3,k4,k5,k6,y0,y1,y2,y3,y4,y5⟩:=HK.out w0 HB0.out
    obtain ⟨x0,x1⟩:=(HSX.out.u_ HV0.out).c2
    go_wp2_with fail
    refine (HF1.out _ HB0.out).mono ?_
    rintro e w1 ⟨rfl,hb⟩
    have HB1:=h_ (b_ HB0.out hb)
    have HV1:=h_ (b_ HV0.out hb)
    clear hb k0 k1 k2 k3 k4 k5 k6 y0 y1 y2 y3 y4 y5 x0 x1
    by_cases c1:g1=0
    ·subst c1
     obtain ⟨k0,k1,k2,k3,k4,k5,k6,y0,y1,y2,y3,y4,y5⟩:=HK.out w1 HB1.out
     obtain ⟨x0,x1⟩:=(HSX.out.u_ HV1.out).c2
     go_wp2_with fail
     refine (HF2.out _ HB1.out).mono ?_
     rintro e w2 ⟨rfl,hb⟩
     have HB2:=h_ (b_ HB1.out hb)
     have HV2:=h_ (b_ HV1.out hb)
     clear hb k0 k1 k2 k3 k4 k5 k6 y0 y1 y2 y3 y4 y5 x0 x1
     by_cases c2:g2=0
     ·subst c2
      have HS0:=h_ (shaped_any (.agg #[.int .i64 p.1.rows,.int .i64 p.1.cols,.slice pa pn pk]) (.agg #[.int .i64 l.w.rows,.int .i64 l.w.cols,.slice sa sn sk]) p.1 l.w w2.drew ⟨_,rfl,HI.out.2.1.u_ (d_ HB2.out)⟩ ⟨_,rfl,HI.out.1.1.u_ (d_ HB2.out)⟩)
      obtain ⟨b0v,eb0⟩:=gN (H_ p.1 l.w)
      rw[eb0]at HS0
      have HEB0:=h_ eb0
      clear eb0
      obtain ⟨k0,k1,k2,k3,k4,k5,k6,y0,y1,y2,y3,y4,y5⟩:=HK.out w2 HB2.out
      obtain ⟨x0,x1⟩:=(HSX.out.u_ HV2.out).c2
      go_wp2
      refine region_tail 12 (by kernel_rfl) (by kernel_rfl) ?_
      simp only[List.take_succ_cons,List.take_zero,List.drop_succ_cons,List.drop_zero]
      repeat still_step
      refine wpStill_nil ?_
      go_wp2_with fail
      refine HS0.out.mono ?_
      rintro e u0 ⟨rfl,hb⟩
      have HU0:=h_ (b_ (d_ HB2.out) hb)
      have HVU0:=h_ (b_ (d_ HV2.out) hb)
      clear hb HS0 k0 k1 k2 k3 k4 k5 k6 y0 y1 y2 y3 y4 y5 x0 x1
      have HS1:=h_ (shaped_any (.agg #[.int .i64 p.2.rows,.int .i64 p.2.cols,.slice qa qn qk]) (.agg #[.int .i64 l.b.rows,.int .i64 l.b.cols,.slice ta tn tk]) p.2 l.b u0.drew ⟨_,rfl,HI.out.2.2.u_ (d_ HU0.out)⟩ ⟨_,rfl,HI.out.1.2.u_ (d_ HU0.out)⟩)
      obtain ⟨b1v,eb1⟩:=gN (H_ p.2 l.b)
      rw[eb1]at HS1
      have HEB1:=h_ eb1
      clear eb1
      obtain ⟨k0,k1,k2,k3,k4,k5,k6,y0,y1,y2,y3,y4,y5⟩:=HK.out u0 HU0.out
      obtain ⟨x0,x1⟩:=(HSX.out.u_ HVU0.out).c2
      go_wp2
      refine region_tail 12 (by kernel_rfl) (by kernel_rfl) ?_
      simp only[List.take_succ_cons,List.take_zero,List.drop_succ_cons,List.drop_zero]
      repeat still_step
      refine wpStill_nil ?_
      go_wp2_with fail
      refine HS1.out.mono ?_
      rintro e u1 ⟨rfl,hb⟩
      have HU1:=h_ (b_ (d_ HU0.out) hb)
      have HVU1:=h_ (b_ (d_ HVU0.out) hb)
      clear hb HS1 k0 k1 k2 k3 k4 k5 k6 y0 y1 y2 y3 y4 y5 x0 x1
      by_cases call:b0v=true∧b1v=true
      ·obtain ⟨rfl,rfl⟩:=call
       have HEN:=h_ (show sttE (ls.drop (i+1)) (ps.drop (i+1))=E by
        have h:=HER2.out
        rw[HG.out,HEB0.out,HEB1.out]at h
        simpa using h)
       go_wp2
       go_roundw
       case rel=>exact ⟨i+1,_,by omega,by have:=HXI.out;omega,rfl,HEN.out,HVU1.out⟩
       case measure=>have:=HXI.out;simp[intOf];omega
      ·obtain rfl:E=2:=by
        have hs:stt1E l p=2:=by
         rw[HG.out,HEB0.out,HEB1.out,if_neg (by simp),if_neg (by simp),if_neg (by simp)]
         revert call
         cases b0v<;>cases b1v<;>simp
        have h:=HER2.out
        rw[hs,if_pos (by decide)]at h
        exact h.symm
       cases b0v<;>cases b1v
       all_goals first
        |exact absurd ⟨rfl,rfl⟩ call
        |(go_wp2;exact bodyPost_ret (v:=.int .i64 2) (by simp[results,Tryd.results7,go_sem]) rfl ⟨rfl,HU1.out⟩)
     ·obtain rfl:g2=E:=by
       have hs:stt1E l p=g2:=by rw[HG.out,if_neg (by simp),if_neg (by simp),if_pos c2]
       have h:=HER2.out
       rw[hs,if_pos c2]at h
       exact h
      have n2:(g2==0)=false:=by simpa using c2
      have m2:(g2 !=0)=true:=by simpa using c2
      clear c2
      go_wp2
      exact bodyPost_ret (v:=.int .i64 g2) (by simp[results,Tryd.results7,go_sem]) rfl ⟨rfl,HB2.out⟩
    ·obtain rfl:g1=E:=by
      have hs:stt1E l p=g1:=by rw[HG.out,if_neg (by simp),if_pos c1]
      have h:=HER2.out
      rw[hs,if_pos c1]at h
      exact h
     have n1:(g1==0)=false:=by simpa using c1
     have m1:(g1 !=0)=true:=by simpa using c1
     clear c1
     go_wp2
     exact bodyPost_ret (v:=.int .i64 g1) (by simp[results,Tryd.results7,go_sem]) rfl ⟨rfl,HB1.out⟩
   ·obtain rfl:g0=E:=by
     have hs:stt1E l p=g0:=by rw[HG.out,if_pos c0]
     have h:=HER2.out
     rw[hs,if_pos c0]at h
     exact h
    have n0:(g0==0)=false:=by simpa using c0
    have m0:(g0 !=0)=true:=by simpa using c0
    clear c0
    go_wp2
    exact bodyPost_ret (v:=.int .i64 g0) (by simp[results,Tryd.results7,go_sem]) rfl ⟨rfl,HB0.out⟩
  ·have hin:i=N1:=by have:=HXI.out;omega
   have he:=HER.out
   rw[hin,←HN.out.1,List.drop_length]at he
   replace he:0=E:=he
   subst he
   clear hin
   go_wp2
   exact bodyPost_ret (v:=.int .i64 0) (by simp[results,Tryd.results7,go_sem]) rfl ⟨rfl,HB.out⟩
end Go.Proofs.YtaajlggpjholeajDoor
