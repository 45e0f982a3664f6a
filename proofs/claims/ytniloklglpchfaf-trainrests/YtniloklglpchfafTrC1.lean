/- What sameShape, checkLayer and Check of package train come to: what is wrong with a state. -/
import Derived.Test.YtniloklglpchfafPkStep
import Derived.Test.YtniloklglpchfafLWide
import Derived.Test.YtniloklglpchfafPkReg
namespace Go.Proofs.Ytniloklglpchfaf
open Go.RowKit
theorem trshape_any(va vb:Value)(a b:Mx)(w:World)(hva:M_ w va a)(hvb:M_ w vb b):Calls Try.prog 70 #[va,vb] w fun e w'=>e=.returned (.bool (H_ a b))∧Below w.heap.size w w':=by
 obtain ⟨s,rfl,hs⟩:=hva
 obtain ⟨t,rfl,ht⟩:=hvb
 obtain ⟨sa,sn,sk,rfl⟩:=hs.shape
 obtain ⟨ta,tn,tk,rfl⟩:=ht.shape
 unfold H_
 by_cases h1:a.rows=b.rows
 ·by_cases h2:a.cols=b.cols
  ·rw[show decide (a.rows=b.rows∧a.cols=b.cols)=true from decide_eq_true ⟨h1,h2⟩]
   have h1':(a.rows==b.rows)=true:=by simpa using h1
   have h2':(a.cols==b.cols)=true:=by simpa using h2
   clear h1 h2 hs ht
   go_enter Try.func70,Try.ntmps70
   go_wp2
   go_ret
   exact ⟨rfl,a_ (o_ _ _)⟩
  ·rw[show decide (a.rows=b.rows∧a.cols=b.cols)=false from decide_eq_false (fun h=>h2 h.2)]
   have h1':(a.rows==b.rows)=true:=by simpa using h1
   have h2':(a.cols==b.cols)=false:=by simpa using h2
   clear h1 h2 hs ht
   go_enter Try.func70,Try.ntmps70
   go_wp2
   go_ret
   exact ⟨rfl,a_ (o_ _ _)⟩
 ·rw[show decide (a.rows=b.rows∧a.cols=b.cols)=false from decide_eq_false (fun h=>h1 h.1)]
  have h1':(a.rows==b.rows)=false:=by simpa using h1
  clear h1 hs ht
  go_enter Try.func70,Try.ntmps70
  go_wp2
  go_ret
  exact ⟨rfl,a_ (o_ _ _)⟩
set_option maxHeartbeats 4000000 in
set_option maxRecDepth 100000 in
theorem trchk_any(l:Ly)(p:Mx×Mx)(sa:Option Addr)(sn sk:Nat)(ta:Option Addr)(tn tk:Nat)(pa:Option Addr)(pn pk:Nat)(qa:Option Addr)(qn qk:Nat)(w:World)(hs:I_ w (.slice sa sn sk) l.w.cells)(ht:I_ w (.slice ta tn tk) l.b.cells)(h1:I_ w (.slice pa pn pk) p.1.cells)(h2:I_ w (.slice qa qn qk) p.2.cells):
  Calls Try.prog 55 #[.agg #[.int .i64 l.k,.int .i64 l.w.rows,.int .i64 l.w.cols,.slice sa sn sk,.int .i64 l.b.rows,.int .i64 l.b.cols,.slice ta tn tk],.agg #[.int .i64 p.1.rows,.int .i64 p.1.cols,.slice pa pn pk,.int .i64 p.2.rows,.int .i64 p.2.cols,.slice qa qn qk]] w fun e w'=>e=.returned (errV (stt1E l p))∧Below w.heap.size w w':=by
 obtain ⟨V,hV⟩:=gM ((w.alloc (.cells #[.int .i64 l.k,.int .i64 l.w.rows,.int .i64 l.w.cols,.slice sa sn sk,.int .i64 l.b.rows,.int .i64 l.b.cols,.slice ta tn tk] 52)).alloc (.cells #[.int .i64 p.1.rows,.int .i64 p.1.cols,.slice pa pn pk,.int .i64 p.2.rows,.int .i64 p.2.cols,.slice qa qn qk] 79))
 have HV:=h_ hV
 have HWV:Hid (Below w.heap.size w V):=by rw[hV];exact h_ (a_ (o_ _ _))
 have HX0:Hid (Box V w.heap.size [.int .i64 l.k,.int .i64 l.w.rows,.int .i64 l.w.cols,.slice sa sn sk,.int .i64 l.b.rows,.int .i64 l.b.cols,.slice ta tn tk]):=by rw[hV];exact h_ ((Box.new w [.int .i64 l.k,.int .i64 l.w.rows,.int .i64 l.w.cols,.slice sa sn sk,.int .i64 l.b.rows,.int .i64 l.b.cols,.slice ta tn tk] 52 rfl).u_ (o_ _ _))
 have HX1:Hid (Box V (w.heap.size+1) [.int .i64 p.1.rows,.int .i64 p.1.cols,.slice pa pn pk,.int .i64 p.2.rows,.int .i64 p.2.cols,.slice qa qn qk]):=by rw[hV];exact h_ (Box.new _ [.int .i64 p.1.rows,.int .i64 p.1.cols,.slice pa pn pk,.int .i64 p.2.rows,.int .i64 p.2.cols,.slice qa qn qk] 79 (by simp))
 obtain ⟨E,hE⟩:=gN (stt1E l p)
 have HE:=h_ hE
 rw[hE]
 have HF0:=h_ (lcheck_any (.agg #[.int .i64 l.k,.int .i64 l.w.rows,.int .i64 l.w.cols,.slice sa sn sk,.int .i64 l.b.rows,.int .i64 l.b.cols,.slice ta tn tk]) l V ⟨_,_,rfl,hs.u_ HWV.out,ht.u_ HWV.out⟩)
 have HF1:=h_ (fun W (h:Below w.heap.size w W)=>C_ (.agg #[.int .i64 p.1.rows,.int .i64 p.1.cols,.slice pa pn pk]) p.1 W ⟨_,rfl,h1.u_ h⟩)
 have HF2:=h_ (fun W (h:Below w.heap.size w W)=>C_ (.agg #[.int .i64 p.2.rows,.int .i64 p.2.cols,.slice qa qn qk]) p.2 W ⟨_,rfl,h2.u_ h⟩)
 have HS1:=h_ (fun W (h:Below w.heap.size w W)=>trshape_any (.agg #[.int .i64 p.1.rows,.int .i64 p.1.cols,.slice pa pn pk]) (.agg #[.int .i64 l.w.rows,.int .i64 l.w.cols,.slice sa sn sk]) p.1 l.w W ⟨_,rfl,h1.u_ h⟩ ⟨_,rfl,hs.u_ h⟩)
 have HS2:=h_ (fun W (h:Below w.heap.size w W)=>trshape_any (.agg #[.int .i64 p.2.rows,.int .i64 p.2.cols,.slice qa qn qk]) (.agg #[.int .i64 l.b.rows,.int .i64 l.b.cols,.slice ta tn tk]) p.2 l.b W ⟨_,rfl,h2.u_ h⟩ ⟨_,rfl,ht.u_ h⟩)
 obtain ⟨g0,hg0⟩:=gN (l_ l)
 obtain ⟨g1,hg1⟩:=gN (q_ p.1)
 obtain ⟨g2,hg2⟩:=gN (q_ p.2)
 obtain ⟨g3,hg3⟩:=gN (H_ p.1 l.w)
 obtain ⟨g4,hg4⟩:=gN (H_ p.2 l.b)
 rw[hg0]at HF0
 rw[hg1]at HF1
 rw[hg2]at HF2
 rw[hg3]at HS1
 rw[hg4]at HS2
 have HG:=h_ (And.intro hg0 (And.intro hg1 hg2))
 have HG3:=h_ (And.intro hg3 hg4)
 obtain ⟨d0,d1,d2,d3,d4,d5,d6⟩:=HX0.out.c7
 rw[HV.out]at d0 d1 d2 d3 d4 d5 d6
 clear hV hE hs ht h1 h2 hg0 hg1 hg2 hg3 hg4
 go_enter Try.func55,Try.ntmps55
 go_wp2_with fail
 rw[←HV.out]
 refine HF0.out.mono ?_
 rintro e w1 ⟨rfl,hb1⟩
 have HB1:=h_ hb1
 have HW1:=h_ (b_ HWV.out hb1)
 clear hb1 d0 d1 d2 d3 d4 d5 d6 HF0
 by_cases c0:g0=0
 case neg=>
  obtain rfl:g0=E:=by rw[←HE.out];unfold stt1E;rw[HG.out.1];simp[c0]
  rw[n_ c0]
  have HC:=h_ c0
  clear c0
  go_wp2
  go_ret
  exact ⟨R_ (err_of rfl HC.out),HW1.out⟩
 subst c0
 rw[e_ rfl]
 obtain ⟨d0,d1,d2⟩:=(HX1.out.u_ HB1.out).c3
 go_wp2_with fail
 refine (HF1.out _ HW1.out).mono ?_
 rintro e w2 ⟨rfl,hb2⟩
 have HB2:=h_ (b_ HB1.out hb2)
 have HW2:=h_ (b_ HW1.out hb2)
 clear hb2 d0 d1 d2
 by_cases c1:g1=0
 case neg=>
  obtain rfl:g1=E:=by rw[←HE.out];unfold stt1E;rw[HG.out.1,HG.out.2.1];simp[c1]
  rw[n_ c1]
  have HC:=h_ c1
  clear c1
  go_wp2
  go_ret
  exact ⟨R_ (err_of rfl HC.out),HW2.out⟩
 subst c1
 rw[e_ rfl]
 obtain ⟨d3,d4,d5⟩:=(HX1.out.u_ HB2.out).c35
 go_wp2_with fail
 refine (HF2.out _ HW2.out).mono ?_
 rintro e w3 ⟨rfl,hb3⟩
 have HB3:=h_ (b_ HB2.out hb3)
 have HW3:=h_ (b_ HW2.out hb3)
 clear hb3 d3 d4 d5
 by_cases c2:g2=0
 case neg=>
  obtain rfl:g2=E:=by rw[←HE.out];unfold stt1E;rw[HG.out.1,HG.out.2.1,HG.out.2.2];simp[c2]
  rw[n_ c2]
  have HC:=h_ c2
  clear c2
  go_wp2
  go_ret
  exact ⟨R_ (err_of rfl HC.out),HW3.out⟩
 subst c2
 rw[e_ rfl]
 have HE3:=h_ (show (if g3=false∨g4=false then 2 else 0)=E by rw[←HE.out,←HG3.out.1,←HG3.out.2];unfold stt1E;rw[HG.out.1,HG.out.2.1,HG.out.2.2];simp)
 obtain ⟨d0,d1,d2⟩:=(HX1.out.u_ HB3.out).c3
 have f1:=(HX0.out.u_ HB3.out) 1 _ rfl
 have f2:=(HX0.out.u_ HB3.out) 2 _ rfl
 have f3:=(HX0.out.u_ HB3.out) 3 _ rfl
 go_wp2_with fail
 refine (HS1.out _ HW3.out).mono ?_
 rintro e w4 ⟨rfl,hb4⟩
 have HB4:=h_ (b_ HB3.out hb4)
 have HW4:=h_ (b_ HW3.out hb4)
 clear hb4 d0 d1 d2 f1 f2 f3
 cases g3 with
 |false=>
  obtain rfl:E=2:=by rw[←HE3.out];simp
  go_wp2
  go_ret
  exact ⟨R_ (err_of rfl (by decide)),HW4.out⟩
 |true=>
  obtain ⟨d3,d4,d5⟩:=(HX1.out.u_ HB4.out).c35
  have f4:=(HX0.out.u_ HB4.out) 4 _ rfl
  have f5:=(HX0.out.u_ HB4.out) 5 _ rfl
  have f6:=(HX0.out.u_ HB4.out) 6 _ rfl
  go_wp2_with fail
  refine (HS2.out _ HW4.out).mono ?_
  rintro e w5 ⟨rfl,hb5⟩
  have HW5:=h_ (b_ HW4.out hb5)
  clear hb5 d3 d4 d5 f4 f5 f6
  cases g4 with
  |false=>
   obtain rfl:E=2:=by rw[←HE3.out];simp
   go_wp2
   go_ret
   exact ⟨R_ (err_of rfl (by decide)),HW5.out⟩
  |true=>
   obtain rfl:E=0:=by rw[←HE3.out];simp
   go_wp2
   go_ret
   exact ⟨R_ (err_no rfl),HW5.out⟩
set_option maxHeartbeats 8000000 in
set_option maxRecDepth 100000 in
theorem trcheck_any(v v1:Value)(ls:List Ly)(ps:List (Mx×Mx))(n:Int)(w:World)(hv:Y_ w v ls)(hp:D_ w v1 ps):
  Calls Try.prog 32 #[.agg #[v,v1,.int .i64 n]] w fun e w'=>e=.returned (errV (stateE ls ps n))∧Below w.heap.size w w':=by
 obtain ⟨a,cap,rfl,hlc,hcm⟩:=hv.shape
 obtain ⟨a1,cap1,rfl,hlc1,hcm1⟩:=hp.shape
 have HV:=h_ hv
 have HP:=h_ hp
 obtain ⟨N,hN⟩:=gN (ls.length)
 obtain ⟨N1,hN1⟩:=gN (ps.length)
 have HN:=h_ (And.intro hN hN1)
 obtain ⟨E,hE⟩:=gN (stateE ls ps n)
 have HE1:=h_ (show (if 12<N then 3 else if N1≠N then 2 else if n<0∨1000000000<n then 1 else sttE ls ps)=E by rw[←hE,←hN,←hN1];rfl)
 rw[hE]
 rw[hN]at HV ⊢
 rw[hN1]at HP ⊢
 have hm0:N≤maxLen:=by omega
 have hm1:N1≤maxLen:=by omega
 unfold maxLen at hm0 hm1
 clear hv hp hN hN1 hE hlc hcm hlc1 hcm1
 have HBX:=h_ (o_ w (.cells #[.slice a N cap,.slice a1 N1 cap1,.int .i64 n] 37))
 have HSX:=h_ (Box.new w [.slice a N cap,.slice a1 N1 cap1,.int .i64 n] 37 rfl)
 by_cases h12:12<N
 ·obtain rfl:E=3:=by rw[←HE1.out,if_pos h12]
  have h12':(12:Int)<(N:Int):=by omega
  go_enter Try.func32,Try.ntmps32
  go_wp2
  go_ret
  exact ⟨R_ (err_of rfl (by decide)),HBX.out⟩
 have h12':¬(12:Int)<(N:Int):=by omega
 by_cases hl1:N1=N
 case neg=>
  obtain rfl:E=2:=by rw[←HE1.out,if_neg h12,if_pos hl1]
  have hn1:((N1:Int) !=(N:Int))=true:=by simp;omega
  go_enter Try.func32,Try.ntmps32
  go_wp2
  go_ret
  exact ⟨R_ (err_of rfl (by decide)),HBX.out⟩
 subst hl1
 have hnn:((N1:Int) !=(N1:Int))=false:=by simp
 by_cases r0:n<0
 ·obtain rfl:E=1:=by rw[←HE1.out,if_neg h12,if_neg (by simp),if_pos (.inl r0)]
  go_enter Try.func32,Try.ntmps32
  go_wp2
  go_ret
  exact ⟨R_ (err_of rfl (by decide)),HBX.out⟩
 by_cases r1:1000000000<n
 ·obtain rfl:E=1:=by rw[←HE1.out,if_neg h12,if_neg (by simp),if_pos (.inr r1)]
  go_enter Try.func32,Try.ntmps32
  go_wp2
  go_ret
  exact ⟨R_ (err_of rfl (by decide)),HBX.out⟩
 have HE2:=h_ (show sttE ls ps=E by rw[←HE1.out,if_neg h12,if_neg (by simp),if_neg (by omega)])
 clear h12 hm0 hm1
 go_enter Try.func32,Try.ntmps32
 go_wp2
 go_loopw [31] (fun q wr=>∃(i:Nat) (xi:Int),i≤N1∧xi=(i:Int)∧q=.int .i64 xi∧sttE (ls.drop i) (ps.drop i)=E∧Below (w.alloc (.cells #[.slice a N1 cap,.slice a1 N1 cap1,.int .i64 n] 37)).heap.size (w.alloc (.cells #[.slice a N1 cap,.slice a1 N1 cap1,.int .i64 n] 37)) wr) (fun q _=>N1 - (intOf q).toNat)
 case atStart=>exact ⟨0,0,Nat.zero_le _,rfl,rfl,HE2.out,Below.refl _ _⟩
 case round=>
  obtain ⟨i,xi,hi,hxi,rfl,he,hbv⟩:=hrel
  have HXI:=h_ hxi
  have HBV:=h_ hbv
  have HB:=h_ (b_ HBX.out hbv)
  have HER:=h_ he
  have hxi0:0≤xi:=by omega
  have hxi1:xi≤12:=by omega
  have x1:=(HSX.out.u_ HBV.out) 1 _ rfl
  clear hxi he hbv
  by_cases hlt:xi<(N1:Int)
  ·have hin:i<N1:=by have:=HXI.out;omega
   have hxn:xi.toNat=i:=by have:=HXI.out;omega
   obtain ⟨l,hl⟩:∃l,ls[i]?=some l:=⟨ls[i]'(by have:=HN.out.1;omega),List.getElem?_eq_getElem _⟩
   obtain ⟨p,hp⟩:∃p,ps[i]?=some p:=⟨ps[i]'(by have:=HN.out.2;omega),List.getElem?_eq_getElem _⟩
   obtain ⟨b,off,cp,sa,sn,sk,ta,tn,tk,ev,k0,k1,k2,k3,k4,k5,k6,hly⟩:=HV.out.at hl
   obtain ⟨b1,off1,cp1,pa,pn,pk,qa,qn,qk,ev1,y0,y1,y2,y3,y4,y5,j1,j2⟩:=HP.out.at hp
   obtain rfl:=(Value.slice.inj ev).1
   obtain rfl:=(Value.slice.inj ev1).1
   rw[←hxn]at k0 k1 k2 k3 k4 k5 k6 y0 y1 y2 y3 y4 y5
   replace k0:=c_ HB.out k0
   replace k1:=c_ HB.out k1
   replace k2:=c_ HB.out k2
   replace k3:=c_ HB.out k3
   replace k4:=c_ HB.out k4
   replace k5:=c_ HB.out k5
   replace k6:=c_ HB.out k6
   replace y0:=c_ HB.out y0
   replace y1:=c_ HB.out y1
   replace y2:=c_ HB.out y2
   replace y3:=c_ HB.out y3
   replace y4:=c_ HB.out y4
   replace y5:=c_ HB.out y5
   obtain ⟨i1,i2⟩:=Y_.ints hly
   have HD:=h_ (show sttE (ls.drop i) (ps.drop i)=if stt1E l p≠0 then stt1E l p else sttE (ls.drop (i+1)) (ps.drop (i+1)) by rw[drop_at hl,drop_at hp];rfl)
   have HX:=h_ (fun W (h:Below w.heap.size w W)=>trchk_any l p sa sn sk ta tn tk pa pn pk qa qn qk W (i1.u_ h) (i2.u_ h) (j1.u_ h) (j2.u_ h))
   have HLB:=h_ (show Box (wr.alloc (.cells #[.int .i64 l.k,.int .i64 l.w.rows,.int .i64 l.w.cols,.slice sa sn sk,.int .i64 l.b.rows,.int .i64 l.b.cols,.slice ta tn tk] 52)) wr.heap.size [.int .i64 l.k,.int .i64 l.w.rows,.int .i64 l.w.cols,.slice sa sn sk,.int .i64 l.b.rows,.int .i64 l.b.cols,.slice ta tn tk] from Box.new _ _ _ rfl)
   have HBU:=h_ (show Below w.heap.size w (wr.alloc (.cells #[.int .i64 l.k,.int .i64 l.w.rows,.int .i64 l.w.cols,.slice sa sn sk,.int .i64 l.b.rows,.int .i64 l.b.cols,.slice ta tn tk] 52)) from a_ HB.out)
   have HKY:=h_ (And.intro x1 (And.intro y0 (And.intro y1 (And.intro y2 (And.intro y3 (And.intro y4 y5))))))
   obtain ⟨c,hc⟩:=gN (stt1E l p)
   rw[hc]at HD HX
   clear ev ev1 hly i1 i2 j1 j2 hl hp hxn hc
   go_wp2
   obtain ⟨U,hU⟩:=gM ((wr.alloc (.cells #[.int .i64 l.k,.int .i64 l.w.rows,.int .i64 l.w.cols,.slice sa sn sk,.int .i64 l.b.rows,.int .i64 l.b.cols,.slice ta tn tk] 52)))
   rw[←hU]at HLB HBU ⊢
   have HRU:=h_ (show Below wr.heap.size wr U by rw[hU];exact o_ _ _)
   clear hU k0 k1 k2 k3 k4 k5 k6 x1 y0 y1 y2 y3 y4 y5
   have x1:=c_ HRU.out HKY.out.1
   have y0:=c_ HRU.out HKY.out.2.1
   have y1:=c_ HRU.out HKY.out.2.2.1
   have y2:=c_ HRU.out HKY.out.2.2.2.1
   have y3:=c_ HRU.out HKY.out.2.2.2.2.1
   have y4:=c_ HRU.out HKY.out.2.2.2.2.2.1
   have y5:=c_ HRU.out HKY.out.2.2.2.2.2.2
   obtain ⟨b0,bb1,b2,b3,b4,b5,b6⟩:=HLB.out.c7
   refine region_tail 6 (by kernel_rfl) (by kernel_rfl) ?_
   simp only[List.take_succ_cons,List.take_zero,List.drop_succ_cons,List.drop_zero]
   repeat still_step
   refine wpStill_nil ?_
   go_wp2_with fail
   refine (HX.out _ (d_ HBU.out)).mono ?_
   rintro e w2 ⟨rfl,hb2⟩
   have HB2:=h_ (show Below U.heap.size U w2 from b_ (r_ (Below.refl _ _)) hb2)
   clear hb2 HX x1 y0 y1 y2 y3 y4 y5 b0 bb1 b2 b3 b4 b5 b6
   by_cases c0:c=0
   ·subst c0
    rw[e_ rfl]
    have HE4:=h_ (show sttE (ls.drop (i+1)) (ps.drop (i+1))=E by rw[←HER.out,HD.out];simp)
    go_wp2
    go_roundw
    case rel=>exact ⟨i+1,_,by omega,by have:=HXI.out;omega,rfl,HE4.out,b_ HBV.out (b_ HRU.out HB2.out)⟩
    case measure=>have:=HXI.out;simp[intOf];omega
   ·obtain rfl:c=E:=by rw[←HER.out,HD.out,if_pos c0]
    rw[n_ c0]
    have HC0:=h_ c0
    clear c0
    go_wp2
    go_ret
    exact ⟨R_ (err_of rfl HC0.out),b_ HBU.out HB2.out⟩
  ·have hin:i=N1:=by have:=HXI.out;omega
   obtain rfl:E=0:=by
    have h:=HER.out
    rw[hin,←HN.out.1,List.drop_length]at h
    exact h.symm
   clear hin
   go_wp2
   go_ret
   exact ⟨R_ (err_no rfl),HB.out⟩
end Go.Proofs.Ytniloklglpchfaf
