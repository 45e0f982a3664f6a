/- The walk of the law TopPace: by the best cut, waves and turns are no shorter than its dearest stage needs, and no longer than if all stages were as dear. -/
import Derived.Test.YtpniemnfdleiialGreatClT
import Derived.Test.YtpniemnfdleiialGreatPkCtC6
import Derived.Test.YtpniemnfdleiialGreatPkTrFact
import Derived.Test.YtpniemnfdleiialGreatPkPnB
import Derived.Test.YtpniemnfdleiialGreatRows
import Derived.ProofKit
import Derived.OpenShut
import Derived.Lib.SmallJoins
import Derived.Test.YtpniemnfdleiialGreatPlain
namespace Go.Proofs.YtpniemnfdleiialGreat
open Go.RowKit
theorem take_all{C:List Int}{k:Nat}{x:Int}(h:C[k]?=some x)(hx:1≤x∧x≤1000000)(ha:∀c∈C.take k,1≤c∧c≤1000000):∀c∈C.take (k+1),1≤c∧c≤1000000:=fun c hc=>by
 rw[List.take_add_one,h]at hc
 rcases List.mem_append.1 hc with q|q
 ·exact ha c q
 ·have q:c=x:=by simpa using q
  rw[q];exact hx
def tkC (C:List Int) (k:Nat):List Int:=C.take k
theorem tkC_snoc{C:List Int}{k:Nat}{x:Int}(h:C[k]?=some x):tkC C (k+1)=tkC C k++[x]:=by unfold tkC;rw[List.take_add_one,h];rfl
theorem tkC_len{C:List Int}{k:Nat}(h:k≤C.length):(tkC C k).length=k:=by unfold tkC;rw[List.length_take];omega
set_option maxHeartbeats 32000000 in
set_option maxRecDepth 100000 in
theorem pace_walk(v:Value)(cs:List Int)(r M:Int)(w:World)(hv:I_ w v cs):Calls Tryz.prog 4 #[v,.int .i64 r,.int .i64 M] w fun e w'=>e=.returned (.bool true)∧Below w.heap.size w w':=by
 have HF:=h_ (topone_any w)
 have HV:=h_ hv
 obtain ⟨E,hE⟩:=gN (bestE cs r)
 have HE:=h_ hE
 obtain ⟨va,vc,hve,_⟩:=hv
 subst hve
 obtain ⟨nc,hnc⟩:=gN (cs.length)
 have HNC:=h_ hnc
 rw[hnc]at HV ⊢
 clear hnc hE
 by_cases c:E=0
 rotate_left 1
 ·have HC:=h_ c
  have HX:=h_ (fun (u:World) (hb:Below w.heap.size w u)=>best_any _ cs r u (HV.out.u_ hb))
  rw[HE.out,n_ c]at HX
  clear c
  go_enter Tryz.func4,Tryz.ntmps4
  go_wp2_with (first|(go_at_call 5;refine HF.out.mono ?_;rintro e u1 ⟨rfl,hb1⟩)|(go_at_call 12;refine (HX.out u1 hb1).mono ?_;rintro e u2 ⟨s1,m1,rfl,_,hb2⟩))
  go_ret
  exact ⟨rfl,below_go hb1 hb2⟩
 subst c
 have HX:=h_ (fun (u:World) (hb:Below w.heap.size w u)=>best_any _ cs r u (HV.out.u_ hb))
 rw[HE.out,e_ rfl]at HX
 go_enter Tryz.func4,Tryz.ntmps4
 go_wp2_with fail
 refine HF.out.mono ?_
 rintro e u1 ⟨rfl,hb⟩
 have C0:=h_ hb
 clear hb HF
 go_wp2_with fail
 refine (HX.out u1 C0.out).mono ?_
 rintro e u2 ⟨s1,m,rfl,hz,hb⟩
 obtain ⟨zs,hzi,hbp⟩:=hz
 obtain ⟨R,hfa⟩:=best_facts hbp HE.out
 have HFA:=h_ hfa
 have HZ:=h_ hzi
 replace C0:=h_ (below_go C0.out hb)
 obtain ⟨za,zc,hze,_⟩:=hzi
 subst hze
 obtain ⟨nz,hnz⟩:=gN (zs.length)
 rw[hnz]at HZ ⊢
 clear hb hbp hfa hnz HX
 obtain ⟨C,hC⟩:=gN (tab R (stg cs zs))
 have HCE:=h_ hC
 have HX:=h_ (cost_any _ _ cs zs u2 (HV.out.u_ C0.out) HZ.out)
 rw[(fact_costs HFA.out).1,(fact_costs HFA.out).2,hC,e_ rfl]at HX
 clear hC
 go_wp2_with fail
 refine HX.out.mono ?_
 rintro e u3 ⟨s2,rfl,hi,hb⟩
 replace C0:=h_ (below_go C0.out hb)
 have HI:=h_ hi
 obtain ⟨ca,cc,hce,i2,i3,i4⟩:=hi
 subst hce
 have hCl:C.length=R:=by rw[←HCE.out,tab_len]
 have HCL:=h_ hCl
 have H4:=h_ i4
 have hr1:1≤r:=by have:=HFA.out.rr;have:=HFA.out.one;omega
 have hr6:r≤6:=by have:=HFA.out.rr;have:=HFA.out.six;omega
 have HRR:=h_ HFA.out.rr
 have hR6:R≤6:=HFA.out.six
 have hm0:0≤m:=HFA.out.m0
 have hm1:m≤12000000:=HFA.out.m1
 have nR:((R:Int) !=r)=false:=by have:=HFA.out.rr;simp;omega
 rw[hCl]at HI i2 ⊢
 clear hb hCl i4 HX
 obtain ⟨E2,hE2⟩:=gN (makeE r M)
 by_cases c:E2=0
 rotate_left 1
 ·have hM:M<1∨12<M:=by
   unfold makeE at hE2
   by_cases q:r<1∨6<r∨M<1∨12<M
   ·omega
   ·rw[if_neg q]at hE2;omega
  have HX1:=h_ (fun u=>pturns_any r M u)
  have HX2:=h_ (fun u=>pwave_any r M u)
  unfold Built at HX1 HX2
  rw[hE2,n_ c]at HX1 HX2
  clear c hE2
  by_cases d:M<1
  ·clear hM
   go_wp2_with (first|(go_at_call 14;refine (HX1.out _).mono ?_;rintro e u4 ⟨q1,rfl,_,_,hb4⟩)|(go_at_call 15;refine (HX2.out _).mono ?_;rintro e u5 ⟨q2,rfl,_,_,hb5⟩))
   go_ret
   exact ⟨rfl,below_go (below_go C0.out hb4) hb5⟩
  ·have d2:12<M:=by omega
   clear hM
   go_wp2_with (first|(go_at_call 14;refine (HX1.out _).mono ?_;rintro e u4 ⟨q1,rfl,_,_,hb4⟩)|(go_at_call 15;refine (HX2.out _).mono ?_;rintro e u5 ⟨q2,rfl,_,_,hb5⟩))
   go_ret
   exact ⟨rfl,below_go (below_go C0.out hb4) hb5⟩
 subst c
 obtain ⟨_,_,b3,b4⟩:=makeE_in hE2
 have HMX:=h_ (show ∀wave,makeX r M wave=planX R M.toNat wave from fun wave=>by unfold makeX;rw[if_neg (by omega),show r.toNat=R by have:=HFA.out.rr;omega])
 obtain ⟨mn,hmn⟩:=gN (M.toNat)
 rw[hmn]at HMX
 have HMN:=h_ (show M=(mn:Int) by omega)
 have HPE:=h_ (show ∀wave,planE (planX R mn wave) M=0 from fun wave=>by
  have:=(plan_ok (s:=R) (m:=mn) HFA.out.one HFA.out.six (by omega) (by omega) wave).1
  rw[show M=(mn:Int) by omega]
  exact this)
 have HX:=h_ (pturns_any r M u3)
 unfold Built at HX
 rw[hE2,e_ rfl]at HX
 go_wp2_with fail
 refine HX.out.mono ?_
 rintro e u4 ⟨q1,rfl,hp,hla,hb⟩
 have HP1:=h_ hp
 replace C0:=h_ (below_go C0.out hb)
 replace HI:=h_ (HI.out.u_ hb)
 have HBI:=h_ hb
 clear hp hla hb HX
 have HX:=h_ (pwave_any r M u4)
 unfold Built at HX
 rw[hE2,e_ rfl]at HX
 go_wp2_with fail
 refine HX.out.mono ?_
 rintro e u5 ⟨q2,rfl,hp,hla,hb⟩
 have HP2:=h_ hp
 replace HP1:=h_ (HP1.out.u_ hb)
 replace C0:=h_ (below_go C0.out hb)
 replace HI:=h_ (HI.out.u_ hb)
 replace HBI:=h_ (below_go HBI.out hb)
 obtain ⟨e0,he0,hz0,hz1,hz2⟩:=info_parts infoInt
 have HEI:=h_ (And.intro he0 (And.intro hz0 (And.intro hz1 hz2)))
 clear hp hla hb HX hE2 hmn he0 hz0 hz1 hz2
 go_wp2
 go_loopw [16,17] (fun tv iv wr=>∃(k:Nat) (xi:Int),k≤R∧xi=(k:Int)∧iv=.int .i64 xi∧OwnZ wr u5.heap.size tv (tkC C k)∧Below u5.heap.size u5 wr∧∀c∈C.take k,1≤c∧c≤1000000) (fun _ iv _=>R - (intOf iv).toNat)
 case atStart=>exact ⟨0,0,Nat.zero_le _,rfl,rfl,OwnZ.nil _ _,Below.refl _ _,fun c hc=>by simp at hc⟩
 case round=>
  obtain ⟨k,xi,hk,hxi,rfl,hro,hbw,hal⟩:=hrel
  have HRO:=h_ hro
  have HBW:=h_ hbw
  have HAL:=h_ hal
  have HXI:=h_ hxi
  have hx0:0≤xi:=by omega
  have hx6:xi≤6:=by omega
  obtain ⟨ta,tk,hte⟩:=hro.shape
  rw[tkC_len (by rw[HCL.out];exact hk)]at hte
  subst hte
  clear hro hbw hal hxi
  by_cases hlt:xi<(R:Int)
  ·obtain ⟨x,hx⟩:∃x,C[k]?=some x:=⟨_,List.getElem?_eq_getElem (by rw[HCL.out];have:=HXI.out;omega)⟩
   obtain ⟨b1,o1,ha1,hc1⟩:=H4.out.resolve_left (fun e=>by rw[e]at hx;simp at hx)
   subst ha1
   have d1:=cell_bel (below_go HBI.out HBW.out) (hc1 k x hx)
   rw[show k=xi.toNat by have:=HXI.out;omega]at d1
   have HXC:=h_ hx
   clear hc1 hx
   by_cases e1:x<1
   ·go_wp2
    go_ret
    exact ⟨rfl,below_go C0.out HBW.out⟩
   by_cases e2:1000000<x
   ·go_wp2
    go_ret
    exact ⟨rfl,below_go C0.out HBW.out⟩
   have HA2:=h_ (take_all HXC.out (by omega) HAL.out)
   go_wp2_with (at_builtin;refine wpList_append_own _ rfl _ _ 26 rfl u5.heap.size 3 e0 (.int .i64 0) 1 8 Tryz.underlying26 HEI.out.1 HEI.out.2.1 HEI.out.2.2.1 HEI.out.2.2.2 rfl (by decide) (.slice ta k tk) _ _ rfl (HRO.out.alloc _) ⟨_,0,none⟩ 1 1 [.int .i64 x] rfl rfl (one_cells _ _) (one_one _) ?c3 ?c4 ?c5 ?_)
   case c3=>rw[tkC_len (by rw[HCL.out];exact hk)];unfold maxLen;omega
   case c4=>rw[tkC_len (by rw[HCL.out];exact hk)];omega
   case c5=>have h1:=HBW.out.size;first|omega|(simp;omega)
   intro v' w2 hown' hg _
   have HO2:=h_ (show OwnZ w2 u5.heap.size v' (tkC C (k+1)) by rw[tkC_snoc HXC.out];exact OwnZ.step hown')
   have HB2:=h_ (show Below u5.heap.size u5 w2 from (below_go HBW.out (o_ _ _)).grown hg (by rw[World.size_alloc];have h1:=HBW.out.size;omega) (fun q hq=>(World.ownsRow.lt HRO.out q hq).1))
   clear hown' hg
   go_wp2
   go_roundw
   case rel=>exact ⟨k+1,_,by have:=HXI.out;omega,by have:=HXI.out;omega,rfl,HO2.out,HB2.out,HA2.out⟩
   case measure=>have:=HXI.out;simp[intOf];omega
  ·obtain rfl:k=R:=by have:=HXI.out;omega
   have HTK:=h_ (show tkC C k=C by unfold tkC;rw[List.take_of_length_le (by rw[HCL.out];exact Nat.le_refl _)])
   have HOC:=h_ (show OwnZ wr u5.heap.size (.slice ta k tk) C by rw[←HTK.out];exact HRO.out)
   have HAC:=h_ (show ∀c∈C,1≤c∧c≤1000000 by
    have:=HAL.out
    rw[List.take_of_length_le (by rw[HCL.out];exact Nat.le_refl _)]at this
    exact this)
   have HII:=h_ HOC.out.isInts
   have hhit:=fact_hit HFA.out (by rw[HCE.out];exact HAC.out)
   rw[HCE.out]at hhit
   have HHIT:=h_ hhit
   have hmm:m≤1000000:=hhit.2.2
   replace C0:=h_ (below_go C0.out HBW.out)
   replace HP1:=h_ (HP1.out.u_ HBW.out)
   replace HP2:=h_ (HP2.out.u_ HBW.out)
   have HTZ:=h_ (show ∀wave,timE (planX k mn wave) M C C=0 from fun wave=>(timE_ok (HPE.out wave) ⟨by rw[HCL.out,planX_ln],by rw[HCL.out,planX_ln]⟩ HAC.out HAC.out).symm)
   obtain ⟨LO,hLO⟩:=gN (2*M*m)
   obtain ⟨HG,hHG⟩:=gN (2*(M+r - 1)*m)
   have hl0:0≤LO:=by rw[←hLO];exact Int.mul_nonneg (by omega) hm0
   have hl1:LO≤24*1000000:=by rw[←hLO];exact Int.mul_le_mul (by omega) hmm hm0 (by omega)
   have hh0:0≤HG:=by rw[←hHG];exact Int.mul_nonneg (by omega) hm0
   have hh1:HG≤34*1000000:=by rw[←hHG];exact Int.mul_le_mul (by omega) hmm hm0 (by omega)
   have hw1:IntKind.i64.wrap (2*M)=2*M:=by rw[IntKind.wrap_i64];omega
   have hw2:IntKind.i64.wrap (2*M*m)=LO:=by rw[hLO,IntKind.wrap_i64];omega
   have hw3:IntKind.i64.wrap (M+r)=M+r:=by rw[IntKind.wrap_i64];omega
   have hw4:IntKind.i64.wrap (M+r - 1)=M+r - 1:=by rw[IntKind.wrap_i64];omega
   have hw5:IntKind.i64.wrap (2*(M+r - 1))=2*(M+r - 1):=by rw[IntKind.wrap_i64];omega
   have hw6:IntKind.i64.wrap (2*(M+r - 1)*m)=HG:=by rw[hHG,IntKind.wrap_i64];omega
   have HPC:=h_ (show ∀wave T,IsTm (planX k mn wave) C C T→PlanOK (planX k mn wave) mn∧LO≤mxT 0 T∧mxT 0 T≤HG from fun wave T h=>by
    have:=pace (R:=k) (M:=mn) HFA.out.one HFA.out.six (by have:=HMN.out;omega) (by have:=HMN.out;omega) wave HCL.out HHIT.out.1 HHIT.out.2.1 h
    rw[←HMN.out,←HRR.out,hLO,hHG]at this
    exact this)
   clear hLO hHG hhit hx0 hx6 hk
   obtain ⟨U1,hU1⟩:=gM (wr)
   subst hU1
   have HX:=h_ (ctimes_any q1 (.slice ta k tk) (.slice ta k tk) (makeX r M false) C C M U1 HP1.out HII.out HII.out)
   unfold TimesEnd at HX
   rw[HMX.out,HTZ.out,e_ rfl]at HX
   go_wp2_with fail
   refine HX.out.mono ?_
   rintro e U2 ⟨t1,T1,rfl,hp,hb,hno,htm⟩
   obtain ⟨htm1,hbd1⟩:=htm (by first|rfl|trivial)
   have HT1:=h_ htm1
   have HD1:=h_ hbd1
   have HQ1:=h_ hp
   replace C0:=h_ (below_go C0.out hb)
   replace HP2:=h_ (HP2.out.u_ hb)
   replace HII:=h_ (HII.out.u_ hb)
   clear HX hp hb hno htm htm1 hbd1
   have HX:=h_ (ctimes_any q2 (.slice ta k tk) (.slice ta k tk) (makeX r M true) C C M U2 HP2.out HII.out HII.out)
   unfold TimesEnd at HX
   rw[HMX.out,HTZ.out,e_ rfl]at HX
   go_wp2_with fail
   refine HX.out.mono ?_
   rintro e U3 ⟨t2,T2,rfl,hp,hb,hno,htm⟩
   obtain ⟨htm1,hbd1⟩:=htm (by first|rfl|trivial)
   have HT2:=h_ htm1
   have HD2:=h_ hbd1
   have HQ2:=h_ hp
   replace C0:=h_ (below_go C0.out hb)
   replace HQ1:=h_ (HQ1.out.u_ hb)
   clear HX hp hb hno htm htm1 hbd1
   obtain ⟨hpo1,hx1,hx2⟩:=HPC.out false T1 HT1.out
   obtain ⟨hpo2,hy1,hy2⟩:=HPC.out true T2 HT2.out
   have HX1:=h_ (long_any t1 T1 _ U3 HQ1.out HD1.out (by rw[HT1.out.1.1];exact hpo1.n6) (tm_st24 hpo1 HT1.out))
   have HX2:=h_ (fun (u:World) (hb:Below U3.heap.size U3 u)=>long_any t2 T2 _ u (HQ2.out.u_ hb) HD2.out (by rw[HT2.out.1.1];exact hpo2.n6) (tm_st24 hpo2 HT2.out))
   obtain ⟨X,hX⟩:=gN (mxT 0 T1)
   obtain ⟨Y,hY⟩:=gN (mxT 0 T2)
   rw[hX]at HX1 hx1 hx2
   rw[hY]at HX2 hy1 hy2
   clear hpo1 hpo2 hX hY
   go_wp2_with fail
   refine HX1.out.mono ?_
   rintro e U4 ⟨rfl,hb⟩
   replace C0:=h_ (below_go C0.out hb)
   have HB4:=h_ hb
   clear HX1 hb
   go_wp2_with fail
   refine (HX2.out U4 HB4.out).mono ?_
   rintro e U5 ⟨rfl,hb⟩
   replace C0:=h_ (below_go C0.out hb)
   clear HX2 hb
   go_wp2
   go_ret
   exact ⟨rfl,C0.out⟩
end Go.Proofs.YtpniemnfdleiialGreat
/- A matrix that came in, opened: a struct by value with a list of ints in it. -/
namespace Go.Proofs.YtpniemnfdleiialGreat
open Go.ChangeShapes Go.WideShapes Go.ChangeAt Go.RowKit Go.Joins
theorem laidOut:laidOutB Tryz.prog=true:=by kernel_rfl
theorem cellsInt:Tryz.prog.cellsOf 3=1:=by kernel_rfl
theorem ints_open{H:Type}{enc:TypeId×Value→H}{w:World}{held:Bool}{base fuel:Nat}{v:Value}{x:DataW H×List MemPlace}(h:DataW.trod enc Tryz.prog w base (fun _=>true) held fuel 26 [v]=some x):∃zs,I_ w v zs:=by
 rcases open_ints Tryz.underlying26 Tryz.underlying3 cellsInt h with ⟨hcs,_⟩|⟨a,len,cap,zs,hcs,_,hl,hm,hz,_,hcell,_⟩
 ·obtain rfl:v=.slice none 0 0:=by simpa using hcs
  exact ⟨[],I_.nil w⟩
 ·obtain rfl:v=.slice (some a) len cap:=by simpa using hcs
  have hz':zs.length=cap:=by simpa using hz
  have hlen:(zs.take len).length=len:=by simp;omega
  refine ⟨zs.take len,some a,cap,by rw[hlen],by omega,hm,?_⟩
  by_cases h0:len=0
  ·exact .inl (by subst h0;simp)
  ·obtain ⟨b,off,rfl,hc⟩:=ints_at hcell (by omega)
   refine .inr ⟨b,off,rfl,fun i y hy=>?_⟩
   have hi:i<len:=by
    rcases Nat.lt_or_ge i len with h|h
    ·exact h
    ·rw[List.getElem?_eq_none (by omega)]at hy;cases hy
   rw[List.getElem?_take_of_lt hi]at hy
   rw[hc i (by omega)]
   simp[List.getD,hy]
set_option maxRecDepth 100000 in
theorem ints_param{H:Type}{enc:TypeId×Value→H}{w:World}{r:Reach}{b0:Nat}{v:Value}{d:DataW H}{p:List MemPlace}(hv:Value.okWide Tryz.prog w r b0 26 v)(h:DataW.Trod enc Tryz.prog w 0 (fun _=>true) true 26 v d p):∃zs,I_ w v zs:=by
 obtain ⟨a,len,cap,rfl⟩:=okWide_slice Tryz.underlying26 hv
 obtain ⟨fuel,hf⟩:=h
 exact ints_open (x:=(d,p)) (by simpa [Value.cells] using hf)
end Go.Proofs.YtpniemnfdleiialGreat
