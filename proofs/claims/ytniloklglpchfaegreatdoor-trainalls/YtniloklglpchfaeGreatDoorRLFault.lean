/- What none, LayerFault, WideOf, GoFault and BackFault of the document's answer come to. -/
import Derived.Test.YtniloklglpchfaeGreatDoorLKind
import Derived.Test.YtniloklglpchfaeGreatDoorPkLAt
namespace Go.Proofs.YtniloklglpchfaeGreatDoor
open Go.RowKit
def noneB (r c:Int):Bool:=decide (r=0/\c=0)
theorem noneB_yes{r c:Int}(h:r=0/\c=0):noneB r c=true:=decide_eq_true h
theorem noneB_no{r c:Int}(h:¬(r=0/\c=0)):noneB r c=false:=decide_eq_false h
set_option maxHeartbeats 400000 in
theorem none_any(r c:Int)(s:Value)(w:World):Calls Tryz.prog 37 #[.agg #[.int .i64 r,.int .i64 c,s]] w fun e w'=>e=.returned (.bool (noneB r c))/\Below w.heap.size w w':=by
 by_cases h1:r=0
 ·by_cases h2:c=0
  ·have HE:=h_ (noneB_yes ⟨h1,h2⟩)
   subst h1 h2
   go_enter Tryz.func37,Tryz.ntmps37
   go_wp2
   go_ret
   exact ⟨rfl,o_ _ _⟩
  ·have HE:=h_ (noneB_no (r:=r) (c:=c) (fun h=>h2 h.2)).symm
   have g1:(c==0)=false:=by simp[h2]
   clear h2
   subst h1
   go_enter Tryz.func37,Tryz.ntmps37
   go_wp2
   go_ret
   exact ⟨ret_bool HE.out,o_ _ _⟩
 ·have HE:=h_ (noneB_no (r:=r) (c:=c) (fun h=>h1 h.1)).symm
  have g1:(r==0)=false:=by simp[h1]
  clear h1
  go_enter Tryz.func37,Tryz.ntmps37
  go_wp2
  go_ret
  exact ⟨ret_bool HE.out,o_ _ _⟩
set_option maxHeartbeats 8000000 in
theorem rlfault_1(v:Value)(l:Ly)(w:World)(hv:IsLy w v l)(hk:l.k=1):Calls Tryz.prog 18 #[v] w fun e w'=>e=.returned (.int .i64 (l_ l))/\Below w.heap.size w w':=by
 obtain ⟨s,t,rfl,hs,ht⟩:=hv
 obtain ⟨xa,xn,xk,rfl⟩:=hs.shape
 obtain ⟨ya,yn,yk,rfl⟩:=ht.shape
 obtain ⟨k,e0⟩:=gN (l.k)
 obtain ⟨wr,e1⟩:=gN (l.w.rows)
 obtain ⟨wc,e2⟩:=gN (l.w.cols)
 obtain ⟨br,e3⟩:=gN (l.b.rows)
 obtain ⟨bc,e4⟩:=gN (l.b.cols)
 have HMW:=h_ (fun W (h:Below w.heap.size w W)=>fault_any _ l.w W ⟨_,rfl,hs.u_ h⟩)
 have HMB:=h_ (fun W (h:Below w.heap.size w W)=>fault_any _ l.b W ⟨_,rfl,ht.u_ h⟩)
 have HNW:=h_ (fun W=>none_any wr wc (.slice xa xn xk) W)
 have HNB:=h_ (fun W=>none_any br bc (.slice ya yn yk) W)
 have HNR:=h_ (show ¬(l.k<1\/4<l.k) by omega)
 obtain rfl:k=1:=by omega
 rw[e1,e2]at HMW
 rw[e3,e4]at HMB
 have HKK:=h_ hk
 have HLL:=h_ (And.intro e1 (And.intro e2 (And.intro e3 e4)))
 rw[e0,e1,e2,e3,e4]
 have HBX:=h_ (Box.new w [.int .i64 1,.int .i64 wr,.int .i64 wc,.slice xa xn xk,.int .i64 br,.int .i64 bc,.slice ya yn yk] 58 rfl)
 clear hs ht e0 e1 e2 e3 e4 hk
 go_enter Tryz.func18,Tryz.ntmps18
 go_wp2_with fail
 refine (HMW.out _ (o_ _ _)).mono ?_
 rintro e w1 ⟨rfl,hb1⟩
 have H1:=h_ (HBX.out.u_ hb1)
 have W1:=h_ (below_box (Below.refl _ _) hb1)
 clear hb1
 by_cases hf:q_ l.w=0
 ·rw[hf]
  have HFW:=h_ hf
  clear hf
  obtain ⟨d0,d1,d2,d3,d4,d5,d6⟩:=H1.out.c7
  go_wp2_with fail
  refine (HMB.out _ W1.out).mono ?_
  rintro e w2 ⟨rfl,hb2⟩
  clear d0 d1 d2 d3 d4 d5 d6
  have H2:=h_ (H1.out.u_ hb2)
  have W2:=h_ (b_ W1.out hb2)
  clear hb2
  by_cases hg:q_ l.b=0
  ·rw[hg]
   have HFB:=h_ hg
   clear hg
   by_cases hq1:wr=0/\wc=0
   ·rw[noneB_yes hq1]at HNW
    have HQ1:=h_ hq1
    clear hq1
    by_cases hq2:br=0/\bc=0
    ·rw[noneB_yes hq2]at HNB
     have HQ2:=h_ hq2
     clear hq2
     obtain ⟨d0,d1,d2,d3,d4,d5,d6⟩:=H2.out.c7
     go_wp2_with fail
     refine (HNW.out _).mono ?_
     rintro e w3 ⟨rfl,hb3⟩
     clear d0 d1 d2 d3 d4 d5 d6
     have H3:=h_ (H2.out.u_ hb3)
     obtain ⟨d0,d1,d2,d3,d4,d5,d6⟩:=H3.out.c7
     have W3:=h_ (b_ W2.out hb3)
     clear hb3
     go_wp2_with fail
     refine (HNB.out _).mono ?_
     rintro e w4 ⟨rfl,hb4⟩
     clear d0 d1 d2 d3 d4 d5 d6
     have H4:=h_ (H3.out.u_ hb4)
     obtain ⟨d0,d1,d2,d3,d4,d5,d6⟩:=H4.out.c7
     have W4:=h_ (b_ W3.out hb4)
     clear hb4
     by_cases c0:1<=wr
     ·skip
      by_cases c1:wr<=12
      ·skip
       by_cases c2:1<=wc
       ·skip
        by_cases c3:br=1
        ·have t3:(br==1)=true:=by simp[c3]
         by_cases c4:bc=wc
         ·have t4:(bc==wc)=true:=by simp[c4]
          have HE:=h_ (lfault_0 HNR.out HFW.out HFB.out (l:=l) (by rw[fitsL_1 HKK.out];exact decide_eq_true (by have h1:=HQ1.out;have h2:=HQ2.out;have h3:=HLL.out;have h4:=HKK.out;omega))).symm
          clear c3 c4
          go_wp2
          all_goals first|(exfalso;omega)|(go_ret;exact ⟨i_ HE.out,W4.out⟩)
         ·have t4:(bc==wc)=false:=by simp[c4]
          have HE:=h_ (L_ HNR.out HFW.out HFB.out (l:=l) (by rw[fitsL_1 HKK.out];exact decide_eq_false (by have h1:=HQ1.out;have h2:=HQ2.out;have h3:=HLL.out;have h4:=HKK.out;omega))).symm
          clear c3 c4
          go_wp2
          all_goals first|(exfalso;omega)|(go_ret;exact ⟨i_ HE.out,W4.out⟩)
        ·have t3:(br==1)=false:=by simp[c3]
         have HE:=h_ (L_ HNR.out HFW.out HFB.out (l:=l) (by rw[fitsL_1 HKK.out];exact decide_eq_false (by have h1:=HQ1.out;have h2:=HQ2.out;have h3:=HLL.out;have h4:=HKK.out;omega))).symm
         clear c3
         go_wp2
         all_goals first|(exfalso;omega)|(go_ret;exact ⟨i_ HE.out,W4.out⟩)
       ·skip
        have HE:=h_ (L_ HNR.out HFW.out HFB.out (l:=l) (by rw[fitsL_1 HKK.out];exact decide_eq_false (by have h1:=HQ1.out;have h2:=HQ2.out;have h3:=HLL.out;have h4:=HKK.out;omega))).symm
        skip
        go_wp2
        all_goals first|(exfalso;omega)|(go_ret;exact ⟨i_ HE.out,W4.out⟩)
      ·skip
       have HE:=h_ (L_ HNR.out HFW.out HFB.out (l:=l) (by rw[fitsL_1 HKK.out];exact decide_eq_false (by have h1:=HQ1.out;have h2:=HQ2.out;have h3:=HLL.out;have h4:=HKK.out;omega))).symm
       skip
       go_wp2
       all_goals first|(exfalso;omega)|(go_ret;exact ⟨i_ HE.out,W4.out⟩)
     ·skip
      have HE:=h_ (L_ HNR.out HFW.out HFB.out (l:=l) (by rw[fitsL_1 HKK.out];exact decide_eq_false (by have h1:=HQ1.out;have h2:=HQ2.out;have h3:=HLL.out;have h4:=HKK.out;omega))).symm
      skip
      go_wp2
      all_goals first|(exfalso;omega)|(go_ret;exact ⟨i_ HE.out,W4.out⟩)
    ·rw[noneB_no hq2]at HNB
     have HQ2:=h_ hq2
     clear hq2
     obtain ⟨d0,d1,d2,d3,d4,d5,d6⟩:=H2.out.c7
     go_wp2_with fail
     refine (HNW.out _).mono ?_
     rintro e w3 ⟨rfl,hb3⟩
     clear d0 d1 d2 d3 d4 d5 d6
     have H3:=h_ (H2.out.u_ hb3)
     obtain ⟨d0,d1,d2,d3,d4,d5,d6⟩:=H3.out.c7
     have W3:=h_ (b_ W2.out hb3)
     clear hb3
     go_wp2_with fail
     refine (HNB.out _).mono ?_
     rintro e w4 ⟨rfl,hb4⟩
     clear d0 d1 d2 d3 d4 d5 d6
     have H4:=h_ (H3.out.u_ hb4)
     obtain ⟨d0,d1,d2,d3,d4,d5,d6⟩:=H4.out.c7
     have W4:=h_ (b_ W3.out hb4)
     clear hb4
     by_cases c0:1<=wr
     ·skip
      by_cases c1:wr<=12
      ·skip
       by_cases c2:1<=wc
       ·skip
        by_cases c3:br=1
        ·have t3:(br==1)=true:=by simp[c3]
         by_cases c4:bc=wc
         ·have t4:(bc==wc)=true:=by simp[c4]
          have HE:=h_ (lfault_0 HNR.out HFW.out HFB.out (l:=l) (by rw[fitsL_1 HKK.out];exact decide_eq_true (by have h1:=HQ1.out;have h2:=HQ2.out;have h3:=HLL.out;have h4:=HKK.out;omega))).symm
          clear c3 c4
          go_wp2
          all_goals first|(exfalso;omega)|(go_ret;exact ⟨i_ HE.out,W4.out⟩)
         ·have t4:(bc==wc)=false:=by simp[c4]
          have HE:=h_ (L_ HNR.out HFW.out HFB.out (l:=l) (by rw[fitsL_1 HKK.out];exact decide_eq_false (by have h1:=HQ1.out;have h2:=HQ2.out;have h3:=HLL.out;have h4:=HKK.out;omega))).symm
          clear c3 c4
          go_wp2
          all_goals first|(exfalso;omega)|(go_ret;exact ⟨i_ HE.out,W4.out⟩)
        ·have t3:(br==1)=false:=by simp[c3]
         have HE:=h_ (L_ HNR.out HFW.out HFB.out (l:=l) (by rw[fitsL_1 HKK.out];exact decide_eq_false (by have h1:=HQ1.out;have h2:=HQ2.out;have h3:=HLL.out;have h4:=HKK.out;omega))).symm
         clear c3
         go_wp2
         all_goals first|(exfalso;omega)|(go_ret;exact ⟨i_ HE.out,W4.out⟩)
       ·skip
        have HE:=h_ (L_ HNR.out HFW.out HFB.out (l:=l) (by rw[fitsL_1 HKK.out];exact decide_eq_false (by have h1:=HQ1.out;have h2:=HQ2.out;have h3:=HLL.out;have h4:=HKK.out;omega))).symm
        skip
        go_wp2
        all_goals first|(exfalso;omega)|(go_ret;exact ⟨i_ HE.out,W4.out⟩)
      ·skip
       have HE:=h_ (L_ HNR.out HFW.out HFB.out (l:=l) (by rw[fitsL_1 HKK.out];exact decide_eq_false (by have h1:=HQ1.out;have h2:=HQ2.out;have h3:=HLL.out;have h4:=HKK.out;omega))).symm
       skip
       go_wp2
       all_goals first|(exfalso;omega)|(go_ret;exact ⟨i_ HE.out,W4.out⟩)
     ·skip
      have HE:=h_ (L_ HNR.out HFW.out HFB.out (l:=l) (by rw[fitsL_1 HKK.out];exact decide_eq_false (by have h1:=HQ1.out;have h2:=HQ2.out;have h3:=HLL.out;have h4:=HKK.out;omega))).symm
      skip
      go_wp2
      all_goals first|(exfalso;omega)|(go_ret;exact ⟨i_ HE.out,W4.out⟩)
   ·rw[noneB_no hq1]at HNW
    have HQ1:=h_ hq1
    clear hq1
    by_cases hq2:br=0/\bc=0
    ·rw[noneB_yes hq2]at HNB
     have HQ2:=h_ hq2
     clear hq2
     obtain ⟨d0,d1,d2,d3,d4,d5,d6⟩:=H2.out.c7
     go_wp2_with fail
     refine (HNW.out _).mono ?_
     rintro e w3 ⟨rfl,hb3⟩
     clear d0 d1 d2 d3 d4 d5 d6
     have H3:=h_ (H2.out.u_ hb3)
     obtain ⟨d0,d1,d2,d3,d4,d5,d6⟩:=H3.out.c7
     have W3:=h_ (b_ W2.out hb3)
     clear hb3
     go_wp2_with fail
     refine (HNB.out _).mono ?_
     rintro e w4 ⟨rfl,hb4⟩
     clear d0 d1 d2 d3 d4 d5 d6
     have H4:=h_ (H3.out.u_ hb4)
     obtain ⟨d0,d1,d2,d3,d4,d5,d6⟩:=H4.out.c7
     have W4:=h_ (b_ W3.out hb4)
     clear hb4
     by_cases c0:1<=wr
     ·skip
      by_cases c1:wr<=12
      ·skip
       by_cases c2:1<=wc
       ·skip
        by_cases c3:br=1
        ·have t3:(br==1)=true:=by simp[c3]
         by_cases c4:bc=wc
         ·have t4:(bc==wc)=true:=by simp[c4]
          have HE:=h_ (lfault_0 HNR.out HFW.out HFB.out (l:=l) (by rw[fitsL_1 HKK.out];exact decide_eq_true (by have h1:=HQ1.out;have h2:=HQ2.out;have h3:=HLL.out;have h4:=HKK.out;omega))).symm
          clear c3 c4
          go_wp2
          all_goals first|(exfalso;omega)|(go_ret;exact ⟨i_ HE.out,W4.out⟩)
         ·have t4:(bc==wc)=false:=by simp[c4]
          have HE:=h_ (L_ HNR.out HFW.out HFB.out (l:=l) (by rw[fitsL_1 HKK.out];exact decide_eq_false (by have h1:=HQ1.out;have h2:=HQ2.out;have h3:=HLL.out;have h4:=HKK.out;omega))).symm
          clear c3 c4
          go_wp2
          all_goals first|(exfalso;omega)|(go_ret;exact ⟨i_ HE.out,W4.out⟩)
        ·have t3:(br==1)=false:=by simp[c3]
         have HE:=h_ (L_ HNR.out HFW.out HFB.out (l:=l) (by rw[fitsL_1 HKK.out];exact decide_eq_false (by have h1:=HQ1.out;have h2:=HQ2.out;have h3:=HLL.out;have h4:=HKK.out;omega))).symm
         clear c3
         go_wp2
         all_goals first|(exfalso;omega)|(go_ret;exact ⟨i_ HE.out,W4.out⟩)
       ·skip
        have HE:=h_ (L_ HNR.out HFW.out HFB.out (l:=l) (by rw[fitsL_1 HKK.out];exact decide_eq_false (by have h1:=HQ1.out;have h2:=HQ2.out;have h3:=HLL.out;have h4:=HKK.out;omega))).symm
        skip
        go_wp2
        all_goals first|(exfalso;omega)|(go_ret;exact ⟨i_ HE.out,W4.out⟩)
      ·skip
       have HE:=h_ (L_ HNR.out HFW.out HFB.out (l:=l) (by rw[fitsL_1 HKK.out];exact decide_eq_false (by have h1:=HQ1.out;have h2:=HQ2.out;have h3:=HLL.out;have h4:=HKK.out;omega))).symm
       skip
       go_wp2
       all_goals first|(exfalso;omega)|(go_ret;exact ⟨i_ HE.out,W4.out⟩)
     ·skip
      have HE:=h_ (L_ HNR.out HFW.out HFB.out (l:=l) (by rw[fitsL_1 HKK.out];exact decide_eq_false (by have h1:=HQ1.out;have h2:=HQ2.out;have h3:=HLL.out;have h4:=HKK.out;omega))).symm
      skip
      go_wp2
      all_goals first|(exfalso;omega)|(go_ret;exact ⟨i_ HE.out,W4.out⟩)
    ·rw[noneB_no hq2]at HNB
     have HQ2:=h_ hq2
     clear hq2
     obtain ⟨d0,d1,d2,d3,d4,d5,d6⟩:=H2.out.c7
     go_wp2_with fail
     refine (HNW.out _).mono ?_
     rintro e w3 ⟨rfl,hb3⟩
     clear d0 d1 d2 d3 d4 d5 d6
     have H3:=h_ (H2.out.u_ hb3)
     obtain ⟨d0,d1,d2,d3,d4,d5,d6⟩:=H3.out.c7
     have W3:=h_ (b_ W2.out hb3)
     clear hb3
     go_wp2_with fail
     refine (HNB.out _).mono ?_
     rintro e w4 ⟨rfl,hb4⟩
     clear d0 d1 d2 d3 d4 d5 d6
     have H4:=h_ (H3.out.u_ hb4)
     obtain ⟨d0,d1,d2,d3,d4,d5,d6⟩:=H4.out.c7
     have W4:=h_ (b_ W3.out hb4)
     clear hb4
     by_cases c0:1<=wr
     ·skip
      by_cases c1:wr<=12
      ·skip
       by_cases c2:1<=wc
       ·skip
        by_cases c3:br=1
        ·have t3:(br==1)=true:=by simp[c3]
         by_cases c4:bc=wc
         ·have t4:(bc==wc)=true:=by simp[c4]
          have HE:=h_ (lfault_0 HNR.out HFW.out HFB.out (l:=l) (by rw[fitsL_1 HKK.out];exact decide_eq_true (by have h1:=HQ1.out;have h2:=HQ2.out;have h3:=HLL.out;have h4:=HKK.out;omega))).symm
          clear c3 c4
          go_wp2
          all_goals first|(exfalso;omega)|(go_ret;exact ⟨i_ HE.out,W4.out⟩)
         ·have t4:(bc==wc)=false:=by simp[c4]
          have HE:=h_ (L_ HNR.out HFW.out HFB.out (l:=l) (by rw[fitsL_1 HKK.out];exact decide_eq_false (by have h1:=HQ1.out;have h2:=HQ2.out;have h3:=HLL.out;have h4:=HKK.out;omega))).symm
          clear c3 c4
          go_wp2
          all_goals first|(exfalso;omega)|(go_ret;exact ⟨i_ HE.out,W4.out⟩)
        ·have t3:(br==1)=false:=by simp[c3]
         have HE:=h_ (L_ HNR.out HFW.out HFB.out (l:=l) (by rw[fitsL_1 HKK.out];exact decide_eq_false (by have h1:=HQ1.out;have h2:=HQ2.out;have h3:=HLL.out;have h4:=HKK.out;omega))).symm
         clear c3
         go_wp2
         all_goals first|(exfalso;omega)|(go_ret;exact ⟨i_ HE.out,W4.out⟩)
       ·skip
        have HE:=h_ (L_ HNR.out HFW.out HFB.out (l:=l) (by rw[fitsL_1 HKK.out];exact decide_eq_false (by have h1:=HQ1.out;have h2:=HQ2.out;have h3:=HLL.out;have h4:=HKK.out;omega))).symm
        skip
        go_wp2
        all_goals first|(exfalso;omega)|(go_ret;exact ⟨i_ HE.out,W4.out⟩)
      ·skip
       have HE:=h_ (L_ HNR.out HFW.out HFB.out (l:=l) (by rw[fitsL_1 HKK.out];exact decide_eq_false (by have h1:=HQ1.out;have h2:=HQ2.out;have h3:=HLL.out;have h4:=HKK.out;omega))).symm
       skip
       go_wp2
       all_goals first|(exfalso;omega)|(go_ret;exact ⟨i_ HE.out,W4.out⟩)
     ·skip
      have HE:=h_ (L_ HNR.out HFW.out HFB.out (l:=l) (by rw[fitsL_1 HKK.out];exact decide_eq_false (by have h1:=HQ1.out;have h2:=HQ2.out;have h3:=HLL.out;have h4:=HKK.out;omega))).symm
      skip
      go_wp2
      all_goals first|(exfalso;omega)|(go_ret;exact ⟨i_ HE.out,W4.out⟩)
  ·obtain ⟨j,hj⟩:=gN (q_ l.b)
   have hj0:(j==0)=false:=by rw[<-hj];simp[hg]
   have hj1:(j !=0)=true:=by rw[<-hj];simp[hg]
   have HE:=h_ (show j=l_ l by rw[lfault_b HNR.out HFW.out hg,hj])
   rw[hj]
   clear hg hj
   obtain ⟨d0,d1,d2,d3,d4,d5,d6⟩:=H2.out.c7
   go_wp2
   go_ret
   exact ⟨i_ HE.out,W2.out⟩
 ·obtain ⟨j,hj⟩:=gN (q_ l.w)
  have hj0:(j==0)=false:=by rw[<-hj];simp[hf]
  have hj1:(j !=0)=true:=by rw[<-hj];simp[hf]
  have HE:=h_ (show j=l_ l by rw[lfault_w HNR.out hf,hj])
  rw[hj]
  clear hf hj
  obtain ⟨d0,d1,d2,d3,d4,d5,d6⟩:=H1.out.c7
  go_wp2
  go_ret
  exact ⟨i_ HE.out,W1.out⟩
set_option maxHeartbeats 8000000 in
theorem rlfault_2(v:Value)(l:Ly)(w:World)(hv:IsLy w v l)(hk:l.k=2):Calls Tryz.prog 18 #[v] w fun e w'=>e=.returned (.int .i64 (l_ l))/\Below w.heap.size w w':=by
 obtain ⟨s,t,rfl,hs,ht⟩:=hv
 obtain ⟨xa,xn,xk,rfl⟩:=hs.shape
 obtain ⟨ya,yn,yk,rfl⟩:=ht.shape
 obtain ⟨k,e0⟩:=gN (l.k)
 obtain ⟨wr,e1⟩:=gN (l.w.rows)
 obtain ⟨wc,e2⟩:=gN (l.w.cols)
 obtain ⟨br,e3⟩:=gN (l.b.rows)
 obtain ⟨bc,e4⟩:=gN (l.b.cols)
 have HMW:=h_ (fun W (h:Below w.heap.size w W)=>fault_any _ l.w W ⟨_,rfl,hs.u_ h⟩)
 have HMB:=h_ (fun W (h:Below w.heap.size w W)=>fault_any _ l.b W ⟨_,rfl,ht.u_ h⟩)
 have HNW:=h_ (fun W=>none_any wr wc (.slice xa xn xk) W)
 have HNB:=h_ (fun W=>none_any br bc (.slice ya yn yk) W)
 have HNR:=h_ (show ¬(l.k<1\/4<l.k) by omega)
 obtain rfl:k=2:=by omega
 rw[e1,e2]at HMW
 rw[e3,e4]at HMB
 have HKK:=h_ hk
 have HLL:=h_ (And.intro e1 (And.intro e2 (And.intro e3 e4)))
 rw[e0,e1,e2,e3,e4]
 have HBX:=h_ (Box.new w [.int .i64 2,.int .i64 wr,.int .i64 wc,.slice xa xn xk,.int .i64 br,.int .i64 bc,.slice ya yn yk] 58 rfl)
 clear hs ht e0 e1 e2 e3 e4 hk
 go_enter Tryz.func18,Tryz.ntmps18
 go_wp2_with fail
 refine (HMW.out _ (o_ _ _)).mono ?_
 rintro e w1 ⟨rfl,hb1⟩
 have H1:=h_ (HBX.out.u_ hb1)
 have W1:=h_ (below_box (Below.refl _ _) hb1)
 clear hb1
 by_cases hf:q_ l.w=0
 ·rw[hf]
  have HFW:=h_ hf
  clear hf
  obtain ⟨d0,d1,d2,d3,d4,d5,d6⟩:=H1.out.c7
  go_wp2_with fail
  refine (HMB.out _ W1.out).mono ?_
  rintro e w2 ⟨rfl,hb2⟩
  clear d0 d1 d2 d3 d4 d5 d6
  have H2:=h_ (H1.out.u_ hb2)
  have W2:=h_ (b_ W1.out hb2)
  clear hb2
  by_cases hg:q_ l.b=0
  ·rw[hg]
   have HFB:=h_ hg
   clear hg
   by_cases hq1:wr=0/\wc=0
   ·rw[noneB_yes hq1]at HNW
    have HQ1:=h_ hq1
    clear hq1
    by_cases hq2:br=0/\bc=0
    ·rw[noneB_yes hq2]at HNB
     have HQ2:=h_ hq2
     clear hq2
     obtain ⟨d0,d1,d2,d3,d4,d5,d6⟩:=H2.out.c7
     go_wp2_with fail
     refine (HNW.out _).mono ?_
     rintro e w3 ⟨rfl,hb3⟩
     clear d0 d1 d2 d3 d4 d5 d6
     have H3:=h_ (H2.out.u_ hb3)
     obtain ⟨d0,d1,d2,d3,d4,d5,d6⟩:=H3.out.c7
     have W3:=h_ (b_ W2.out hb3)
     clear hb3
     go_wp2_with fail
     refine (HNB.out _).mono ?_
     rintro e w4 ⟨rfl,hb4⟩
     clear d0 d1 d2 d3 d4 d5 d6
     have H4:=h_ (H3.out.u_ hb4)
     obtain ⟨d0,d1,d2,d3,d4,d5,d6⟩:=H4.out.c7
     have W4:=h_ (b_ W3.out hb4)
     clear hb4
     have HE:=h_ (lfault_0 HNR.out HFW.out HFB.out (l:=l) (by rw[fitsL_2 HKK.out];exact decide_eq_true (by have h1:=HQ1.out;have h2:=HQ2.out;have h3:=HLL.out;have h4:=HKK.out;omega))).symm
     skip
     go_wp2
     all_goals first|(exfalso;omega)|(go_ret;exact ⟨i_ HE.out,W4.out⟩)
    ·rw[noneB_no hq2]at HNB
     have HQ2:=h_ hq2
     clear hq2
     obtain ⟨d0,d1,d2,d3,d4,d5,d6⟩:=H2.out.c7
     go_wp2_with fail
     refine (HNW.out _).mono ?_
     rintro e w3 ⟨rfl,hb3⟩
     clear d0 d1 d2 d3 d4 d5 d6
     have H3:=h_ (H2.out.u_ hb3)
     obtain ⟨d0,d1,d2,d3,d4,d5,d6⟩:=H3.out.c7
     have W3:=h_ (b_ W2.out hb3)
     clear hb3
     go_wp2_with fail
     refine (HNB.out _).mono ?_
     rintro e w4 ⟨rfl,hb4⟩
     clear d0 d1 d2 d3 d4 d5 d6
     have H4:=h_ (H3.out.u_ hb4)
     obtain ⟨d0,d1,d2,d3,d4,d5,d6⟩:=H4.out.c7
     have W4:=h_ (b_ W3.out hb4)
     clear hb4
     have HE:=h_ (L_ HNR.out HFW.out HFB.out (l:=l) (by rw[fitsL_2 HKK.out];exact decide_eq_false (by have h1:=HQ1.out;have h2:=HQ2.out;have h3:=HLL.out;have h4:=HKK.out;omega))).symm
     skip
     go_wp2
     all_goals first|(exfalso;omega)|(go_ret;exact ⟨i_ HE.out,W4.out⟩)
   ·rw[noneB_no hq1]at HNW
    have HQ1:=h_ hq1
    clear hq1
    by_cases hq2:br=0/\bc=0
    ·rw[noneB_yes hq2]at HNB
     have HQ2:=h_ hq2
     clear hq2
     obtain ⟨d0,d1,d2,d3,d4,d5,d6⟩:=H2.out.c7
     go_wp2_with fail
     refine (HNW.out _).mono ?_
     rintro e w3 ⟨rfl,hb3⟩
     clear d0 d1 d2 d3 d4 d5 d6
     have H3:=h_ (H2.out.u_ hb3)
     obtain ⟨d0,d1,d2,d3,d4,d5,d6⟩:=H3.out.c7
     have W3:=h_ (b_ W2.out hb3)
     clear hb3
     go_wp2_with fail
     refine (HNB.out _).mono ?_
     rintro e w4 ⟨rfl,hb4⟩
     clear d0 d1 d2 d3 d4 d5 d6
     have H4:=h_ (H3.out.u_ hb4)
     obtain ⟨d0,d1,d2,d3,d4,d5,d6⟩:=H4.out.c7
     have W4:=h_ (b_ W3.out hb4)
     clear hb4
     have HE:=h_ (L_ HNR.out HFW.out HFB.out (l:=l) (by rw[fitsL_2 HKK.out];exact decide_eq_false (by have h1:=HQ1.out;have h2:=HQ2.out;have h3:=HLL.out;have h4:=HKK.out;omega))).symm
     skip
     go_wp2
     all_goals first|(exfalso;omega)|(go_ret;exact ⟨i_ HE.out,W4.out⟩)
    ·rw[noneB_no hq2]at HNB
     have HQ2:=h_ hq2
     clear hq2
     obtain ⟨d0,d1,d2,d3,d4,d5,d6⟩:=H2.out.c7
     go_wp2_with fail
     refine (HNW.out _).mono ?_
     rintro e w3 ⟨rfl,hb3⟩
     clear d0 d1 d2 d3 d4 d5 d6
     have H3:=h_ (H2.out.u_ hb3)
     obtain ⟨d0,d1,d2,d3,d4,d5,d6⟩:=H3.out.c7
     have W3:=h_ (b_ W2.out hb3)
     clear hb3
     go_wp2_with fail
     refine (HNB.out _).mono ?_
     rintro e w4 ⟨rfl,hb4⟩
     clear d0 d1 d2 d3 d4 d5 d6
     have H4:=h_ (H3.out.u_ hb4)
     obtain ⟨d0,d1,d2,d3,d4,d5,d6⟩:=H4.out.c7
     have W4:=h_ (b_ W3.out hb4)
     clear hb4
     have HE:=h_ (L_ HNR.out HFW.out HFB.out (l:=l) (by rw[fitsL_2 HKK.out];exact decide_eq_false (by have h1:=HQ1.out;have h2:=HQ2.out;have h3:=HLL.out;have h4:=HKK.out;omega))).symm
     skip
     go_wp2
     all_goals first|(exfalso;omega)|(go_ret;exact ⟨i_ HE.out,W4.out⟩)
  ·obtain ⟨j,hj⟩:=gN (q_ l.b)
   have hj0:(j==0)=false:=by rw[<-hj];simp[hg]
   have hj1:(j !=0)=true:=by rw[<-hj];simp[hg]
   have HE:=h_ (show j=l_ l by rw[lfault_b HNR.out HFW.out hg,hj])
   rw[hj]
   clear hg hj
   obtain ⟨d0,d1,d2,d3,d4,d5,d6⟩:=H2.out.c7
   go_wp2
   go_ret
   exact ⟨i_ HE.out,W2.out⟩
 ·obtain ⟨j,hj⟩:=gN (q_ l.w)
  have hj0:(j==0)=false:=by rw[<-hj];simp[hf]
  have hj1:(j !=0)=true:=by rw[<-hj];simp[hf]
  have HE:=h_ (show j=l_ l by rw[lfault_w HNR.out hf,hj])
  rw[hj]
  clear hf hj
  obtain ⟨d0,d1,d2,d3,d4,d5,d6⟩:=H1.out.c7
  go_wp2
  go_ret
  exact ⟨i_ HE.out,W1.out⟩
set_option maxHeartbeats 8000000 in
theorem rlfault_3(v:Value)(l:Ly)(w:World)(hv:IsLy w v l)(hk:l.k=3):Calls Tryz.prog 18 #[v] w fun e w'=>e=.returned (.int .i64 (l_ l))/\Below w.heap.size w w':=by
 obtain ⟨s,t,rfl,hs,ht⟩:=hv
 obtain ⟨xa,xn,xk,rfl⟩:=hs.shape
 obtain ⟨ya,yn,yk,rfl⟩:=ht.shape
 obtain ⟨k,e0⟩:=gN (l.k)
 obtain ⟨wr,e1⟩:=gN (l.w.rows)
 obtain ⟨wc,e2⟩:=gN (l.w.cols)
 obtain ⟨br,e3⟩:=gN (l.b.rows)
 obtain ⟨bc,e4⟩:=gN (l.b.cols)
 have HMW:=h_ (fun W (h:Below w.heap.size w W)=>fault_any _ l.w W ⟨_,rfl,hs.u_ h⟩)
 have HMB:=h_ (fun W (h:Below w.heap.size w W)=>fault_any _ l.b W ⟨_,rfl,ht.u_ h⟩)
 have HNW:=h_ (fun W=>none_any wr wc (.slice xa xn xk) W)
 have HNB:=h_ (fun W=>none_any br bc (.slice ya yn yk) W)
 have HNR:=h_ (show ¬(l.k<1\/4<l.k) by omega)
 obtain rfl:k=3:=by omega
 rw[e1,e2]at HMW
 rw[e3,e4]at HMB
 have HKK:=h_ hk
 have HLL:=h_ (And.intro e1 (And.intro e2 (And.intro e3 e4)))
 rw[e0,e1,e2,e3,e4]
 have HBX:=h_ (Box.new w [.int .i64 3,.int .i64 wr,.int .i64 wc,.slice xa xn xk,.int .i64 br,.int .i64 bc,.slice ya yn yk] 58 rfl)
 clear hs ht e0 e1 e2 e3 e4 hk
 go_enter Tryz.func18,Tryz.ntmps18
 go_wp2_with fail
 refine (HMW.out _ (o_ _ _)).mono ?_
 rintro e w1 ⟨rfl,hb1⟩
 have H1:=h_ (HBX.out.u_ hb1)
 have W1:=h_ (below_box (Below.refl _ _) hb1)
 clear hb1
 by_cases hf:q_ l.w=0
 ·rw[hf]
  have HFW:=h_ hf
  clear hf
  obtain ⟨d0,d1,d2,d3,d4,d5,d6⟩:=H1.out.c7
  go_wp2_with fail
  refine (HMB.out _ W1.out).mono ?_
  rintro e w2 ⟨rfl,hb2⟩
  clear d0 d1 d2 d3 d4 d5 d6
  have H2:=h_ (H1.out.u_ hb2)
  have W2:=h_ (b_ W1.out hb2)
  clear hb2
  by_cases hg:q_ l.b=0
  ·rw[hg]
   have HFB:=h_ hg
   clear hg
   by_cases hq1:wr=0/\wc=0
   ·rw[noneB_yes hq1]at HNW
    have HQ1:=h_ hq1
    clear hq1
    by_cases hq2:br=0/\bc=0
    ·rw[noneB_yes hq2]at HNB
     have HQ2:=h_ hq2
     clear hq2
     obtain ⟨d0,d1,d2,d3,d4,d5,d6⟩:=H2.out.c7
     go_wp2_with fail
     refine (HNW.out _).mono ?_
     rintro e w3 ⟨rfl,hb3⟩
     clear d0 d1 d2 d3 d4 d5 d6
     have H3:=h_ (H2.out.u_ hb3)
     obtain ⟨d0,d1,d2,d3,d4,d5,d6⟩:=H3.out.c7
     have W3:=h_ (b_ W2.out hb3)
     clear hb3
     go_wp2_with fail
     refine (HNB.out _).mono ?_
     rintro e w4 ⟨rfl,hb4⟩
     clear d0 d1 d2 d3 d4 d5 d6
     have H4:=h_ (H3.out.u_ hb4)
     obtain ⟨d0,d1,d2,d3,d4,d5,d6⟩:=H4.out.c7
     have W4:=h_ (b_ W3.out hb4)
     clear hb4
     by_cases c0:wr=1
     ·have t0:(wr==1)=true:=by simp[c0]
      by_cases c1:wc=1
      ·have t1:(wc==1)=true:=by simp[c1]
       have HE:=h_ (lfault_0 HNR.out HFW.out HFB.out (l:=l) (by rw[fitsL_3 HKK.out];exact decide_eq_true (by have h1:=HQ1.out;have h2:=HQ2.out;have h3:=HLL.out;have h4:=HKK.out;omega))).symm
       clear c0 c1
       go_wp2
       all_goals first|(exfalso;omega)|(go_ret;exact ⟨i_ HE.out,W4.out⟩)
      ·have t1:(wc==1)=false:=by simp[c1]
       have HE:=h_ (L_ HNR.out HFW.out HFB.out (l:=l) (by rw[fitsL_3 HKK.out];exact decide_eq_false (by have h1:=HQ1.out;have h2:=HQ2.out;have h3:=HLL.out;have h4:=HKK.out;omega))).symm
       clear c0 c1
       go_wp2
       all_goals first|(exfalso;omega)|(go_ret;exact ⟨i_ HE.out,W4.out⟩)
     ·have t0:(wr==1)=false:=by simp[c0]
      have HE:=h_ (L_ HNR.out HFW.out HFB.out (l:=l) (by rw[fitsL_3 HKK.out];exact decide_eq_false (by have h1:=HQ1.out;have h2:=HQ2.out;have h3:=HLL.out;have h4:=HKK.out;omega))).symm
      clear c0
      go_wp2
      all_goals first|(exfalso;omega)|(go_ret;exact ⟨i_ HE.out,W4.out⟩)
    ·rw[noneB_no hq2]at HNB
     have HQ2:=h_ hq2
     clear hq2
     obtain ⟨d0,d1,d2,d3,d4,d5,d6⟩:=H2.out.c7
     go_wp2_with fail
     refine (HNW.out _).mono ?_
     rintro e w3 ⟨rfl,hb3⟩
     clear d0 d1 d2 d3 d4 d5 d6
     have H3:=h_ (H2.out.u_ hb3)
     obtain ⟨d0,d1,d2,d3,d4,d5,d6⟩:=H3.out.c7
     have W3:=h_ (b_ W2.out hb3)
     clear hb3
     go_wp2_with fail
     refine (HNB.out _).mono ?_
     rintro e w4 ⟨rfl,hb4⟩
     clear d0 d1 d2 d3 d4 d5 d6
     have H4:=h_ (H3.out.u_ hb4)
     obtain ⟨d0,d1,d2,d3,d4,d5,d6⟩:=H4.out.c7
     have W4:=h_ (b_ W3.out hb4)
     clear hb4
     by_cases c0:wr=1
     ·have t0:(wr==1)=true:=by simp[c0]
      by_cases c1:wc=1
      ·have t1:(wc==1)=true:=by simp[c1]
       have HE:=h_ (L_ HNR.out HFW.out HFB.out (l:=l) (by rw[fitsL_3 HKK.out];exact decide_eq_false (by have h1:=HQ1.out;have h2:=HQ2.out;have h3:=HLL.out;have h4:=HKK.out;omega))).symm
       clear c0 c1
       go_wp2
       all_goals first|(exfalso;omega)|(go_ret;exact ⟨i_ HE.out,W4.out⟩)
      ·have t1:(wc==1)=false:=by simp[c1]
       have HE:=h_ (L_ HNR.out HFW.out HFB.out (l:=l) (by rw[fitsL_3 HKK.out];exact decide_eq_false (by have h1:=HQ1.out;have h2:=HQ2.out;have h3:=HLL.out;have h4:=HKK.out;omega))).symm
       clear c0 c1
       go_wp2
       all_goals first|(exfalso;omega)|(go_ret;exact ⟨i_ HE.out,W4.out⟩)
     ·have t0:(wr==1)=false:=by simp[c0]
      have HE:=h_ (L_ HNR.out HFW.out HFB.out (l:=l) (by rw[fitsL_3 HKK.out];exact decide_eq_false (by have h1:=HQ1.out;have h2:=HQ2.out;have h3:=HLL.out;have h4:=HKK.out;omega))).symm
      clear c0
      go_wp2
      all_goals first|(exfalso;omega)|(go_ret;exact ⟨i_ HE.out,W4.out⟩)
   ·rw[noneB_no hq1]at HNW
    have HQ1:=h_ hq1
    clear hq1
    by_cases hq2:br=0/\bc=0
    ·rw[noneB_yes hq2]at HNB
     have HQ2:=h_ hq2
     clear hq2
     obtain ⟨d0,d1,d2,d3,d4,d5,d6⟩:=H2.out.c7
     go_wp2_with fail
     refine (HNW.out _).mono ?_
     rintro e w3 ⟨rfl,hb3⟩
     clear d0 d1 d2 d3 d4 d5 d6
     have H3:=h_ (H2.out.u_ hb3)
     obtain ⟨d0,d1,d2,d3,d4,d5,d6⟩:=H3.out.c7
     have W3:=h_ (b_ W2.out hb3)
     clear hb3
     go_wp2_with fail
     refine (HNB.out _).mono ?_
     rintro e w4 ⟨rfl,hb4⟩
     clear d0 d1 d2 d3 d4 d5 d6
     have H4:=h_ (H3.out.u_ hb4)
     obtain ⟨d0,d1,d2,d3,d4,d5,d6⟩:=H4.out.c7
     have W4:=h_ (b_ W3.out hb4)
     clear hb4
     by_cases c0:wr=1
     ·have t0:(wr==1)=true:=by simp[c0]
      by_cases c1:wc=1
      ·have t1:(wc==1)=true:=by simp[c1]
       have HE:=h_ (lfault_0 HNR.out HFW.out HFB.out (l:=l) (by rw[fitsL_3 HKK.out];exact decide_eq_true (by have h1:=HQ1.out;have h2:=HQ2.out;have h3:=HLL.out;have h4:=HKK.out;omega))).symm
       clear c0 c1
       go_wp2
       all_goals first|(exfalso;omega)|(go_ret;exact ⟨i_ HE.out,W4.out⟩)
      ·have t1:(wc==1)=false:=by simp[c1]
       have HE:=h_ (L_ HNR.out HFW.out HFB.out (l:=l) (by rw[fitsL_3 HKK.out];exact decide_eq_false (by have h1:=HQ1.out;have h2:=HQ2.out;have h3:=HLL.out;have h4:=HKK.out;omega))).symm
       clear c0 c1
       go_wp2
       all_goals first|(exfalso;omega)|(go_ret;exact ⟨i_ HE.out,W4.out⟩)
     ·have t0:(wr==1)=false:=by simp[c0]
      have HE:=h_ (L_ HNR.out HFW.out HFB.out (l:=l) (by rw[fitsL_3 HKK.out];exact decide_eq_false (by have h1:=HQ1.out;have h2:=HQ2.out;have h3:=HLL.out;have h4:=HKK.out;omega))).symm
      clear c0
      go_wp2
      all_goals first|(exfalso;omega)|(go_ret;exact ⟨i_ HE.out,W4.out⟩)
    ·rw[noneB_no hq2]at HNB
     have HQ2:=h_ hq2
     clear hq2
     obtain ⟨d0,d1,d2,d3,d4,d5,d6⟩:=H2.out.c7
     go_wp2_with fail
     refine (HNW.out _).mono ?_
     rintro e w3 ⟨rfl,hb3⟩
     clear d0 d1 d2 d3 d4 d5 d6
     have H3:=h_ (H2.out.u_ hb3)
     obtain ⟨d0,d1,d2,d3,d4,d5,d6⟩:=H3.out.c7
     have W3:=h_ (b_ W2.out hb3)
     clear hb3
     go_wp2_with fail
     refine (HNB.out _).mono ?_
     rintro e w4 ⟨rfl,hb4⟩
     clear d0 d1 d2 d3 d4 d5 d6
     have H4:=h_ (H3.out.u_ hb4)
     obtain ⟨d0,d1,d2,d3,d4,d5,d6⟩:=H4.out.c7
     have W4:=h_ (b_ W3.out hb4)
     clear hb4
     by_cases c0:wr=1
     ·have t0:(wr==1)=true:=by simp[c0]
      by_cases c1:wc=1
      ·have t1:(wc==1)=true:=by simp[c1]
       have HE:=h_ (L_ HNR.out HFW.out HFB.out (l:=l) (by rw[fitsL_3 HKK.out];exact decide_eq_false (by have h1:=HQ1.out;have h2:=HQ2.out;have h3:=HLL.out;have h4:=HKK.out;omega))).symm
       clear c0 c1
       go_wp2
       all_goals first|(exfalso;omega)|(go_ret;exact ⟨i_ HE.out,W4.out⟩)
      ·have t1:(wc==1)=false:=by simp[c1]
       have HE:=h_ (L_ HNR.out HFW.out HFB.out (l:=l) (by rw[fitsL_3 HKK.out];exact decide_eq_false (by have h1:=HQ1.out;have h2:=HQ2.out;have h3:=HLL.out;have h4:=HKK.out;omega))).symm
       clear c0 c1
       go_wp2
       all_goals first|(exfalso;omega)|(go_ret;exact ⟨i_ HE.out,W4.out⟩)
     ·have t0:(wr==1)=false:=by simp[c0]
      have HE:=h_ (L_ HNR.out HFW.out HFB.out (l:=l) (by rw[fitsL_3 HKK.out];exact decide_eq_false (by have h1:=HQ1.out;have h2:=HQ2.out;have h3:=HLL.out;have h4:=HKK.out;omega))).symm
      clear c0
      go_wp2
      all_goals first|(exfalso;omega)|(go_ret;exact ⟨i_ HE.out,W4.out⟩)
  ·obtain ⟨j,hj⟩:=gN (q_ l.b)
   have hj0:(j==0)=false:=by rw[<-hj];simp[hg]
   have hj1:(j !=0)=true:=by rw[<-hj];simp[hg]
   have HE:=h_ (show j=l_ l by rw[lfault_b HNR.out HFW.out hg,hj])
   rw[hj]
   clear hg hj
   obtain ⟨d0,d1,d2,d3,d4,d5,d6⟩:=H2.out.c7
   go_wp2
   go_ret
   exact ⟨i_ HE.out,W2.out⟩
 ·obtain ⟨j,hj⟩:=gN (q_ l.w)
  have hj0:(j==0)=false:=by rw[<-hj];simp[hf]
  have hj1:(j !=0)=true:=by rw[<-hj];simp[hf]
  have HE:=h_ (show j=l_ l by rw[lfault_w HNR.out hf,hj])
  rw[hj]
  clear hf hj
  obtain ⟨d0,d1,d2,d3,d4,d5,d6⟩:=H1.out.c7
  go_wp2
  go_ret
  exact ⟨i_ HE.out,W1.out⟩
set_option maxHeartbeats 8000000 in
theorem rlfault_4(v:Value)(l:Ly)(w:World)(hv:IsLy w v l)(hk:l.k=4):Calls Tryz.prog 18 #[v] w fun e w'=>e=.returned (.int .i64 (l_ l))/\Below w.heap.size w w':=by
 obtain ⟨s,t,rfl,hs,ht⟩:=hv
 obtain ⟨xa,xn,xk,rfl⟩:=hs.shape
 obtain ⟨ya,yn,yk,rfl⟩:=ht.shape
 obtain ⟨k,e0⟩:=gN (l.k)
 obtain ⟨wr,e1⟩:=gN (l.w.rows)
 obtain ⟨wc,e2⟩:=gN (l.w.cols)
 obtain ⟨br,e3⟩:=gN (l.b.rows)
 obtain ⟨bc,e4⟩:=gN (l.b.cols)
 have HMW:=h_ (fun W (h:Below w.heap.size w W)=>fault_any _ l.w W ⟨_,rfl,hs.u_ h⟩)
 have HMB:=h_ (fun W (h:Below w.heap.size w W)=>fault_any _ l.b W ⟨_,rfl,ht.u_ h⟩)
 have HNW:=h_ (fun W=>none_any wr wc (.slice xa xn xk) W)
 have HNB:=h_ (fun W=>none_any br bc (.slice ya yn yk) W)
 have HNR:=h_ (show ¬(l.k<1\/4<l.k) by omega)
 obtain rfl:k=4:=by omega
 rw[e1,e2]at HMW
 rw[e3,e4]at HMB
 have HKK:=h_ hk
 have HLL:=h_ (And.intro e1 (And.intro e2 (And.intro e3 e4)))
 rw[e0,e1,e2,e3,e4]
 have HBX:=h_ (Box.new w [.int .i64 4,.int .i64 wr,.int .i64 wc,.slice xa xn xk,.int .i64 br,.int .i64 bc,.slice ya yn yk] 58 rfl)
 clear hs ht e0 e1 e2 e3 e4 hk
 go_enter Tryz.func18,Tryz.ntmps18
 go_wp2_with fail
 refine (HMW.out _ (o_ _ _)).mono ?_
 rintro e w1 ⟨rfl,hb1⟩
 have H1:=h_ (HBX.out.u_ hb1)
 have W1:=h_ (below_box (Below.refl _ _) hb1)
 clear hb1
 by_cases hf:q_ l.w=0
 ·rw[hf]
  have HFW:=h_ hf
  clear hf
  obtain ⟨d0,d1,d2,d3,d4,d5,d6⟩:=H1.out.c7
  go_wp2_with fail
  refine (HMB.out _ W1.out).mono ?_
  rintro e w2 ⟨rfl,hb2⟩
  clear d0 d1 d2 d3 d4 d5 d6
  have H2:=h_ (H1.out.u_ hb2)
  have W2:=h_ (b_ W1.out hb2)
  clear hb2
  by_cases hg:q_ l.b=0
  ·rw[hg]
   have HFB:=h_ hg
   clear hg
   by_cases hq1:wr=0/\wc=0
   ·rw[noneB_yes hq1]at HNW
    have HQ1:=h_ hq1
    clear hq1
    by_cases hq2:br=0/\bc=0
    ·rw[noneB_yes hq2]at HNB
     have HQ2:=h_ hq2
     clear hq2
     obtain ⟨d0,d1,d2,d3,d4,d5,d6⟩:=H2.out.c7
     go_wp2_with fail
     refine (HNW.out _).mono ?_
     rintro e w3 ⟨rfl,hb3⟩
     clear d0 d1 d2 d3 d4 d5 d6
     have H3:=h_ (H2.out.u_ hb3)
     obtain ⟨d0,d1,d2,d3,d4,d5,d6⟩:=H3.out.c7
     have W3:=h_ (b_ W2.out hb3)
     clear hb3
     go_wp2_with fail
     refine (HNB.out _).mono ?_
     rintro e w4 ⟨rfl,hb4⟩
     clear d0 d1 d2 d3 d4 d5 d6
     have H4:=h_ (H3.out.u_ hb4)
     obtain ⟨d0,d1,d2,d3,d4,d5,d6⟩:=H4.out.c7
     have W4:=h_ (b_ W3.out hb4)
     clear hb4
     by_cases c0:br=1
     ·have t0:(br==1)=true:=by simp[c0]
      by_cases c1:1<=bc
      ·have t1:decide (1<=bc)=true:=decide_eq_true c1
       have HE:=h_ (lfault_0 HNR.out HFW.out HFB.out (l:=l) (by rw[fitsL_4 HKK.out];exact decide_eq_true (by have h1:=HQ1.out;have h2:=HQ2.out;have h3:=HLL.out;have h4:=HKK.out;omega))).symm
       clear c0
       go_wp2
       all_goals first|(exfalso;omega)|(go_ret;exact ⟨i_ HE.out,W4.out⟩)
      ·have t1:decide (1<=bc)=false:=decide_eq_false c1
       have HE:=h_ (L_ HNR.out HFW.out HFB.out (l:=l) (by rw[fitsL_4 HKK.out];exact decide_eq_false (by have h1:=HQ1.out;have h2:=HQ2.out;have h3:=HLL.out;have h4:=HKK.out;omega))).symm
       clear c0
       go_wp2
       all_goals first|(exfalso;omega)|(go_ret;exact ⟨i_ HE.out,W4.out⟩)
     ·have t0:(br==1)=false:=by simp[c0]
      have HE:=h_ (L_ HNR.out HFW.out HFB.out (l:=l) (by rw[fitsL_4 HKK.out];exact decide_eq_false (by have h1:=HQ1.out;have h2:=HQ2.out;have h3:=HLL.out;have h4:=HKK.out;omega))).symm
      clear c0
      go_wp2
      all_goals first|(exfalso;omega)|(go_ret;exact ⟨i_ HE.out,W4.out⟩)
    ·rw[noneB_no hq2]at HNB
     have HQ2:=h_ hq2
     clear hq2
     obtain ⟨d0,d1,d2,d3,d4,d5,d6⟩:=H2.out.c7
     go_wp2_with fail
     refine (HNW.out _).mono ?_
     rintro e w3 ⟨rfl,hb3⟩
     clear d0 d1 d2 d3 d4 d5 d6
     have H3:=h_ (H2.out.u_ hb3)
     obtain ⟨d0,d1,d2,d3,d4,d5,d6⟩:=H3.out.c7
     have W3:=h_ (b_ W2.out hb3)
     clear hb3
     go_wp2_with fail
     refine (HNB.out _).mono ?_
     rintro e w4 ⟨rfl,hb4⟩
     clear d0 d1 d2 d3 d4 d5 d6
     have H4:=h_ (H3.out.u_ hb4)
     obtain ⟨d0,d1,d2,d3,d4,d5,d6⟩:=H4.out.c7
     have W4:=h_ (b_ W3.out hb4)
     clear hb4
     by_cases c0:br=1
     ·have t0:(br==1)=true:=by simp[c0]
      by_cases c1:1<=bc
      ·have t1:decide (1<=bc)=true:=decide_eq_true c1
       have HE:=h_ (lfault_0 HNR.out HFW.out HFB.out (l:=l) (by rw[fitsL_4 HKK.out];exact decide_eq_true (by have h1:=HQ1.out;have h2:=HQ2.out;have h3:=HLL.out;have h4:=HKK.out;omega))).symm
       clear c0
       go_wp2
       all_goals first|(exfalso;omega)|(go_ret;exact ⟨i_ HE.out,W4.out⟩)
      ·have t1:decide (1<=bc)=false:=decide_eq_false c1
       have HE:=h_ (L_ HNR.out HFW.out HFB.out (l:=l) (by rw[fitsL_4 HKK.out];exact decide_eq_false (by have h1:=HQ1.out;have h2:=HQ2.out;have h3:=HLL.out;have h4:=HKK.out;omega))).symm
       clear c0
       go_wp2
       all_goals first|(exfalso;omega)|(go_ret;exact ⟨i_ HE.out,W4.out⟩)
     ·have t0:(br==1)=false:=by simp[c0]
      have HE:=h_ (L_ HNR.out HFW.out HFB.out (l:=l) (by rw[fitsL_4 HKK.out];exact decide_eq_false (by have h1:=HQ1.out;have h2:=HQ2.out;have h3:=HLL.out;have h4:=HKK.out;omega))).symm
      clear c0
      go_wp2
      all_goals first|(exfalso;omega)|(go_ret;exact ⟨i_ HE.out,W4.out⟩)
   ·rw[noneB_no hq1]at HNW
    have HQ1:=h_ hq1
    clear hq1
    by_cases hq2:br=0/\bc=0
    ·rw[noneB_yes hq2]at HNB
     have HQ2:=h_ hq2
     clear hq2
     obtain ⟨d0,d1,d2,d3,d4,d5,d6⟩:=H2.out.c7
     go_wp2_with fail
     refine (HNW.out _).mono ?_
     rintro e w3 ⟨rfl,hb3⟩
     clear d0 d1 d2 d3 d4 d5 d6
     have H3:=h_ (H2.out.u_ hb3)
     obtain ⟨d0,d1,d2,d3,d4,d5,d6⟩:=H3.out.c7
     have W3:=h_ (b_ W2.out hb3)
     clear hb3
     go_wp2_with fail
     refine (HNB.out _).mono ?_
     rintro e w4 ⟨rfl,hb4⟩
     clear d0 d1 d2 d3 d4 d5 d6
     have H4:=h_ (H3.out.u_ hb4)
     obtain ⟨d0,d1,d2,d3,d4,d5,d6⟩:=H4.out.c7
     have W4:=h_ (b_ W3.out hb4)
     clear hb4
     have HE:=h_ (L_ HNR.out HFW.out HFB.out (l:=l) (by rw[fitsL_4 HKK.out];exact decide_eq_false (by have h1:=HQ1.out;have h2:=HQ2.out;have h3:=HLL.out;have h4:=HKK.out;omega))).symm
     skip
     go_wp2
     all_goals first|(exfalso;omega)|(go_ret;exact ⟨i_ HE.out,W4.out⟩)
    ·rw[noneB_no hq2]at HNB
     have HQ2:=h_ hq2
     clear hq2
     obtain ⟨d0,d1,d2,d3,d4,d5,d6⟩:=H2.out.c7
     go_wp2_with fail
     refine (HNW.out _).mono ?_
     rintro e w3 ⟨rfl,hb3⟩
     clear d0 d1 d2 d3 d4 d5 d6
     have H3:=h_ (H2.out.u_ hb3)
     obtain ⟨d0,d1,d2,d3,d4,d5,d6⟩:=H3.out.c7
     have W3:=h_ (b_ W2.out hb3)
     clear hb3
     go_wp2_with fail
     refine (HNB.out _).mono ?_
     rintro e w4 ⟨rfl,hb4⟩
     clear d0 d1 d2 d3 d4 d5 d6
     have H4:=h_ (H3.out.u_ hb4)
     obtain ⟨d0,d1,d2,d3,d4,d5,d6⟩:=H4.out.c7
     have W4:=h_ (b_ W3.out hb4)
     clear hb4
     have HE:=h_ (L_ HNR.out HFW.out HFB.out (l:=l) (by rw[fitsL_4 HKK.out];exact decide_eq_false (by have h1:=HQ1.out;have h2:=HQ2.out;have h3:=HLL.out;have h4:=HKK.out;omega))).symm
     skip
     go_wp2
     all_goals first|(exfalso;omega)|(go_ret;exact ⟨i_ HE.out,W4.out⟩)
  ·obtain ⟨j,hj⟩:=gN (q_ l.b)
   have hj0:(j==0)=false:=by rw[<-hj];simp[hg]
   have hj1:(j !=0)=true:=by rw[<-hj];simp[hg]
   have HE:=h_ (show j=l_ l by rw[lfault_b HNR.out HFW.out hg,hj])
   rw[hj]
   clear hg hj
   obtain ⟨d0,d1,d2,d3,d4,d5,d6⟩:=H2.out.c7
   go_wp2
   go_ret
   exact ⟨i_ HE.out,W2.out⟩
 ·obtain ⟨j,hj⟩:=gN (q_ l.w)
  have hj0:(j==0)=false:=by rw[<-hj];simp[hf]
  have hj1:(j !=0)=true:=by rw[<-hj];simp[hf]
  have HE:=h_ (show j=l_ l by rw[lfault_w HNR.out hf,hj])
  rw[hj]
  clear hf hj
  obtain ⟨d0,d1,d2,d3,d4,d5,d6⟩:=H1.out.c7
  go_wp2
  go_ret
  exact ⟨i_ HE.out,W1.out⟩
set_option maxHeartbeats 800000 in
theorem rlfault_any(v:Value)(l:Ly)(w:World)(hv:IsLy w v l):Calls Tryz.prog 18 #[v] w fun e w'=>e=.returned (.int .i64 (l_ l))/\Below w.heap.size w w':=by
 by_cases h1:l.k=1
 ·exact rlfault_1 v l w hv h1
 ·by_cases h2:l.k=2
  ·exact rlfault_2 v l w hv h2
  ·by_cases h3:l.k=3
   ·exact rlfault_3 v l w hv h3
   ·by_cases h4:l.k=4
    ·exact rlfault_4 v l w hv h4
    ·have HE:=h_ (lfault_k (l:=l) (by omega)).symm
     obtain ⟨s,t,rfl,hs,ht⟩:=hv
     obtain ⟨xa,xn,xk,rfl⟩:=hs.shape
     obtain ⟨ya,yn,yk,rfl⟩:=ht.shape
     obtain ⟨k,e0⟩:=gN (l.k)
     obtain ⟨wr,e1⟩:=gN (l.w.rows)
     obtain ⟨wc,e2⟩:=gN (l.w.cols)
     obtain ⟨br,e3⟩:=gN (l.b.rows)
     obtain ⟨bc,e4⟩:=gN (l.b.cols)
     rw[e0]
     have hk:k<1\/4<k:=by omega
     clear hs ht e0 e1 e2 e3 e4 h1 h2 h3 h4
     by_cases hk1:k<1
     ·clear hk
      go_enter Tryz.func18,Tryz.ntmps18
      go_wp2
      go_ret
      exact ⟨i_ HE.out,o_ _ _⟩
     ·have hk4:4<k:=by omega
      clear hk
      go_enter Tryz.func18,Tryz.ntmps18
      go_wp2
      go_ret
      exact ⟨i_ HE.out,o_ _ _⟩
end Go.Proofs.YtniloklglpchfaeGreatDoor
