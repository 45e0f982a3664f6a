/- What kindOf, wide and ready of package layer come to: what is wrong with a layer, which kind it is, how many columns come. -/
import Derived.Test.YtniloklglpchfakGreatPkLEach
namespace Go.Proofs.YtniloklglpchfakGreat
open Go.RowKit
theorem ret_two{a a' b b':Value}(h1:a=a')(h2:b=b'):Ending.returned (.tuple #[a,b])=.returned (.tuple #[a',b']):=by rw[h1,h2]
theorem ret_three{a a' b b' c c':Value}(h1:a=a')(h2:b=b')(h3:c=c'):Ending.returned (.tuple #[a,b,c])=.returned (.tuple #[a',b',c']):=by rw[h1,h2,h3]
theorem int_eq{a b:Int}(h:a=b):Value.int .i64 a=.int .i64 b:=by rw[h]
def kindR (k:Int) (T:TypeId) (v:Value):Value:=if k=0 then .iface T v else .nilIface
theorem kindR_yes{k:Int}(h:k=0)(T:TypeId)(v:Value):Value.iface T v=kindR k T v:=by unfold kindR;rw[if_pos h]
theorem K_{k:Int}(h:k≠0)(T:TypeId)(v:Value):Value.nilIface=kindR k T v:=by unfold kindR;rw[if_neg h]
theorem lfault_k{l:Ly}(h:l.k<1∨4<l.k):l_ l=1:=by unfold l_;rw[if_pos h]
theorem lfault_w{l:Ly}(h:¬(l.k<1∨4<l.k))(hw:q_ l.w≠0):l_ l=q_ l.w:=by unfold l_;rw[if_neg h,if_pos hw]
theorem lfault_b{l:Ly}(h:¬(l.k<1∨4<l.k))(hw:q_ l.w=0)(hb:q_ l.b≠0):l_ l=q_ l.b:=by unfold l_;rw[if_neg h,if_neg (by simp[hw]),if_pos hb]
theorem L_{l:Ly}(h:¬(l.k<1∨4<l.k))(hw:q_ l.w=0)(hb:q_ l.b=0)(hf:fitsL l=false):l_ l=2:=by unfold l_;rw[if_neg h,if_neg (by simp[hw]),if_neg (by simp[hb]),if_pos hf]
theorem lfault_0{l:Ly}(h:¬(l.k<1∨4<l.k))(hw:q_ l.w=0)(hb:q_ l.b=0)(hf:fitsL l=true):l_ l=0:=by unfold l_;rw[if_neg h,if_neg (by simp[hw]),if_neg (by simp[hb]),if_neg (by simp[hf])]
set_option maxHeartbeats 1600000 in
theorem kindof_linear(l:Ly){xa:Option Addr}{xn xk:Nat}{ya:Option Addr}{yn yk:Nat}(w:World)(hk:l.k=1)(hs:I_ w (.slice xa xn xk) l.w.cells)(ht:I_ w (.slice ya yn yk) l.b.cells):
  Calls Tryz.prog 97 #[.agg #[.int .i64 1,.int .i64 l.w.rows,.int .i64 l.w.cols,.slice xa xn xk,.int .i64 l.b.rows,.int .i64 l.b.cols,.slice ya yn yk]] w fun e w'=>e=.returned (.tuple #[kindR (l_ l) 202 (.agg #[.int .i64 l.w.rows,.int .i64 l.w.cols,.slice xa xn xk,.int .i64 l.b.rows,.int .i64 l.b.cols,.slice ya yn yk]),errV (l_ l)])∧Below w.heap.size w w':=by
 obtain ⟨wr,e1⟩:=gN (l.w.rows)
 obtain ⟨wc,e2⟩:=gN (l.w.cols)
 obtain ⟨br,e3⟩:=gN (l.b.rows)
 obtain ⟨bc,e4⟩:=gN (l.b.cols)
 have HMW:=h_ (fun W (h:Below w.heap.size w W)=>C_ _ l.w W ⟨_,rfl,hs.u_ h⟩)
 have HMB:=h_ (fun W (h:Below w.heap.size w W)=>C_ _ l.b W ⟨_,rfl,ht.u_ h⟩)
 have HFT:=h_ (fun W (h:Below w.heap.size w W)=>fits_linear _ l.w l.b W ⟨_,_,rfl,hs.u_ h,ht.u_ h⟩)
 have HNR:=h_ (show ¬(l.k<1∨4<l.k) by omega)
 have HFL:=h_ (fitsL_1 hk)
 rw[e1,e2]at HMW
 rw[e3,e4]at HMB
 rw[e1,e2,e3,e4]at HFT
 rw[e1,e2,e3,e4]
 have HBX:=h_ (Box.new w [.int .i64 1,.int .i64 wr,.int .i64 wc,.slice xa xn xk,.int .i64 br,.int .i64 bc,.slice ya yn yk] 83 rfl)
 have hm : ∀ W : World, (method 339 202 (.agg #[.int .i64 wr, .int .i64 wc, .slice xa xn xk, .int .i64 br, .int .i64 bc, .slice ya yn yk]) "galley/layer.fits").run Tryz.prog W = .ok (147, .agg #[.int .i64 wr, .int .i64 wc, .slice xa xn xk, .int .i64 br, .int .i64 bc, .slice ya yn yk]) W := fun _ => by kernel_rfl
 clear hs ht e1 e2 e3 e4 hk
 go_enter Tryz.func97,Tryz.ntmps97
 go_wp2_with fail
 refine (named_linear wr wc br bc xa xn xk ya yn yk _).mono ?_
 rintro e w1 ⟨rfl,hb1⟩
 have H1:=h_ (HBX.out.u_ hb1)
 have W1:=h_ (below_box (Below.refl _ _) hb1)
 clear hb1
 obtain ⟨d0,d1,d2,d3,d4,d5,d6⟩:=H1.out.c7
 go_wp2_with fail
 refine (HMW.out _ W1.out).mono ?_
 rintro e w2 ⟨rfl,hb2⟩
 clear d0 d1 d2 d3 d4 d5 d6
 have H2:=h_ (H1.out.u_ hb2)
 have W2:=h_ (b_ W1.out hb2)
 clear hb2
 obtain ⟨d0,d1,d2,d3,d4,d5,d6⟩:=H2.out.c7
 by_cases hf:q_ l.w=0
 ·rw[e_ hf]
  have HF:=h_ hf
  clear hf
  go_wp2_with fail
  refine (HMB.out _ W2.out).mono ?_
  rintro e w3 ⟨rfl,hb3⟩
  clear d0 d1 d2 d3 d4 d5 d6
  have H3:=h_ (H2.out.u_ hb3)
  have W3:=h_ (b_ W2.out hb3)
  clear hb3
  by_cases hg:q_ l.b=0
  ·rw[e_ hg]
   have HG:=h_ hg
   clear hg
   go_wp2_with fail
   refine (HFT.out _ W3.out).mono ?_
   rintro e w4 ⟨rfl,hb4⟩
   cases hfit:fits1 l.w l.b with
   |true=>
    have HL:=h_ (lfault_0 HNR.out HF.out HG.out (HFL.out.trans hfit))
    clear hfit
    go_wp2
    go_ret2
    exact ⟨ret_two (kindR_yes HL.out _ _) (by rw[HL.out];rfl),b_ W3.out hb4⟩
   |false=>
    have HL:=h_ (L_ HNR.out HF.out HG.out (HFL.out.trans hfit))
    clear hfit
    go_wp2
    go_ret2
    exact ⟨ret_two (K_ (by rw[HL.out];decide) _ _) (by rw[HL.out];rfl),b_ W3.out hb4⟩
  ·rw[n_ hg]
   have HL:=h_ (And.intro (lfault_b HNR.out HF.out hg) hg)
   obtain ⟨j,hj⟩:=gN (q_ l.b)
   rw[hj]at HL ⊢
   clear hg hj
   go_wp2
   go_ret2
   exact ⟨ret_two (K_ (by rw[HL.out.1];exact HL.out.2) _ _) (by rw[HL.out.1,n_ HL.out.2];rfl),W3.out⟩
 ·rw[n_ hf]
  have HL:=h_ (And.intro (lfault_w HNR.out hf) hf)
  obtain ⟨j,hj⟩:=gN (q_ l.w)
  rw[hj]at HL ⊢
  clear hf hj
  go_wp2
  go_ret2
  exact ⟨ret_two (K_ (by rw[HL.out.1];exact HL.out.2) _ _) (by rw[HL.out.1,n_ HL.out.2];rfl),W2.out⟩
set_option maxHeartbeats 1600000 in
theorem kindof_relu(l:Ly){xa:Option Addr}{xn xk:Nat}{ya:Option Addr}{yn yk:Nat}(w:World)(hk:l.k=2)(hs:I_ w (.slice xa xn xk) l.w.cells)(ht:I_ w (.slice ya yn yk) l.b.cells):
  Calls Tryz.prog 97 #[.agg #[.int .i64 2,.int .i64 l.w.rows,.int .i64 l.w.cols,.slice xa xn xk,.int .i64 l.b.rows,.int .i64 l.b.cols,.slice ya yn yk]] w fun e w'=>e=.returned (.tuple #[kindR (l_ l) 205 (.agg #[.int .i64 l.w.rows,.int .i64 l.w.cols,.slice xa xn xk,.int .i64 l.b.rows,.int .i64 l.b.cols,.slice ya yn yk]),errV (l_ l)])∧Below w.heap.size w w':=by
 obtain ⟨wr,e1⟩:=gN (l.w.rows)
 obtain ⟨wc,e2⟩:=gN (l.w.cols)
 obtain ⟨br,e3⟩:=gN (l.b.rows)
 obtain ⟨bc,e4⟩:=gN (l.b.cols)
 have HMW:=h_ (fun W (h:Below w.heap.size w W)=>C_ _ l.w W ⟨_,rfl,hs.u_ h⟩)
 have HMB:=h_ (fun W (h:Below w.heap.size w W)=>C_ _ l.b W ⟨_,rfl,ht.u_ h⟩)
 have HFT:=h_ (fun W (h:Below w.heap.size w W)=>fits_relu _ l.w l.b W ⟨_,_,rfl,hs.u_ h,ht.u_ h⟩)
 have HNR:=h_ (show ¬(l.k<1∨4<l.k) by omega)
 have HFL:=h_ (fitsL_2 hk)
 rw[e1,e2]at HMW
 rw[e3,e4]at HMB
 rw[e1,e2,e3,e4]at HFT
 rw[e1,e2,e3,e4]
 have HBX:=h_ (Box.new w [.int .i64 2,.int .i64 wr,.int .i64 wc,.slice xa xn xk,.int .i64 br,.int .i64 bc,.slice ya yn yk] 83 rfl)
 have hm : ∀ W : World, (method 339 205 (.agg #[.int .i64 wr, .int .i64 wc, .slice xa xn xk, .int .i64 br, .int .i64 bc, .slice ya yn yk]) "galley/layer.fits").run Tryz.prog W = .ok (165, .agg #[.int .i64 wr, .int .i64 wc, .slice xa xn xk, .int .i64 br, .int .i64 bc, .slice ya yn yk]) W := fun _ => by kernel_rfl
 clear hs ht e1 e2 e3 e4 hk
 go_enter Tryz.func97,Tryz.ntmps97
 go_wp2_with fail
 refine (named_relu wr wc br bc xa xn xk ya yn yk _).mono ?_
 rintro e w1 ⟨rfl,hb1⟩
 have H1:=h_ (HBX.out.u_ hb1)
 have W1:=h_ (below_box (Below.refl _ _) hb1)
 clear hb1
 obtain ⟨d0,d1,d2,d3,d4,d5,d6⟩:=H1.out.c7
 go_wp2_with fail
 refine (HMW.out _ W1.out).mono ?_
 rintro e w2 ⟨rfl,hb2⟩
 clear d0 d1 d2 d3 d4 d5 d6
 have H2:=h_ (H1.out.u_ hb2)
 have W2:=h_ (b_ W1.out hb2)
 clear hb2
 obtain ⟨d0,d1,d2,d3,d4,d5,d6⟩:=H2.out.c7
 by_cases hf:q_ l.w=0
 ·rw[e_ hf]
  have HF:=h_ hf
  clear hf
  go_wp2_with fail
  refine (HMB.out _ W2.out).mono ?_
  rintro e w3 ⟨rfl,hb3⟩
  clear d0 d1 d2 d3 d4 d5 d6
  have H3:=h_ (H2.out.u_ hb3)
  have W3:=h_ (b_ W2.out hb3)
  clear hb3
  by_cases hg:q_ l.b=0
  ·rw[e_ hg]
   have HG:=h_ hg
   clear hg
   go_wp2_with fail
   refine (HFT.out _ W3.out).mono ?_
   rintro e w4 ⟨rfl,hb4⟩
   cases hfit:fits2 l.w l.b with
   |true=>
    have HL:=h_ (lfault_0 HNR.out HF.out HG.out (HFL.out.trans hfit))
    clear hfit
    go_wp2
    go_ret2
    exact ⟨ret_two (kindR_yes HL.out _ _) (by rw[HL.out];rfl),b_ W3.out hb4⟩
   |false=>
    have HL:=h_ (L_ HNR.out HF.out HG.out (HFL.out.trans hfit))
    clear hfit
    go_wp2
    go_ret2
    exact ⟨ret_two (K_ (by rw[HL.out];decide) _ _) (by rw[HL.out];rfl),b_ W3.out hb4⟩
  ·rw[n_ hg]
   have HL:=h_ (And.intro (lfault_b HNR.out HF.out hg) hg)
   obtain ⟨j,hj⟩:=gN (q_ l.b)
   rw[hj]at HL ⊢
   clear hg hj
   go_wp2
   go_ret2
   exact ⟨ret_two (K_ (by rw[HL.out.1];exact HL.out.2) _ _) (by rw[HL.out.1,n_ HL.out.2];rfl),W3.out⟩
 ·rw[n_ hf]
  have HL:=h_ (And.intro (lfault_w HNR.out hf) hf)
  obtain ⟨j,hj⟩:=gN (q_ l.w)
  rw[hj]at HL ⊢
  clear hf hj
  go_wp2
  go_ret2
  exact ⟨ret_two (K_ (by rw[HL.out.1];exact HL.out.2) _ _) (by rw[HL.out.1,n_ HL.out.2];rfl),W2.out⟩
set_option maxHeartbeats 1600000 in
theorem kindof_scale(l:Ly){xa:Option Addr}{xn xk:Nat}{ya:Option Addr}{yn yk:Nat}(w:World)(hk:l.k=3)(hs:I_ w (.slice xa xn xk) l.w.cells)(ht:I_ w (.slice ya yn yk) l.b.cells):
  Calls Tryz.prog 97 #[.agg #[.int .i64 3,.int .i64 l.w.rows,.int .i64 l.w.cols,.slice xa xn xk,.int .i64 l.b.rows,.int .i64 l.b.cols,.slice ya yn yk]] w fun e w'=>e=.returned (.tuple #[kindR (l_ l) 206 (.agg #[.int .i64 l.w.rows,.int .i64 l.w.cols,.slice xa xn xk,.int .i64 l.b.rows,.int .i64 l.b.cols,.slice ya yn yk]),errV (l_ l)])∧Below w.heap.size w w':=by
 obtain ⟨wr,e1⟩:=gN (l.w.rows)
 obtain ⟨wc,e2⟩:=gN (l.w.cols)
 obtain ⟨br,e3⟩:=gN (l.b.rows)
 obtain ⟨bc,e4⟩:=gN (l.b.cols)
 have HMW:=h_ (fun W (h:Below w.heap.size w W)=>C_ _ l.w W ⟨_,rfl,hs.u_ h⟩)
 have HMB:=h_ (fun W (h:Below w.heap.size w W)=>C_ _ l.b W ⟨_,rfl,ht.u_ h⟩)
 have HFT:=h_ (fun W (h:Below w.heap.size w W)=>fits_scale _ l.w l.b W ⟨_,_,rfl,hs.u_ h,ht.u_ h⟩)
 have HNR:=h_ (show ¬(l.k<1∨4<l.k) by omega)
 have HFL:=h_ (fitsL_3 hk)
 rw[e1,e2]at HMW
 rw[e3,e4]at HMB
 rw[e1,e2,e3,e4]at HFT
 rw[e1,e2,e3,e4]
 have HBX:=h_ (Box.new w [.int .i64 3,.int .i64 wr,.int .i64 wc,.slice xa xn xk,.int .i64 br,.int .i64 bc,.slice ya yn yk] 83 rfl)
 have hm : ∀ W : World, (method 339 206 (.agg #[.int .i64 wr, .int .i64 wc, .slice xa xn xk, .int .i64 br, .int .i64 bc, .slice ya yn yk]) "galley/layer.fits").run Tryz.prog W = .ok (170, .agg #[.int .i64 wr, .int .i64 wc, .slice xa xn xk, .int .i64 br, .int .i64 bc, .slice ya yn yk]) W := fun _ => by kernel_rfl
 clear hs ht e1 e2 e3 e4 hk
 go_enter Tryz.func97,Tryz.ntmps97
 go_wp2_with fail
 refine (named_scale wr wc br bc xa xn xk ya yn yk _).mono ?_
 rintro e w1 ⟨rfl,hb1⟩
 have H1:=h_ (HBX.out.u_ hb1)
 have W1:=h_ (below_box (Below.refl _ _) hb1)
 clear hb1
 obtain ⟨d0,d1,d2,d3,d4,d5,d6⟩:=H1.out.c7
 go_wp2_with fail
 refine (HMW.out _ W1.out).mono ?_
 rintro e w2 ⟨rfl,hb2⟩
 clear d0 d1 d2 d3 d4 d5 d6
 have H2:=h_ (H1.out.u_ hb2)
 have W2:=h_ (b_ W1.out hb2)
 clear hb2
 obtain ⟨d0,d1,d2,d3,d4,d5,d6⟩:=H2.out.c7
 by_cases hf:q_ l.w=0
 ·rw[e_ hf]
  have HF:=h_ hf
  clear hf
  go_wp2_with fail
  refine (HMB.out _ W2.out).mono ?_
  rintro e w3 ⟨rfl,hb3⟩
  clear d0 d1 d2 d3 d4 d5 d6
  have H3:=h_ (H2.out.u_ hb3)
  have W3:=h_ (b_ W2.out hb3)
  clear hb3
  by_cases hg:q_ l.b=0
  ·rw[e_ hg]
   have HG:=h_ hg
   clear hg
   go_wp2_with fail
   refine (HFT.out _ W3.out).mono ?_
   rintro e w4 ⟨rfl,hb4⟩
   cases hfit:fits3 l.w l.b with
   |true=>
    have HL:=h_ (lfault_0 HNR.out HF.out HG.out (HFL.out.trans hfit))
    clear hfit
    go_wp2
    go_ret2
    exact ⟨ret_two (kindR_yes HL.out _ _) (by rw[HL.out];rfl),b_ W3.out hb4⟩
   |false=>
    have HL:=h_ (L_ HNR.out HF.out HG.out (HFL.out.trans hfit))
    clear hfit
    go_wp2
    go_ret2
    exact ⟨ret_two (K_ (by rw[HL.out];decide) _ _) (by rw[HL.out];rfl),b_ W3.out hb4⟩
  ·rw[n_ hg]
   have HL:=h_ (And.intro (lfault_b HNR.out HF.out hg) hg)
   obtain ⟨j,hj⟩:=gN (q_ l.b)
   rw[hj]at HL ⊢
   clear hg hj
   go_wp2
   go_ret2
   exact ⟨ret_two (K_ (by rw[HL.out.1];exact HL.out.2) _ _) (by rw[HL.out.1,n_ HL.out.2];rfl),W3.out⟩
 ·rw[n_ hf]
  have HL:=h_ (And.intro (lfault_w HNR.out hf) hf)
  obtain ⟨j,hj⟩:=gN (q_ l.w)
  rw[hj]at HL ⊢
  clear hf hj
  go_wp2
  go_ret2
  exact ⟨ret_two (K_ (by rw[HL.out.1];exact HL.out.2) _ _) (by rw[HL.out.1,n_ HL.out.2];rfl),W2.out⟩
set_option maxHeartbeats 1600000 in
theorem kindof_shift(l:Ly){xa:Option Addr}{xn xk:Nat}{ya:Option Addr}{yn yk:Nat}(w:World)(hk:l.k=4)(hs:I_ w (.slice xa xn xk) l.w.cells)(ht:I_ w (.slice ya yn yk) l.b.cells):
  Calls Tryz.prog 97 #[.agg #[.int .i64 4,.int .i64 l.w.rows,.int .i64 l.w.cols,.slice xa xn xk,.int .i64 l.b.rows,.int .i64 l.b.cols,.slice ya yn yk]] w fun e w'=>e=.returned (.tuple #[kindR (l_ l) 207 (.agg #[.int .i64 l.w.rows,.int .i64 l.w.cols,.slice xa xn xk,.int .i64 l.b.rows,.int .i64 l.b.cols,.slice ya yn yk]),errV (l_ l)])∧Below w.heap.size w w':=by
 obtain ⟨wr,e1⟩:=gN (l.w.rows)
 obtain ⟨wc,e2⟩:=gN (l.w.cols)
 obtain ⟨br,e3⟩:=gN (l.b.rows)
 obtain ⟨bc,e4⟩:=gN (l.b.cols)
 have HMW:=h_ (fun W (h:Below w.heap.size w W)=>C_ _ l.w W ⟨_,rfl,hs.u_ h⟩)
 have HMB:=h_ (fun W (h:Below w.heap.size w W)=>C_ _ l.b W ⟨_,rfl,ht.u_ h⟩)
 have HFT:=h_ (fun W (h:Below w.heap.size w W)=>fits_shift _ l.w l.b W ⟨_,_,rfl,hs.u_ h,ht.u_ h⟩)
 have HNR:=h_ (show ¬(l.k<1∨4<l.k) by omega)
 have HFL:=h_ (fitsL_4 hk)
 rw[e1,e2]at HMW
 rw[e3,e4]at HMB
 rw[e1,e2,e3,e4]at HFT
 rw[e1,e2,e3,e4]
 have HBX:=h_ (Box.new w [.int .i64 4,.int .i64 wr,.int .i64 wc,.slice xa xn xk,.int .i64 br,.int .i64 bc,.slice ya yn yk] 83 rfl)
 have hm : ∀ W : World, (method 339 207 (.agg #[.int .i64 wr, .int .i64 wc, .slice xa xn xk, .int .i64 br, .int .i64 bc, .slice ya yn yk]) "galley/layer.fits").run Tryz.prog W = .ok (175, .agg #[.int .i64 wr, .int .i64 wc, .slice xa xn xk, .int .i64 br, .int .i64 bc, .slice ya yn yk]) W := fun _ => by kernel_rfl
 clear hs ht e1 e2 e3 e4 hk
 go_enter Tryz.func97,Tryz.ntmps97
 go_wp2_with fail
 refine (named_shift wr wc br bc xa xn xk ya yn yk _).mono ?_
 rintro e w1 ⟨rfl,hb1⟩
 have H1:=h_ (HBX.out.u_ hb1)
 have W1:=h_ (below_box (Below.refl _ _) hb1)
 clear hb1
 obtain ⟨d0,d1,d2,d3,d4,d5,d6⟩:=H1.out.c7
 go_wp2_with fail
 refine (HMW.out _ W1.out).mono ?_
 rintro e w2 ⟨rfl,hb2⟩
 clear d0 d1 d2 d3 d4 d5 d6
 have H2:=h_ (H1.out.u_ hb2)
 have W2:=h_ (b_ W1.out hb2)
 clear hb2
 obtain ⟨d0,d1,d2,d3,d4,d5,d6⟩:=H2.out.c7
 by_cases hf:q_ l.w=0
 ·rw[e_ hf]
  have HF:=h_ hf
  clear hf
  go_wp2_with fail
  refine (HMB.out _ W2.out).mono ?_
  rintro e w3 ⟨rfl,hb3⟩
  clear d0 d1 d2 d3 d4 d5 d6
  have H3:=h_ (H2.out.u_ hb3)
  have W3:=h_ (b_ W2.out hb3)
  clear hb3
  by_cases hg:q_ l.b=0
  ·rw[e_ hg]
   have HG:=h_ hg
   clear hg
   go_wp2_with fail
   refine (HFT.out _ W3.out).mono ?_
   rintro e w4 ⟨rfl,hb4⟩
   cases hfit:fits4 l.w l.b with
   |true=>
    have HL:=h_ (lfault_0 HNR.out HF.out HG.out (HFL.out.trans hfit))
    clear hfit
    go_wp2
    go_ret2
    exact ⟨ret_two (kindR_yes HL.out _ _) (by rw[HL.out];rfl),b_ W3.out hb4⟩
   |false=>
    have HL:=h_ (L_ HNR.out HF.out HG.out (HFL.out.trans hfit))
    clear hfit
    go_wp2
    go_ret2
    exact ⟨ret_two (K_ (by rw[HL.out];decide) _ _) (by rw[HL.out];rfl),b_ W3.out hb4⟩
  ·rw[n_ hg]
   have HL:=h_ (And.intro (lfault_b HNR.out HF.out hg) hg)
   obtain ⟨j,hj⟩:=gN (q_ l.b)
   rw[hj]at HL ⊢
   clear hg hj
   go_wp2
   go_ret2
   exact ⟨ret_two (K_ (by rw[HL.out.1];exact HL.out.2) _ _) (by rw[HL.out.1,n_ HL.out.2];rfl),W3.out⟩
 ·rw[n_ hf]
  have HL:=h_ (And.intro (lfault_w HNR.out hf) hf)
  obtain ⟨j,hj⟩:=gN (q_ l.w)
  rw[hj]at HL ⊢
  clear hf hj
  go_wp2
  go_ret2
  exact ⟨ret_two (K_ (by rw[HL.out.1];exact HL.out.2) _ _) (by rw[HL.out.1,n_ HL.out.2];rfl),W2.out⟩
set_option maxHeartbeats 400000 in
theorem kindof_none(k:Int)(wr wc br bc:Int)(xa:Option Addr)(xn xk:Nat)(ya:Option Addr)(yn yk:Nat)(w:World)(hk:k<1∨4<k):
  Calls Tryz.prog 97 #[.agg #[.int .i64 k,.int .i64 wr,.int .i64 wc,.slice xa xn xk,.int .i64 br,.int .i64 bc,.slice ya yn yk]] w fun e w'=>e=.returned (.tuple #[.nilIface,errV 1])∧Below w.heap.size w w':=by
 have HN:=h_ (fun W=>named_none k wr wc br bc xa xn xk ya yn yk W hk)
 clear hk
 go_enter Tryz.func97,Tryz.ntmps97
 go_wp2_with fail
 refine (HN.out _).mono ?_
 rintro e w1 ⟨rfl,hb1⟩
 go_wp2
 go_ret2
 exact ⟨rfl,below_box (Below.refl _ _) hb1⟩
def w0E (l:Ly) (n:Int):Int:=if n<0∨12<n then 1 else if takesL l n=false then 2 else 0
def w0X (l:Ly) (n:Int):Int:=if w0E l n=0 then g_ l n else 0
theorem w0X_no{l:Ly}{n:Int}(h:w0E l n≠0):0=w0X l n:=by unfold w0X;rw[if_neg h]
theorem w0X_yes{l:Ly}{n x:Int}(h:w0E l n=0)(hx:x=g_ l n):x=w0X l n:=by unfold w0X;rw[if_pos h];exact hx
theorem w0E_1{l:Ly}{n:Int}(h:n<0∨12<n):w0E l n=1:=by unfold w0E;rw[if_pos h]
theorem w0E_2{l:Ly}{n:Int}(h:¬(n<0∨12<n))(ht:takesL l n=false):w0E l n=2:=by unfold w0E;rw[if_neg h,if_pos ht]
theorem w0E_0{l:Ly}{n:Int}(h:¬(n<0∨12<n))(ht:takesL l n=true):w0E l n=0:=by unfold w0E;rw[if_neg h,if_neg (by simp[ht])]
set_option maxHeartbeats 800000 in
theorem wide_linear(l:Ly)(n:Int)(wr wc br bc:Int)(xa:Option Addr)(xn xk:Nat)(ya:Option Addr)(yn yk:Nat)(w:World)(hk:l.k=1)(e1:l.w.rows=wr)(e2:l.w.cols=wc)(_e4:l.b.cols=bc):
  Calls Tryz.prog 98 #[.iface 202 (.agg #[.int .i64 wr,.int .i64 wc,.slice xa xn xk,.int .i64 br,.int .i64 bc,.slice ya yn yk]),.int .i64 n] w fun e w'=>e=.returned (.tuple #[.int .i64 (w0X l n),errV (w0E l n)])∧Below w.heap.size w w':=by
 have ht : ∀ W : World, (method 339 202 (.agg #[.int .i64 wr, .int .i64 wc, .slice xa xn xk, .int .i64 br, .int .i64 bc, .slice ya yn yk]) "galley/layer.takes").run Tryz.prog W = .ok (150, .agg #[.int .i64 wr, .int .i64 wc, .slice xa xn xk, .int .i64 br, .int .i64 bc, .slice ya yn yk]) W := fun _ => by kernel_rfl
 have hg : ∀ W : World, (method 339 202 (.agg #[.int .i64 wr, .int .i64 wc, .slice xa xn xk, .int .i64 br, .int .i64 bc, .slice ya yn yk]) "galley/layer.gives").run Tryz.prog W = .ok (149, .agg #[.int .i64 wr, .int .i64 wc, .slice xa xn xk, .int .i64 br, .int .i64 bc, .slice ya yn yk]) W := fun _ => by kernel_rfl
 by_cases h0:n<0
 ·have HE:=h_ (w0E_1 (l:=l) (n:=n) (.inl h0))
  clear hk e1 e2 _e4
  go_enter Tryz.func98,Tryz.ntmps98
  go_wp2
  go_ret2
  exact ⟨ret_two (int_eq (w0X_no (by rw[HE.out];decide))) (by rw[HE.out];rfl),Below.refl _ _⟩
 ·by_cases h1:12<n
  ·have HE:=h_ (w0E_1 (l:=l) (n:=n) (.inr h1))
   clear hk e1 e2 _e4
   go_enter Tryz.func98,Tryz.ntmps98
   go_wp2
   go_ret2
   exact ⟨ret_two (int_eq (w0X_no (by rw[HE.out];decide))) (by rw[HE.out];rfl),Below.refl _ _⟩
  ·have HT:=h_ (fun W=>takes_linear_any n wr wc br bc xa xn xk ya yn yk W)
   have HV:=h_ (fun W=>gives_linear_any n wr wc br bc xa xn xk ya yn yk W)
   have HGV:=h_ (show wc=g_ l n by unfold g_;rw[if_pos hk];exact e2.symm)
   by_cases hn:n=wr
   ·rw[show (n==wr)=true by simp[hn]]at HT
    have HE:=h_ (w0E_0 (l:=l) (n:=n) (by omega) (by unfold takesL;rw[if_pos hk];exact decide_eq_true (by rw[e1];exact hn)))
    have HX:=h_ (w0X_yes (x:=wc) HE.out HGV.out)
    clear hk e1 e2 _e4 hn
    go_enter Tryz.func98,Tryz.ntmps98
    go_wp2_with fail
    refine (HT.out _).mono ?_
    rintro e w1 ⟨rfl,hb1⟩
    go_wp2_with fail
    refine (HV.out _).mono ?_
    rintro e w2 ⟨rfl,hb2⟩
    go_wp2
    go_ret2
    exact ⟨ret_two (int_eq HX.out) (by rw[HE.out];rfl),b_ hb1 hb2⟩
   ·rw[show (n==wr)=false by simp[hn]]at HT
    have HE:=h_ (w0E_2 (l:=l) (n:=n) (by omega) (by unfold takesL;rw[if_pos hk];exact decide_eq_false (by rw[e1];exact hn)))
    clear hk e1 e2 _e4 hn
    go_enter Tryz.func98,Tryz.ntmps98
    go_wp2_with fail
    refine (HT.out _).mono ?_
    rintro e w1 ⟨rfl,hb1⟩
    go_wp2
    go_ret2
    exact ⟨ret_two (int_eq (w0X_no (by rw[HE.out];decide))) (by rw[HE.out];rfl),hb1⟩
set_option maxHeartbeats 800000 in
theorem wide_relu(l:Ly)(n:Int)(wr wc br bc:Int)(xa:Option Addr)(xn xk:Nat)(ya:Option Addr)(yn yk:Nat)(w:World)(hk:l.k=2)(_e1:l.w.rows=wr)(_e2:l.w.cols=wc)(_e4:l.b.cols=bc):
  Calls Tryz.prog 98 #[.iface 205 (.agg #[.int .i64 wr,.int .i64 wc,.slice xa xn xk,.int .i64 br,.int .i64 bc,.slice ya yn yk]),.int .i64 n] w fun e w'=>e=.returned (.tuple #[.int .i64 (w0X l n),errV (w0E l n)])∧Below w.heap.size w w':=by
 have ht : ∀ W : World, (method 339 205 (.agg #[.int .i64 wr, .int .i64 wc, .slice xa xn xk, .int .i64 br, .int .i64 bc, .slice ya yn yk]) "galley/layer.takes").run Tryz.prog W = .ok (163, .agg #[.int .i64 wr, .int .i64 wc, .slice xa xn xk, .int .i64 br, .int .i64 bc, .slice ya yn yk]) W := fun _ => by kernel_rfl
 have hg : ∀ W : World, (method 339 205 (.agg #[.int .i64 wr, .int .i64 wc, .slice xa xn xk, .int .i64 br, .int .i64 bc, .slice ya yn yk]) "galley/layer.gives").run Tryz.prog W = .ok (162, .agg #[.int .i64 wr, .int .i64 wc, .slice xa xn xk, .int .i64 br, .int .i64 bc, .slice ya yn yk]) W := fun _ => by kernel_rfl
 by_cases h0:n<0
 ·have HE:=h_ (w0E_1 (l:=l) (n:=n) (.inl h0))
  clear hk _e1 _e2 _e4
  go_enter Tryz.func98,Tryz.ntmps98
  go_wp2
  go_ret2
  exact ⟨ret_two (int_eq (w0X_no (by rw[HE.out];decide))) (by rw[HE.out];rfl),Below.refl _ _⟩
 ·by_cases h1:12<n
  ·have HE:=h_ (w0E_1 (l:=l) (n:=n) (.inr h1))
   clear hk _e1 _e2 _e4
   go_enter Tryz.func98,Tryz.ntmps98
   go_wp2
   go_ret2
   exact ⟨ret_two (int_eq (w0X_no (by rw[HE.out];decide))) (by rw[HE.out];rfl),Below.refl _ _⟩
  ·have HT:=h_ (fun W=>takes_keeper_any n wr wc br bc xa xn xk ya yn yk W)
   have HV:=h_ (fun W=>gives_keeper_any n wr wc br bc xa xn xk ya yn yk W)
   have HGV:=h_ (show n=g_ l n by unfold g_;rw[if_neg (by omega)])
   have HE:=h_ (w0E_0 (l:=l) (n:=n) (by omega) (by unfold takesL;rw[if_neg (by omega),if_neg (by omega)]))
   have HX:=h_ (w0X_yes (x:=n) HE.out HGV.out)
   clear hk _e1 _e2 _e4
   go_enter Tryz.func98,Tryz.ntmps98
   go_wp2_with fail
   refine (HT.out _).mono ?_
   rintro e w1 ⟨rfl,hb1⟩
   go_wp2_with fail
   refine (HV.out _).mono ?_
   rintro e w2 ⟨rfl,hb2⟩
   go_wp2
   go_ret2
   exact ⟨ret_two (int_eq HX.out) (by rw[HE.out];rfl),b_ hb1 hb2⟩
set_option maxHeartbeats 800000 in
theorem wide_scale(l:Ly)(n:Int)(wr wc br bc:Int)(xa:Option Addr)(xn xk:Nat)(ya:Option Addr)(yn yk:Nat)(w:World)(hk:l.k=3)(_e1:l.w.rows=wr)(_e2:l.w.cols=wc)(_e4:l.b.cols=bc):
  Calls Tryz.prog 98 #[.iface 206 (.agg #[.int .i64 wr,.int .i64 wc,.slice xa xn xk,.int .i64 br,.int .i64 bc,.slice ya yn yk]),.int .i64 n] w fun e w'=>e=.returned (.tuple #[.int .i64 (w0X l n),errV (w0E l n)])∧Below w.heap.size w w':=by
 have ht : ∀ W : World, (method 339 206 (.agg #[.int .i64 wr, .int .i64 wc, .slice xa xn xk, .int .i64 br, .int .i64 bc, .slice ya yn yk]) "galley/layer.takes").run Tryz.prog W = .ok (163, .agg #[.int .i64 wr, .int .i64 wc, .slice xa xn xk, .int .i64 br, .int .i64 bc, .slice ya yn yk]) W := fun _ => by kernel_rfl
 have hg : ∀ W : World, (method 339 206 (.agg #[.int .i64 wr, .int .i64 wc, .slice xa xn xk, .int .i64 br, .int .i64 bc, .slice ya yn yk]) "galley/layer.gives").run Tryz.prog W = .ok (162, .agg #[.int .i64 wr, .int .i64 wc, .slice xa xn xk, .int .i64 br, .int .i64 bc, .slice ya yn yk]) W := fun _ => by kernel_rfl
 by_cases h0:n<0
 ·have HE:=h_ (w0E_1 (l:=l) (n:=n) (.inl h0))
  clear hk _e1 _e2 _e4
  go_enter Tryz.func98,Tryz.ntmps98
  go_wp2
  go_ret2
  exact ⟨ret_two (int_eq (w0X_no (by rw[HE.out];decide))) (by rw[HE.out];rfl),Below.refl _ _⟩
 ·by_cases h1:12<n
  ·have HE:=h_ (w0E_1 (l:=l) (n:=n) (.inr h1))
   clear hk _e1 _e2 _e4
   go_enter Tryz.func98,Tryz.ntmps98
   go_wp2
   go_ret2
   exact ⟨ret_two (int_eq (w0X_no (by rw[HE.out];decide))) (by rw[HE.out];rfl),Below.refl _ _⟩
  ·have HT:=h_ (fun W=>takes_keeper_any n wr wc br bc xa xn xk ya yn yk W)
   have HV:=h_ (fun W=>gives_keeper_any n wr wc br bc xa xn xk ya yn yk W)
   have HGV:=h_ (show n=g_ l n by unfold g_;rw[if_neg (by omega)])
   have HE:=h_ (w0E_0 (l:=l) (n:=n) (by omega) (by unfold takesL;rw[if_neg (by omega),if_neg (by omega)]))
   have HX:=h_ (w0X_yes (x:=n) HE.out HGV.out)
   clear hk _e1 _e2 _e4
   go_enter Tryz.func98,Tryz.ntmps98
   go_wp2_with fail
   refine (HT.out _).mono ?_
   rintro e w1 ⟨rfl,hb1⟩
   go_wp2_with fail
   refine (HV.out _).mono ?_
   rintro e w2 ⟨rfl,hb2⟩
   go_wp2
   go_ret2
   exact ⟨ret_two (int_eq HX.out) (by rw[HE.out];rfl),b_ hb1 hb2⟩
set_option maxHeartbeats 800000 in
theorem wide_shift(l:Ly)(n:Int)(wr wc br bc:Int)(xa:Option Addr)(xn xk:Nat)(ya:Option Addr)(yn yk:Nat)(w:World)(hk:l.k=4)(_e1:l.w.rows=wr)(_e2:l.w.cols=wc)(e4:l.b.cols=bc):
  Calls Tryz.prog 98 #[.iface 207 (.agg #[.int .i64 wr,.int .i64 wc,.slice xa xn xk,.int .i64 br,.int .i64 bc,.slice ya yn yk]),.int .i64 n] w fun e w'=>e=.returned (.tuple #[.int .i64 (w0X l n),errV (w0E l n)])∧Below w.heap.size w w':=by
 have ht : ∀ W : World, (method 339 207 (.agg #[.int .i64 wr, .int .i64 wc, .slice xa xn xk, .int .i64 br, .int .i64 bc, .slice ya yn yk]) "galley/layer.takes").run Tryz.prog W = .ok (177, .agg #[.int .i64 wr, .int .i64 wc, .slice xa xn xk, .int .i64 br, .int .i64 bc, .slice ya yn yk]) W := fun _ => by kernel_rfl
 have hg : ∀ W : World, (method 339 207 (.agg #[.int .i64 wr, .int .i64 wc, .slice xa xn xk, .int .i64 br, .int .i64 bc, .slice ya yn yk]) "galley/layer.gives").run Tryz.prog W = .ok (162, .agg #[.int .i64 wr, .int .i64 wc, .slice xa xn xk, .int .i64 br, .int .i64 bc, .slice ya yn yk]) W := fun _ => by kernel_rfl
 by_cases h0:n<0
 ·have HE:=h_ (w0E_1 (l:=l) (n:=n) (.inl h0))
  clear hk _e1 _e2 e4
  go_enter Tryz.func98,Tryz.ntmps98
  go_wp2
  go_ret2
  exact ⟨ret_two (int_eq (w0X_no (by rw[HE.out];decide))) (by rw[HE.out];rfl),Below.refl _ _⟩
 ·by_cases h1:12<n
  ·have HE:=h_ (w0E_1 (l:=l) (n:=n) (.inr h1))
   clear hk _e1 _e2 e4
   go_enter Tryz.func98,Tryz.ntmps98
   go_wp2
   go_ret2
   exact ⟨ret_two (int_eq (w0X_no (by rw[HE.out];decide))) (by rw[HE.out];rfl),Below.refl _ _⟩
  ·have HT:=h_ (fun W=>takes_shift_any n wr wc br bc xa xn xk ya yn yk W)
   have HV:=h_ (fun W=>gives_keeper_any n wr wc br bc xa xn xk ya yn yk W)
   have HGV:=h_ (show n=g_ l n by unfold g_;rw[if_neg (by omega)])
   by_cases hn:n=bc
   ·rw[show (n==bc)=true by simp[hn]]at HT
    have HE:=h_ (w0E_0 (l:=l) (n:=n) (by omega) (by unfold takesL;rw[if_neg (by omega),if_pos hk];exact decide_eq_true (by rw[e4];exact hn)))
    have HX:=h_ (w0X_yes (x:=n) HE.out HGV.out)
    clear hk _e1 _e2 e4 hn
    go_enter Tryz.func98,Tryz.ntmps98
    go_wp2_with fail
    refine (HT.out _).mono ?_
    rintro e w1 ⟨rfl,hb1⟩
    go_wp2_with fail
    refine (HV.out _).mono ?_
    rintro e w2 ⟨rfl,hb2⟩
    go_wp2
    go_ret2
    exact ⟨ret_two (int_eq HX.out) (by rw[HE.out];rfl),b_ hb1 hb2⟩
   ·rw[show (n==bc)=false by simp[hn]]at HT
    have HE:=h_ (w0E_2 (l:=l) (n:=n) (by omega) (by unfold takesL;rw[if_neg (by omega),if_pos hk];exact decide_eq_false (by rw[e4];exact hn)))
    clear hk _e1 _e2 e4 hn
    go_enter Tryz.func98,Tryz.ntmps98
    go_wp2_with fail
    refine (HT.out _).mono ?_
    rintro e w1 ⟨rfl,hb1⟩
    go_wp2
    go_ret2
    exact ⟨ret_two (int_eq (w0X_no (by rw[HE.out];decide))) (by rw[HE.out];rfl),hb1⟩
theorem goE_l{l:Ly}{x:Mx}(h:l_ l≠0):goE l x=l_ l:=by unfold goE;rw[if_pos h]
theorem goE_x{l:Ly}{x:Mx}(h:l_ l=0)(hx:q_ x≠0):goE l x=q_ x:=by unfold goE;rw[if_neg (by simp[h]),if_pos hx]
theorem goE_w{l:Ly}{x:Mx}(h:l_ l=0)(hx:q_ x=0):goE l x=w0E l x.cols:=by
 obtain ⟨R,C,g⟩:=o__ hx
 have hc:=g.c
 have hC:=g.hC
 unfold goE w0E;rw[if_neg (by simp[h]),if_neg (by simp[hx]),if_neg (show ¬(x.cols<0∨12<x.cols) by omega)]
def goW (l:Ly) (x:Mx):Int:=if goE l x=0 then g_ l x.cols else 0
theorem goW_no{l:Ly}{x:Mx}(h:goE l x≠0):0=goW l x:=by unfold goW;rw[if_neg h]
theorem goW_w{l:Ly}{x:Mx}(h:l_ l=0)(hx:q_ x=0):w0X l x.cols=goW l x:=by unfold w0X goW;rw[goE_w h hx]
set_option maxHeartbeats 1600000 in
theorem ready_kind(k:Int)(Ty:Nat)(l:Ly){xa:Option Addr}{xn xk:Nat}{ya:Option Addr}{yn yk:Nat}(x:Mx)(vx:Value)(w:World)(hx:M_ w vx x)(hK:∀W:World,Below w.heap.size w W→Calls Tryz.prog 97 #[.agg #[.int .i64 k,.int .i64 l.w.rows,.int .i64 l.w.cols,.slice xa xn xk,.int .i64 l.b.rows,.int .i64 l.b.cols,.slice ya yn yk]] W fun e w'=>e=.returned (.tuple #[kindR (l_ l) Ty (.agg #[.int .i64 l.w.rows,.int .i64 l.w.cols,.slice xa xn xk,.int .i64 l.b.rows,.int .i64 l.b.cols,.slice ya yn yk]),errV (l_ l)])∧Below W.heap.size W w')(hW:∀(n:Int) (W:World),Calls Tryz.prog 98 #[.iface Ty (.agg #[.int .i64 l.w.rows,.int .i64 l.w.cols,.slice xa xn xk,.int .i64 l.b.rows,.int .i64 l.b.cols,.slice ya yn yk]),.int .i64 n] W fun e w'=>e=.returned (.tuple #[.int .i64 (w0X l n),errV (w0E l n)])∧Below W.heap.size W w'):
  Calls Tryz.prog 63 #[.agg #[.int .i64 k,.int .i64 l.w.rows,.int .i64 l.w.cols,.slice xa xn xk,.int .i64 l.b.rows,.int .i64 l.b.cols,.slice ya yn yk],vx] w fun e w'=>e=.returned (.tuple #[kindR (goE l x) Ty (.agg #[.int .i64 l.w.rows,.int .i64 l.w.cols,.slice xa xn xk,.int .i64 l.b.rows,.int .i64 l.b.cols,.slice ya yn yk]),.int .i64 (goW l x),errV (goE l x)])∧Below w.heap.size w w':=by
 obtain ⟨sx,rfl,hsx⟩:=hx
 obtain ⟨za,zn,zk,rfl⟩:=hsx.shape
 obtain ⟨wr,e1⟩:=gN (l.w.rows)
 obtain ⟨wc,e2⟩:=gN (l.w.cols)
 obtain ⟨br,e3⟩:=gN (l.b.rows)
 obtain ⟨bc,e4⟩:=gN (l.b.cols)
 obtain ⟨r,e5⟩:=gN (x.rows)
 obtain ⟨c,e6⟩:=gN (x.cols)
 have HK:=h_ hK
 have HX:=h_ (fun W (h:Below w.heap.size w W)=>C_ _ x W ⟨_,rfl,hsx.u_ h⟩)
 have HWD:=h_ (hW c)
 have HC:=h_ e6
 rw[e1,e2,e3,e4]at HK HWD
 rw[e5,e6]at HX
 rw[e1,e2,e3,e4,e5,e6]
 have HB2:=h_ (Box.new (w.alloc (.cells #[.int .i64 k,.int .i64 wr,.int .i64 wc,.slice xa xn xk,.int .i64 br,.int .i64 bc,.slice ya yn yk] 83)) [.int .i64 r,.int .i64 c,.slice za zn zk] 28 (B:=w.heap.size+1) (by simp))
 clear hsx e1 e2 e3 e4 e5 e6
 go_enter Tryz.func63,Tryz.ntmps63
 go_wp2_with fail
 refine (HK.out _ (b_ (o_ _ _) (o_ _ _))).mono ?_
 rintro e w1 ⟨rfl,hb1⟩
 have H1:=h_ (HB2.out.u_ hb1)
 have W1:=h_ (b_ (b_ (o_ _ _) (o_ _ _)) hb1)
 clear hb1
 by_cases hl:l_ l=0
 ·rw[←kindR_yes hl,e_ hl]
  have HL:=h_ hl
  clear hl
  obtain ⟨d0,d1,d2⟩:=H1.out.c3
  go_wp2_with fail
  refine (HX.out _ W1.out).mono ?_
  rintro e w2 ⟨rfl,hb2⟩
  clear d0 d1 d2
  have H2:=h_ (H1.out.u_ hb2)
  have W2:=h_ (b_ W1.out hb2)
  clear hb2
  by_cases hx:q_ x=0
  ·rw[e_ hx]
   have HQ:=h_ hx
   clear hx
   obtain ⟨d0,d1,d2⟩:=H2.out.c3
   go_wp2_with fail
   refine (HWD.out _).mono ?_
   rintro e w3 ⟨rfl,hb3⟩
   have W3:=h_ (b_ W2.out hb3)
   have HG:=h_ (show w0E l c=goE l x by rw[goE_w HL.out HQ.out,HC.out])
   have HV:=h_ (show w0X l c=goW l x by rw[←goW_w HL.out HQ.out,HC.out])
   clear hb3
   by_cases hg:w0E l c=0
   ·rw[e_ hg]
    have HGG:=h_ hg
    clear hg
    go_wp2
    go_ret3
    exact ⟨ret_three (kindR_yes (by rw[←HG.out];exact HGG.out) _ _) (int_eq HV.out) (by rw[←HG.out,HGG.out];rfl),W3.out⟩
   ·rw[n_ hg]
    have HGG:=h_ hg
    obtain ⟨j,hj⟩:=gN (w0E l c)
    rw[hj]at HG HGG ⊢
    clear hg hj
    go_wp2
    go_ret3
    exact ⟨ret_three (K_ (by rw[←HG.out];exact HGG.out) _ _) (int_eq (goW_no (by rw[←HG.out];exact HGG.out))) (by rw[←HG.out,n_ HGG.out];rfl),W3.out⟩
  ·rw[n_ hx]
   have HG:=h_ (And.intro (goE_x HL.out hx) hx)
   obtain ⟨j,hj⟩:=gN (q_ x)
   rw[hj]at HG ⊢
   clear hx hj
   go_wp2
   go_ret3
   exact ⟨ret_three (K_ (by rw[HG.out.1];exact HG.out.2) _ _) (int_eq (goW_no (by rw[HG.out.1];exact HG.out.2))) (by rw[HG.out.1,n_ HG.out.2];rfl),W2.out⟩
 ·rw[←K_ hl,n_ hl]
  have HG:=h_ (And.intro (goE_l (x:=x) hl) hl)
  obtain ⟨j,hj⟩:=gN (l_ l)
  rw[hj]at HG ⊢
  clear hl hj
  go_wp2
  go_ret3
  exact ⟨ret_three (K_ (by rw[HG.out.1];exact HG.out.2) _ _) (int_eq (goW_no (by rw[HG.out.1];exact HG.out.2))) (by rw[HG.out.1,n_ HG.out.2];rfl),W1.out⟩
theorem ready_linear(l:Ly){xa:Option Addr}{xn xk:Nat}{ya:Option Addr}{yn yk:Nat}(x:Mx)(vx:Value)(w:World)(hk:l.k=1)(hs:I_ w (.slice xa xn xk) l.w.cells)(ht:I_ w (.slice ya yn yk) l.b.cells)(hx:M_ w vx x):
  Calls Tryz.prog 63 #[.agg #[.int .i64 1,.int .i64 l.w.rows,.int .i64 l.w.cols,.slice xa xn xk,.int .i64 l.b.rows,.int .i64 l.b.cols,.slice ya yn yk],vx] w fun e w'=>e=.returned (.tuple #[kindR (goE l x) 202 (.agg #[.int .i64 l.w.rows,.int .i64 l.w.cols,.slice xa xn xk,.int .i64 l.b.rows,.int .i64 l.b.cols,.slice ya yn yk]),.int .i64 (goW l x),errV (goE l x)])∧Below w.heap.size w w':=
 ready_kind 1 202 l x vx w hx (fun W h=>kindof_linear l W hk (hs.u_ h) (ht.u_ h)) (fun n W=>wide_linear l n _ _ _ _ xa xn xk ya yn yk W hk rfl rfl rfl)
theorem ready_relu(l:Ly){xa:Option Addr}{xn xk:Nat}{ya:Option Addr}{yn yk:Nat}(x:Mx)(vx:Value)(w:World)(hk:l.k=2)(hs:I_ w (.slice xa xn xk) l.w.cells)(ht:I_ w (.slice ya yn yk) l.b.cells)(hx:M_ w vx x):
  Calls Tryz.prog 63 #[.agg #[.int .i64 2,.int .i64 l.w.rows,.int .i64 l.w.cols,.slice xa xn xk,.int .i64 l.b.rows,.int .i64 l.b.cols,.slice ya yn yk],vx] w fun e w'=>e=.returned (.tuple #[kindR (goE l x) 205 (.agg #[.int .i64 l.w.rows,.int .i64 l.w.cols,.slice xa xn xk,.int .i64 l.b.rows,.int .i64 l.b.cols,.slice ya yn yk]),.int .i64 (goW l x),errV (goE l x)])∧Below w.heap.size w w':=
 ready_kind 2 205 l x vx w hx (fun W h=>kindof_relu l W hk (hs.u_ h) (ht.u_ h)) (fun n W=>wide_relu l n _ _ _ _ xa xn xk ya yn yk W hk rfl rfl rfl)
theorem ready_scale(l:Ly){xa:Option Addr}{xn xk:Nat}{ya:Option Addr}{yn yk:Nat}(x:Mx)(vx:Value)(w:World)(hk:l.k=3)(hs:I_ w (.slice xa xn xk) l.w.cells)(ht:I_ w (.slice ya yn yk) l.b.cells)(hx:M_ w vx x):
  Calls Tryz.prog 63 #[.agg #[.int .i64 3,.int .i64 l.w.rows,.int .i64 l.w.cols,.slice xa xn xk,.int .i64 l.b.rows,.int .i64 l.b.cols,.slice ya yn yk],vx] w fun e w'=>e=.returned (.tuple #[kindR (goE l x) 206 (.agg #[.int .i64 l.w.rows,.int .i64 l.w.cols,.slice xa xn xk,.int .i64 l.b.rows,.int .i64 l.b.cols,.slice ya yn yk]),.int .i64 (goW l x),errV (goE l x)])∧Below w.heap.size w w':=
 ready_kind 3 206 l x vx w hx (fun W h=>kindof_scale l W hk (hs.u_ h) (ht.u_ h)) (fun n W=>wide_scale l n _ _ _ _ xa xn xk ya yn yk W hk rfl rfl rfl)
theorem ready_shift(l:Ly){xa:Option Addr}{xn xk:Nat}{ya:Option Addr}{yn yk:Nat}(x:Mx)(vx:Value)(w:World)(hk:l.k=4)(hs:I_ w (.slice xa xn xk) l.w.cells)(ht:I_ w (.slice ya yn yk) l.b.cells)(hx:M_ w vx x):
  Calls Tryz.prog 63 #[.agg #[.int .i64 4,.int .i64 l.w.rows,.int .i64 l.w.cols,.slice xa xn xk,.int .i64 l.b.rows,.int .i64 l.b.cols,.slice ya yn yk],vx] w fun e w'=>e=.returned (.tuple #[kindR (goE l x) 207 (.agg #[.int .i64 l.w.rows,.int .i64 l.w.cols,.slice xa xn xk,.int .i64 l.b.rows,.int .i64 l.b.cols,.slice ya yn yk]),.int .i64 (goW l x),errV (goE l x)])∧Below w.heap.size w w':=
 ready_kind 4 207 l x vx w hx (fun W h=>kindof_shift l W hk (hs.u_ h) (ht.u_ h)) (fun n W=>wide_shift l n _ _ _ _ xa xn xk ya yn yk W hk rfl rfl rfl)
set_option maxHeartbeats 400000 in
theorem ready_none(k:Int)(wr wc br bc:Int)(xa:Option Addr)(xn xk:Nat)(ya:Option Addr)(yn yk:Nat)(vx:Value)(x:Mx)(w:World)(hk:k<1∨4<k)(hx:M_ w vx x):
  Calls Tryz.prog 63 #[.agg #[.int .i64 k,.int .i64 wr,.int .i64 wc,.slice xa xn xk,.int .i64 br,.int .i64 bc,.slice ya yn yk],vx] w fun e w'=>e=.returned (.tuple #[.nilIface,.int .i64 0,errV 1])∧Below w.heap.size w w':=by
 obtain ⟨sx,rfl,hsx⟩:=hx
 have HN:=h_ (fun W=>kindof_none k wr wc br bc xa xn xk ya yn yk W hk)
 clear hk hsx
 go_enter Tryz.func63,Tryz.ntmps63
 go_wp2_with fail
 refine (HN.out _).mono ?_
 rintro e w1 ⟨rfl,hb1⟩
 rw[n_ (show (1:Int)≠0 by decide)]
 have W1:=h_ (b_ (b_ (o_ _ _) (o_ _ _)) hb1)
 clear hb1
 go_wp2
 go_ret3
 exact ⟨rfl,W1.out⟩
end Go.Proofs.YtniloklglpchfakGreat
