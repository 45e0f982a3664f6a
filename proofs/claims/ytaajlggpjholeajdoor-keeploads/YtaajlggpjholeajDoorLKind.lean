/- What kindOf, wide and ready of package layer come to: what is wrong with a layer, which kind it is, how many columns come. -/
import Derived.Test.YtaajlggpjholeajDoorLNamed
namespace Go.Proofs.YtaajlggpjholeajDoor
open Go.RowKit
theorem ret_two{a a' b b':Value}(h1:a=a')(h2:b=b'):Ending.returned (.tuple #[a,b])=.returned (.tuple #[a',b']):=by rw[h1,h2]
def kindR (k:Int) (T:TypeId) (v:Value):Value:=if k=0 then .iface T v else .nilIface
theorem kindR_yes{k:Int}(h:k=0)(T:TypeId)(v:Value):Value.iface T v=kindR k T v:=by unfold kindR;rw[if_pos h]
theorem K_{k:Int}(h:k≠0)(T:TypeId)(v:Value):Value.nilIface=kindR k T v:=by unfold kindR;rw[if_neg h]
theorem lfault_k{l:Ly}(h:l.k<1∨4<l.k):l_ l=1:=by unfold l_;rw[if_pos h]
theorem lfault_w{l:Ly}(h:¬(l.k<1∨4<l.k))(hw:q_ l.w≠0):l_ l=q_ l.w:=by unfold l_;rw[if_neg h,if_pos hw]
theorem lfault_b{l:Ly}(h:¬(l.k<1∨4<l.k))(hw:q_ l.w=0)(hb:q_ l.b≠0):l_ l=q_ l.b:=by unfold l_;rw[if_neg h,if_neg (by simp[hw]),if_pos hb]
theorem L_{l:Ly}(h:¬(l.k<1∨4<l.k))(hw:q_ l.w=0)(hb:q_ l.b=0)(hf:fitsL l=false):l_ l=2:=by unfold l_;rw[if_neg h,if_neg (by simp[hw]),if_neg (by simp[hb]),if_pos hf]
theorem lfault_0{l:Ly}(h:¬(l.k<1∨4<l.k))(hw:q_ l.w=0)(hb:q_ l.b=0)(hf:fitsL l=true):l_ l=0:=by unfold l_;rw[if_neg h,if_neg (by simp[hw]),if_neg (by simp[hb]),if_neg (by simp[hf])]
set_option maxHeartbeats 1600000 in
theorem kindof_linear(l:Ly){xa:Option Addr}{xn xk:Nat}{ya:Option Addr}{yn yk:Nat}(w:World)(hk:l.k=1)(hs:I_ w (.slice xa xn xk) l.w.cells)(ht:I_ w (.slice ya yn yk) l.b.cells):
  Calls Tryd.prog 61 #[.agg #[.int .i64 1,.int .i64 l.w.rows,.int .i64 l.w.cols,.slice xa xn xk,.int .i64 l.b.rows,.int .i64 l.b.cols,.slice ya yn yk]] w fun e w'=>e=.returned (.tuple #[kindR (l_ l) 142 (.agg #[.int .i64 l.w.rows,.int .i64 l.w.cols,.slice xa xn xk,.int .i64 l.b.rows,.int .i64 l.b.cols,.slice ya yn yk]),errV (l_ l)])∧Below w.heap.size w w':=by
 obtain ⟨wr,e1⟩:=gN (l.w.rows)
 obtain ⟨wc,e2⟩:=gN (l.w.cols)
 obtain ⟨br,e3⟩:=gN (l.b.rows)
 obtain ⟨bc,e4⟩:=gN (l.b.cols)
 have HMW:=h_ (fun W (h:Below w.heap.size w W)=>C_ _ l.w W ⟨_,rfl,hs.u_ h⟩)
 have HMB:=h_ (fun W (h:Below w.heap.size w W)=>C_ _ l.b W ⟨_,rfl,ht.u_ h⟩)
 have HFT:=h_ (fun W (h:Below w.heap.size w W)=>fits_linear _ l.w l.b W ⟨_,_,rfl,hs.u_ h,ht.u_ h⟩)
 have HNR:=h_ (show ¬(l.k<1∨4<l.k) by omega)
 have HFL:=h_ (fitsL_1 hk)
 rw[e1,e2]at HMW
 rw[e3,e4]at HMB
 rw[e1,e2,e3,e4]at HFT
 rw[e1,e2,e3,e4]
 have HBX:=h_ (Box.new w [.int .i64 1,.int .i64 wr,.int .i64 wc,.slice xa xn xk,.int .i64 br,.int .i64 bc,.slice ya yn yk] 53 rfl)
 have hm : ∀ W : World, (method 281 142 (.agg #[.int .i64 wr, .int .i64 wc, .slice xa xn xk, .int .i64 br, .int .i64 bc, .slice ya yn yk]) "galley/layer.fits").run Tryd.prog W = .ok (105, .agg #[.int .i64 wr, .int .i64 wc, .slice xa xn xk, .int .i64 br, .int .i64 bc, .slice ya yn yk]) W := fun _ => by kernel_rfl
 clear hs ht e1 e2 e3 e4 hk
 go_enter Tryd.func61,Tryd.ntmps61
 go_wp2_with fail
 refine (named_linear wr wc br bc xa xn xk ya yn yk _).mono ?_
 rintro e w1 ⟨rfl,hb1⟩
 have H1:=h_ (HBX.out.u_ hb1)
 have W1:=h_ (below_box (Below.refl _ _) hb1)
 clear hb1
 obtain ⟨d0,d1,d2,d3,d4,d5,d6⟩:=H1.out.c7
 go_wp2_with fail
 refine (HMW.out _ W1.out).mono ?_
 rintro e w2 ⟨rfl,hb2⟩
 clear d0 d1 d2 d3 d4 d5 d6
 have H2:=h_ (H1.out.u_ hb2)
 have W2:=h_ (b_ W1.out hb2)
 clear hb2
 obtain ⟨d0,d1,d2,d3,d4,d5,d6⟩:=H2.out.c7
 by_cases hf:q_ l.w=0
 ·rw[e_ hf]
  have HF:=h_ hf
  clear hf
  go_wp2_with fail
  refine (HMB.out _ W2.out).mono ?_
  rintro e w3 ⟨rfl,hb3⟩
  clear d0 d1 d2 d3 d4 d5 d6
  have H3:=h_ (H2.out.u_ hb3)
  have W3:=h_ (b_ W2.out hb3)
  clear hb3
  by_cases hg:q_ l.b=0
  ·rw[e_ hg]
   have HG:=h_ hg
   clear hg
   go_wp2_with fail
   refine (HFT.out _ W3.out).mono ?_
   rintro e w4 ⟨rfl,hb4⟩
   cases hfit:fits1 l.w l.b with
   |true=>
    have HL:=h_ (lfault_0 HNR.out HF.out HG.out (HFL.out.trans hfit))
    clear hfit
    go_wp2
    go_ret2
    exact ⟨ret_two (kindR_yes HL.out _ _) (by rw[HL.out];rfl),b_ W3.out hb4⟩
   |false=>
    have HL:=h_ (L_ HNR.out HF.out HG.out (HFL.out.trans hfit))
    clear hfit
    go_wp2
    go_ret2
    exact ⟨ret_two (K_ (by rw[HL.out];decide) _ _) (by rw[HL.out];rfl),b_ W3.out hb4⟩
  ·rw[n_ hg]
   have HL:=h_ (And.intro (lfault_b HNR.out HF.out hg) hg)
   obtain ⟨j,hj⟩:=gN (q_ l.b)
   rw[hj]at HL ⊢
   clear hg hj
   go_wp2
   go_ret2
   exact ⟨ret_two (K_ (by rw[HL.out.1];exact HL.out.2) _ _) (by rw[HL.out.1,n_ HL.out.2];rfl),W3.out⟩
 ·rw[n_ hf]
  have HL:=h_ (And.intro (lfault_w HNR.out hf) hf)
  obtain ⟨j,hj⟩:=gN (q_ l.w)
  rw[hj]at HL ⊢
  clear hf hj
  go_wp2
  go_ret2
  exact ⟨ret_two (K_ (by rw[HL.out.1];exact HL.out.2) _ _) (by rw[HL.out.1,n_ HL.out.2];rfl),W2.out⟩
set_option maxHeartbeats 1600000 in
theorem kindof_relu(l:Ly){xa:Option Addr}{xn xk:Nat}{ya:Option Addr}{yn yk:Nat}(w:World)(hk:l.k=2)(hs:I_ w (.slice xa xn xk) l.w.cells)(ht:I_ w (.slice ya yn yk) l.b.cells):
  Calls Tryd.prog 61 #[.agg #[.int .i64 2,.int .i64 l.w.rows,.int .i64 l.w.cols,.slice xa xn xk,.int .i64 l.b.rows,.int .i64 l.b.cols,.slice ya yn yk]] w fun e w'=>e=.returned (.tuple #[kindR (l_ l) 145 (.agg #[.int .i64 l.w.rows,.int .i64 l.w.cols,.slice xa xn xk,.int .i64 l.b.rows,.int .i64 l.b.cols,.slice ya yn yk]),errV (l_ l)])∧Below w.heap.size w w':=by
 obtain ⟨wr,e1⟩:=gN (l.w.rows)
 obtain ⟨wc,e2⟩:=gN (l.w.cols)
 obtain ⟨br,e3⟩:=gN (l.b.rows)
 obtain ⟨bc,e4⟩:=gN (l.b.cols)
 have HMW:=h_ (fun W (h:Below w.heap.size w W)=>C_ _ l.w W ⟨_,rfl,hs.u_ h⟩)
 have HMB:=h_ (fun W (h:Below w.heap.size w W)=>C_ _ l.b W ⟨_,rfl,ht.u_ h⟩)
 have HFT:=h_ (fun W (h:Below w.heap.size w W)=>fits_relu _ l.w l.b W ⟨_,_,rfl,hs.u_ h,ht.u_ h⟩)
 have HNR:=h_ (show ¬(l.k<1∨4<l.k) by omega)
 have HFL:=h_ (fitsL_2 hk)
 rw[e1,e2]at HMW
 rw[e3,e4]at HMB
 rw[e1,e2,e3,e4]at HFT
 rw[e1,e2,e3,e4]
 have HBX:=h_ (Box.new w [.int .i64 2,.int .i64 wr,.int .i64 wc,.slice xa xn xk,.int .i64 br,.int .i64 bc,.slice ya yn yk] 53 rfl)
 have hm : ∀ W : World, (method 281 145 (.agg #[.int .i64 wr, .int .i64 wc, .slice xa xn xk, .int .i64 br, .int .i64 bc, .slice ya yn yk]) "galley/layer.fits").run Tryd.prog W = .ok (113, .agg #[.int .i64 wr, .int .i64 wc, .slice xa xn xk, .int .i64 br, .int .i64 bc, .slice ya yn yk]) W := fun _ => by kernel_rfl
 clear hs ht e1 e2 e3 e4 hk
 go_enter Tryd.func61,Tryd.ntmps61
 go_wp2_with fail
 refine (named_relu wr wc br bc xa xn xk ya yn yk _).mono ?_
 rintro e w1 ⟨rfl,hb1⟩
 have H1:=h_ (HBX.out.u_ hb1)
 have W1:=h_ (below_box (Below.refl _ _) hb1)
 clear hb1
 obtain ⟨d0,d1,d2,d3,d4,d5,d6⟩:=H1.out.c7
 go_wp2_with fail
 refine (HMW.out _ W1.out).mono ?_
 rintro e w2 ⟨rfl,hb2⟩
 clear d0 d1 d2 d3 d4 d5 d6
 have H2:=h_ (H1.out.u_ hb2)
 have W2:=h_ (b_ W1.out hb2)
 clear hb2
 obtain ⟨d0,d1,d2,d3,d4,d5,d6⟩:=H2.out.c7
 by_cases hf:q_ l.w=0
 ·rw[e_ hf]
  have HF:=h_ hf
  clear hf
  go_wp2_with fail
  refine (HMB.out _ W2.out).mono ?_
  rintro e w3 ⟨rfl,hb3⟩
  clear d0 d1 d2 d3 d4 d5 d6
  have H3:=h_ (H2.out.u_ hb3)
  have W3:=h_ (b_ W2.out hb3)
  clear hb3
  by_cases hg:q_ l.b=0
  ·rw[e_ hg]
   have HG:=h_ hg
   clear hg
   go_wp2_with fail
   refine (HFT.out _ W3.out).mono ?_
   rintro e w4 ⟨rfl,hb4⟩
   cases hfit:fits2 l.w l.b with
   |true=>
    have HL:=h_ (lfault_0 HNR.out HF.out HG.out (HFL.out.trans hfit))
    clear hfit
    go_wp2
    go_ret2
    exact ⟨ret_two (kindR_yes HL.out _ _) (by rw[HL.out];rfl),b_ W3.out hb4⟩
   |false=>
    have HL:=h_ (L_ HNR.out HF.out HG.out (HFL.out.trans hfit))
    clear hfit
    go_wp2
    go_ret2
    exact ⟨ret_two (K_ (by rw[HL.out];decide) _ _) (by rw[HL.out];rfl),b_ W3.out hb4⟩
  ·rw[n_ hg]
   have HL:=h_ (And.intro (lfault_b HNR.out HF.out hg) hg)
   obtain ⟨j,hj⟩:=gN (q_ l.b)
   rw[hj]at HL ⊢
   clear hg hj
   go_wp2
   go_ret2
   exact ⟨ret_two (K_ (by rw[HL.out.1];exact HL.out.2) _ _) (by rw[HL.out.1,n_ HL.out.2];rfl),W3.out⟩
 ·rw[n_ hf]
  have HL:=h_ (And.intro (lfault_w HNR.out hf) hf)
  obtain ⟨j,hj⟩:=gN (q_ l.w)
  rw[hj]at HL ⊢
  clear hf hj
  go_wp2
  go_ret2
  exact ⟨ret_two (K_ (by rw[HL.out.1];exact HL.out.2) _ _) (by rw[HL.out.1,n_ HL.out.2];rfl),W2.out⟩
set_option maxHeartbeats 1600000 in
theorem kindof_scale(l:Ly){xa:Option Addr}{xn xk:Nat}{ya:Option Addr}{yn yk:Nat}(w:World)(hk:l.k=3)(hs:I_ w (.slice xa xn xk) l.w.cells)(ht:I_ w (.slice ya yn yk) l.b.cells):
  Calls Tryd.prog 61 #[.agg #[.int .i64 3,.int .i64 l.w.rows,.int .i64 l.w.cols,.slice xa xn xk,.int .i64 l.b.rows,.int .i64 l.b.cols,.slice ya yn yk]] w fun e w'=>e=.returned (.tuple #[kindR (l_ l) 146 (.agg #[.int .i64 l.w.rows,.int .i64 l.w.cols,.slice xa xn xk,.int .i64 l.b.rows,.int .i64 l.b.cols,.slice ya yn yk]),errV (l_ l)])∧Below w.heap.size w w':=by
 obtain ⟨wr,e1⟩:=gN (l.w.rows)
 obtain ⟨wc,e2⟩:=gN (l.w.cols)
 obtain ⟨br,e3⟩:=gN (l.b.rows)
 obtain ⟨bc,e4⟩:=gN (l.b.cols)
 have HMW:=h_ (fun W (h:Below w.heap.size w W)=>C_ _ l.w W ⟨_,rfl,hs.u_ h⟩)
 have HMB:=h_ (fun W (h:Below w.heap.size w W)=>C_ _ l.b W ⟨_,rfl,ht.u_ h⟩)
 have HFT:=h_ (fun W (h:Below w.heap.size w W)=>fits_scale _ l.w l.b W ⟨_,_,rfl,hs.u_ h,ht.u_ h⟩)
 have HNR:=h_ (show ¬(l.k<1∨4<l.k) by omega)
 have HFL:=h_ (fitsL_3 hk)
 rw[e1,e2]at HMW
 rw[e3,e4]at HMB
 rw[e1,e2,e3,e4]at HFT
 rw[e1,e2,e3,e4]
 have HBX:=h_ (Box.new w [.int .i64 3,.int .i64 wr,.int .i64 wc,.slice xa xn xk,.int .i64 br,.int .i64 bc,.slice ya yn yk] 53 rfl)
 have hm : ∀ W : World, (method 281 146 (.agg #[.int .i64 wr, .int .i64 wc, .slice xa xn xk, .int .i64 br, .int .i64 bc, .slice ya yn yk]) "galley/layer.fits").run Tryd.prog W = .ok (116, .agg #[.int .i64 wr, .int .i64 wc, .slice xa xn xk, .int .i64 br, .int .i64 bc, .slice ya yn yk]) W := fun _ => by kernel_rfl
 clear hs ht e1 e2 e3 e4 hk
 go_enter Tryd.func61,Tryd.ntmps61
 go_wp2_with fail
 refine (named_scale wr wc br bc xa xn xk ya yn yk _).mono ?_
 rintro e w1 ⟨rfl,hb1⟩
 have H1:=h_ (HBX.out.u_ hb1)
 have W1:=h_ (below_box (Below.refl _ _) hb1)
 clear hb1
 obtain ⟨d0,d1,d2,d3,d4,d5,d6⟩:=H1.out.c7
 go_wp2_with fail
 refine (HMW.out _ W1.out).mono ?_
 rintro e w2 ⟨rfl,hb2⟩
 clear d0 d1 d2 d3 d4 d5 d6
 have H2:=h_ (H1.out.u_ hb2)
 have W2:=h_ (b_ W1.out hb2)
 clear hb2
 obtain ⟨d0,d1,d2,d3,d4,d5,d6⟩:=H2.out.c7
 by_cases hf:q_ l.w=0
 ·rw[e_ hf]
  have HF:=h_ hf
  clear hf
  go_wp2_with fail
  refine (HMB.out _ W2.out).mono ?_
  rintro e w3 ⟨rfl,hb3⟩
  clear d0 d1 d2 d3 d4 d5 d6
  have H3:=h_ (H2.out.u_ hb3)
  have W3:=h_ (b_ W2.out hb3)
  clear hb3
  by_cases hg:q_ l.b=0
  ·rw[e_ hg]
   have HG:=h_ hg
   clear hg
   go_wp2_with fail
   refine (HFT.out _ W3.out).mono ?_
   rintro e w4 ⟨rfl,hb4⟩
   cases hfit:fits3 l.w l.b with
   |true=>
    have HL:=h_ (lfault_0 HNR.out HF.out HG.out (HFL.out.trans hfit))
    clear hfit
    go_wp2
    go_ret2
    exact ⟨ret_two (kindR_yes HL.out _ _) (by rw[HL.out];rfl),b_ W3.out hb4⟩
   |false=>
    have HL:=h_ (L_ HNR.out HF.out HG.out (HFL.out.trans hfit))
    clear hfit
    go_wp2
    go_ret2
    exact ⟨ret_two (K_ (by rw[HL.out];decide) _ _) (by rw[HL.out];rfl),b_ W3.out hb4⟩
  ·rw[n_ hg]
   have HL:=h_ (And.intro (lfault_b HNR.out HF.out hg) hg)
   obtain ⟨j,hj⟩:=gN (q_ l.b)
   rw[hj]at HL ⊢
   clear hg hj
   go_wp2
   go_ret2
   exact ⟨ret_two (K_ (by rw[HL.out.1];exact HL.out.2) _ _) (by rw[HL.out.1,n_ HL.out.2];rfl),W3.out⟩
 ·rw[n_ hf]
  have HL:=h_ (And.intro (lfault_w HNR.out hf) hf)
  obtain ⟨j,hj⟩:=gN (q_ l.w)
  rw[hj]at HL ⊢
  clear hf hj
  go_wp2
  go_ret2
  exact ⟨ret_two (K_ (by rw[HL.out.1];exact HL.out.2) _ _) (by rw[HL.out.1,n_ HL.out.2];rfl),W2.out⟩
set_option maxHeartbeats 1600000 in
theorem kindof_shift(l:Ly){xa:Option Addr}{xn xk:Nat}{ya:Option Addr}{yn yk:Nat}(w:World)(hk:l.k=4)(hs:I_ w (.slice xa xn xk) l.w.cells)(ht:I_ w (.slice ya yn yk) l.b.cells):
  Calls Tryd.prog 61 #[.agg #[.int .i64 4,.int .i64 l.w.rows,.int .i64 l.w.cols,.slice xa xn xk,.int .i64 l.b.rows,.int .i64 l.b.cols,.slice ya yn yk]] w fun e w'=>e=.returned (.tuple #[kindR (l_ l) 147 (.agg #[.int .i64 l.w.rows,.int .i64 l.w.cols,.slice xa xn xk,.int .i64 l.b.rows,.int .i64 l.b.cols,.slice ya yn yk]),errV (l_ l)])∧Below w.heap.size w w':=by
 obtain ⟨wr,e1⟩:=gN (l.w.rows)
 obtain ⟨wc,e2⟩:=gN (l.w.cols)
 obtain ⟨br,e3⟩:=gN (l.b.rows)
 obtain ⟨bc,e4⟩:=gN (l.b.cols)
 have HMW:=h_ (fun W (h:Below w.heap.size w W)=>C_ _ l.w W ⟨_,rfl,hs.u_ h⟩)
 have HMB:=h_ (fun W (h:Below w.heap.size w W)=>C_ _ l.b W ⟨_,rfl,ht.u_ h⟩)
 have HFT:=h_ (fun W (h:Below w.heap.size w W)=>fits_shift _ l.w l.b W ⟨_,_,rfl,hs.u_ h,ht.u_ h⟩)
 have HNR:=h_ (show ¬(l.k<1∨4<l.k) by omega)
 have HFL:=h_ (fitsL_4 hk)
 rw[e1,e2]at HMW
 rw[e3,e4]at HMB
 rw[e1,e2,e3,e4]at HFT
 rw[e1,e2,e3,e4]
 have HBX:=h_ (Box.new w [.int .i64 4,.int .i64 wr,.int .i64 wc,.slice xa xn xk,.int .i64 br,.int .i64 bc,.slice ya yn yk] 53 rfl)
 have hm : ∀ W : World, (method 281 147 (.agg #[.int .i64 wr, .int .i64 wc, .slice xa xn xk, .int .i64 br, .int .i64 bc, .slice ya yn yk]) "galley/layer.fits").run Tryd.prog W = .ok (119, .agg #[.int .i64 wr, .int .i64 wc, .slice xa xn xk, .int .i64 br, .int .i64 bc, .slice ya yn yk]) W := fun _ => by kernel_rfl
 clear hs ht e1 e2 e3 e4 hk
 go_enter Tryd.func61,Tryd.ntmps61
 go_wp2_with fail
 refine (named_shift wr wc br bc xa xn xk ya yn yk _).mono ?_
 rintro e w1 ⟨rfl,hb1⟩
 have H1:=h_ (HBX.out.u_ hb1)
 have W1:=h_ (below_box (Below.refl _ _) hb1)
 clear hb1
 obtain ⟨d0,d1,d2,d3,d4,d5,d6⟩:=H1.out.c7
 go_wp2_with fail
 refine (HMW.out _ W1.out).mono ?_
 rintro e w2 ⟨rfl,hb2⟩
 clear d0 d1 d2 d3 d4 d5 d6
 have H2:=h_ (H1.out.u_ hb2)
 have W2:=h_ (b_ W1.out hb2)
 clear hb2
 obtain ⟨d0,d1,d2,d3,d4,d5,d6⟩:=H2.out.c7
 by_cases hf:q_ l.w=0
 ·rw[e_ hf]
  have HF:=h_ hf
  clear hf
  go_wp2_with fail
  refine (HMB.out _ W2.out).mono ?_
  rintro e w3 ⟨rfl,hb3⟩
  clear d0 d1 d2 d3 d4 d5 d6
  have H3:=h_ (H2.out.u_ hb3)
  have W3:=h_ (b_ W2.out hb3)
  clear hb3
  by_cases hg:q_ l.b=0
  ·rw[e_ hg]
   have HG:=h_ hg
   clear hg
   go_wp2_with fail
   refine (HFT.out _ W3.out).mono ?_
   rintro e w4 ⟨rfl,hb4⟩
   cases hfit:fits4 l.w l.b with
   |true=>
    have HL:=h_ (lfault_0 HNR.out HF.out HG.out (HFL.out.trans hfit))
    clear hfit
    go_wp2
    go_ret2
    exact ⟨ret_two (kindR_yes HL.out _ _) (by rw[HL.out];rfl),b_ W3.out hb4⟩
   |false=>
    have HL:=h_ (L_ HNR.out HF.out HG.out (HFL.out.trans hfit))
    clear hfit
    go_wp2
    go_ret2
    exact ⟨ret_two (K_ (by rw[HL.out];decide) _ _) (by rw[HL.out];rfl),b_ W3.out hb4⟩
  ·rw[n_ hg]
   have HL:=h_ (And.intro (lfault_b HNR.out HF.out hg) hg)
   obtain ⟨j,hj⟩:=gN (q_ l.b)
   rw[hj]at HL ⊢
   clear hg hj
   go_wp2
   go_ret2
   exact ⟨ret_two (K_ (by rw[HL.out.1];exact HL.out.2) _ _) (by rw[HL.out.1,n_ HL.out.2];rfl),W3.out⟩
 ·rw[n_ hf]
  have HL:=h_ (And.intro (lfault_w HNR.out hf) hf)
  obtain ⟨j,hj⟩:=gN (q_ l.w)
  rw[hj]at HL ⊢
  clear hf hj
  go_wp2
  go_ret2
  exact ⟨ret_two (K_ (by rw[HL.out.1];exact HL.out.2) _ _) (by rw[HL.out.1,n_ HL.out.2];rfl),W2.out⟩
set_option maxHeartbeats 400000 in
theorem kindof_none(k:Int)(wr wc br bc:Int)(xa:Option Addr)(xn xk:Nat)(ya:Option Addr)(yn yk:Nat)(w:World)(hk:k<1∨4<k):
  Calls Tryd.prog 61 #[.agg #[.int .i64 k,.int .i64 wr,.int .i64 wc,.slice xa xn xk,.int .i64 br,.int .i64 bc,.slice ya yn yk]] w fun e w'=>e=.returned (.tuple #[.nilIface,errV 1])∧Below w.heap.size w w':=by
 have HN:=h_ (fun W=>named_none k wr wc br bc xa xn xk ya yn yk W hk)
 clear hk
 go_enter Tryd.func61,Tryd.ntmps61
 go_wp2_with fail
 refine (HN.out _).mono ?_
 rintro e w1 ⟨rfl,hb1⟩
 go_wp2
 go_ret2
 exact ⟨rfl,below_box (Below.refl _ _) hb1⟩
end Go.Proofs.YtaajlggpjholeajDoor
