/- What checkRates, checkCounts and checkLayer of package step come to: what is wrong with the rates, with how many there are, with a layer and what goes with it. -/
import Derived.Test.YtniloklglpchfafPkStep
import Derived.Test.YtniloklglpchfafLWide
import Derived.Test.YtniloklglpchfafPkReg
import Derived.Deep.WholeRow
namespace Go.Proofs.Ytniloklglpchfaf
open Go.RowKit
theorem rates_any(le ke:Int)(w:World):Calls Try.prog 36 #[.agg #[.int .i64 le,.int .i64 ke]] w fun e w'=>e=.returned (errV (if badR le ke=true then 1 else 0))∧Below w.heap.size w w':=by
 by_cases h1:le<0
 ·have hb:badR le ke=true:=by simp[badR,h1]
  rw[hb,if_pos rfl,n_ (by decide)]
  go_enter Try.func36,Try.ntmps36
  go_wp2
  go_ret
  exact ⟨rfl,o_ _ _⟩
 ·by_cases h2:256<le
  ·have hb:badR le ke=true:=by simp[badR,h2]
   rw[hb,if_pos rfl,n_ (by decide)]
   go_enter Try.func36,Try.ntmps36
   go_wp2
   go_ret
   exact ⟨rfl,o_ _ _⟩
  ·by_cases h3:ke<0
   ·have hb:badR le ke=true:=by simp[badR,h3]
    rw[hb,if_pos rfl,n_ (by decide)]
    go_enter Try.func36,Try.ntmps36
    go_wp2
    go_ret
    exact ⟨rfl,o_ _ _⟩
   ·by_cases h4:256<ke
    ·have hb:badR le ke=true:=by simp[badR,h4]
     rw[hb,if_pos rfl,n_ (by decide)]
     go_enter Try.func36,Try.ntmps36
     go_wp2
     go_ret
     exact ⟨rfl,o_ _ _⟩
    ·have hb:badR le ke=false:=by simp[badR];omega
     rw[hb,if_neg (by decide),e_ rfl]
     go_enter Try.func36,Try.ntmps36
     go_wp2
     go_ret
     exact ⟨rfl,o_ _ _⟩
theorem counts_any(a a1 a2:Option Addr)(N N1 N2 c c1 c2:Nat)(w:World)(h0:N≤maxLen):Calls Try.prog 41 #[.slice a N c,.slice a1 N1 c1,.slice a2 N2 c2] w fun e w'=>e=.returned (errV (if 12<N then 3 else if N1≠N∨N2≠N then 2 else 0))∧w'=w:=by
 unfold maxLen at h0
 by_cases h12:12<N
 ·have h12':(12:Int)<(N:Int):=by omega
  rw[if_pos h12,n_ (by decide)]
  go_enter Try.func41,Try.ntmps41
  go_wp2
  go_ret
  exact ⟨rfl,rfl⟩
 ·have h12':¬(12:Int)<(N:Int):=by omega
  rw[if_neg h12]
  by_cases e1:N1=N
  ·by_cases e2:N2=N
   ·rw[if_neg (by simp[e1,e2]),e_ rfl]
    have x1:((N1:Int) !=(N:Int))=false:=by simp[e1]
    have x2:((N2:Int) !=(N:Int))=false:=by simp[e2]
    clear e1 e2
    go_enter Try.func41,Try.ntmps41
    go_wp2
    go_ret
    exact ⟨rfl,rfl⟩
   ·rw[if_pos (.inr e2),n_ (by decide)]
    have x1:((N1:Int) !=(N:Int))=false:=by simp[e1]
    have x2:((N2:Int) !=(N:Int))=true:=by simp;omega
    clear e1 e2
    go_enter Try.func41,Try.ntmps41
    go_wp2
    go_ret
    exact ⟨rfl,rfl⟩
  ·rw[if_pos (.inl e1),n_ (by decide)]
   have x1:((N1:Int) !=(N:Int))=true:=by simp;omega
   clear e1
   go_enter Try.func41,Try.ntmps41
   go_wp2
   go_ret
   exact ⟨rfl,rfl⟩
theorem stp1_f0{l:Ly}{p q:Mx×Mx}(h0:l_ l≠0):stp1E l p q=l_ l:=by unfold stp1E;rw[if_pos h0]
theorem stp1_f1{l:Ly}{p q:Mx×Mx}(h0:l_ l=0)(h1:q_ p.1≠0):stp1E l p q=q_ p.1:=by unfold stp1E;rw[if_neg (by simp[h0]),if_pos h1]
theorem stp1_f2{l:Ly}{p q:Mx×Mx}(h0:l_ l=0)(h1:q_ p.1=0)(h2:q_ p.2≠0):stp1E l p q=q_ p.2:=by unfold stp1E;rw[if_neg (by simp[h0]),if_neg (by simp[h1]),if_pos h2]
theorem stp1_f3{l:Ly}{p q:Mx×Mx}(h0:l_ l=0)(h1:q_ p.1=0)(h2:q_ p.2=0)(h3:q_ q.1≠0):stp1E l p q=q_ q.1:=by unfold stp1E;rw[if_neg (by simp[h0]),if_neg (by simp[h1]),if_neg (by simp[h2]),if_pos h3]
theorem stp1_f4{l:Ly}{p q:Mx×Mx}(h0:l_ l=0)(h1:q_ p.1=0)(h2:q_ p.2=0)(h3:q_ q.1=0)(h4:q_ q.2≠0):stp1E l p q=q_ q.2:=by unfold stp1E;rw[if_neg (by simp[h0]),if_neg (by simp[h1]),if_neg (by simp[h2]),if_neg (by simp[h3]),if_pos h4]
theorem stp1_f5{l:Ly}{p q:Mx×Mx}(h0:l_ l=0)(h1:q_ p.1=0)(h2:q_ p.2=0)(h3:q_ q.1=0)(h4:q_ q.2=0):stp1E l p q=if H_ p.1 l.w=false∨H_ p.2 l.b=false∨H_ q.1 l.w=false∨H_ q.2 l.b=false then 2 else 0:=by unfold stp1E;rw[if_neg (by simp[h0]),if_neg (by simp[h1]),if_neg (by simp[h2]),if_neg (by simp[h3]),if_neg (by simp[h4])]
theorem heap_lt{w:World}{g:Nat}{o:Obj}(h:w.heap[g]?=some o):g<w.heap.size:=by
 rcases Nat.lt_or_ge g w.heap.size with h'|h'
 ·exact h'
 ·rw[Array.getElem?_eq_none h']at h;cases h
theorem sameSh_r{a b:Mx}(h:¬a.rows=b.rows):H_ a b=false:=decide_eq_false (fun e=>h e.1)
theorem sameSh_c{a b:Mx}(h:¬a.cols=b.cols):H_ a b=false:=decide_eq_false (fun e=>h e.2)
theorem sameSh_t{a b:Mx}(h:a.rows=b.rows)(h':a.cols=b.cols):H_ a b=true:=decide_eq_true ⟨h,h'⟩
theorem pair_i0(x0 x1 x2 x3 x4 x5 x6 x7 x8 x9 x10 x11 x12 x13 x14 x15 x16 x17 x18 x19 x20 x21 x22 x23:Value)(w:World):(Instr.index 121 (.agg #[x0,x1,x2,x3,x4,x5,x6,x7,x8,x9,x10,x11,x12,x13,x14,x15,x16,x17,x18,x19,x20,x21,x22,x23]) (.int .i64 0)).run Try.prog w=.ok (.agg #[x0,x1,x2,x3,x4,x5]) w:=by kernel_rfl
theorem pair_i1(x0 x1 x2 x3 x4 x5 x6 x7 x8 x9 x10 x11 x12 x13 x14 x15 x16 x17 x18 x19 x20 x21 x22 x23:Value)(w:World):(Instr.index 121 (.agg #[x0,x1,x2,x3,x4,x5,x6,x7,x8,x9,x10,x11,x12,x13,x14,x15,x16,x17,x18,x19,x20,x21,x22,x23]) (.int .i64 1)).run Try.prog w=.ok (.agg #[x6,x7,x8,x9,x10,x11]) w:=by kernel_rfl
theorem pair_i2(x0 x1 x2 x3 x4 x5 x6 x7 x8 x9 x10 x11 x12 x13 x14 x15 x16 x17 x18 x19 x20 x21 x22 x23:Value)(w:World):(Instr.index 121 (.agg #[x0,x1,x2,x3,x4,x5,x6,x7,x8,x9,x10,x11,x12,x13,x14,x15,x16,x17,x18,x19,x20,x21,x22,x23]) (.int .i64 2)).run Try.prog w=.ok (.agg #[x12,x13,x14,x15,x16,x17]) w:=by kernel_rfl
theorem pair_i3(x0 x1 x2 x3 x4 x5 x6 x7 x8 x9 x10 x11 x12 x13 x14 x15 x16 x17 x18 x19 x20 x21 x22 x23:Value)(w:World):(Instr.index 121 (.agg #[x0,x1,x2,x3,x4,x5,x6,x7,x8,x9,x10,x11,x12,x13,x14,x15,x16,x17,x18,x19,x20,x21,x22,x23]) (.int .i64 3)).run Try.prog w=.ok (.agg #[x18,x19,x20,x21,x22,x23]) w:=by kernel_rfl

set_option maxHeartbeats 8000000 in
set_option maxRecDepth 100000 in
theorem chk_f0(l:Ly)(p q:Mx×Mx)(sa:Option Addr)(sn sk:Nat)(ta:Option Addr)(tn tk:Nat)(pa:Option Addr)(pn pk:Nat)(qa:Option Addr)(qn qk:Nat)(xa:Option Addr)(xn xk:Nat)(ya:Option Addr)(yn yk:Nat)(w:World)(hs:I_ w (.slice sa sn sk) l.w.cells)(ht:I_ w (.slice ta tn tk) l.b.cells)(g0:l_ l≠0):
  Calls Try.prog 42 #[.agg #[.int .i64 l.k,.int .i64 l.w.rows,.int .i64 l.w.cols,.slice sa sn sk,.int .i64 l.b.rows,.int .i64 l.b.cols,.slice ta tn tk],.agg #[.int .i64 p.1.rows,.int .i64 p.1.cols,.slice pa pn pk,.int .i64 p.2.rows,.int .i64 p.2.cols,.slice qa qn qk],.agg #[.int .i64 q.1.rows,.int .i64 q.1.cols,.slice xa xn xk,.int .i64 q.2.rows,.int .i64 q.2.cols,.slice ya yn yk]] w fun e w'=>e=.returned (errV (l_ l))∧Below w.heap.size w w':=by
 obtain ⟨V,hV⟩:=gM (((w.alloc (.cells #[.int .i64 l.k,.int .i64 l.w.rows,.int .i64 l.w.cols,.slice sa sn sk,.int .i64 l.b.rows,.int .i64 l.b.cols,.slice ta tn tk] 52)).alloc (.cells #[.int .i64 p.1.rows,.int .i64 p.1.cols,.slice pa pn pk,.int .i64 p.2.rows,.int .i64 p.2.cols,.slice qa qn qk] 79)).alloc (.cells #[.int .i64 q.1.rows,.int .i64 q.1.cols,.slice xa xn xk,.int .i64 q.2.rows,.int .i64 q.2.cols,.slice ya yn yk] 79))
 have HV:=h_ hV
 have HWV:Hid (Below w.heap.size w V):=by rw[hV];exact h_ (a_ (a_ (a_ (Below.refl _ _))))
 have HC:=h_ (lcheck_any (.agg #[.int .i64 l.k,.int .i64 l.w.rows,.int .i64 l.w.cols,.slice sa sn sk,.int .i64 l.b.rows,.int .i64 l.b.cols,.slice ta tn tk]) l V ⟨_,_,rfl,hs.u_ HWV.out,ht.u_ HWV.out⟩)
 obtain ⟨E,hE⟩:=gN (l_ l)
 rw[hE]at g0
 rw[hE]
 rw[hE,n_ g0]at HC
 rw[n_ g0]
 clear hE hV hs ht
 go_enter Try.func42,Try.ntmps42
 go_wp2_with fail
 rw[←HV.out]
 refine HC.out.mono ?_
 rintro e w1 ⟨rfl,hb1⟩
 have HB1:=h_ hb1
 clear hb1 HC HV
 go_wp2
 go_ret
 exact ⟨rfl,b_ HWV.out HB1.out⟩
set_option maxHeartbeats 8000000 in
set_option maxRecDepth 100000 in
theorem chk_good(l:Ly)(p q:Mx×Mx)(sa:Option Addr)(sn sk:Nat)(ta:Option Addr)(tn tk:Nat)(pa:Option Addr)(pn pk:Nat)(qa:Option Addr)(qn qk:Nat)(xa:Option Addr)(xn xk:Nat)(ya:Option Addr)(yn yk:Nat)(w:World)(hs:I_ w (.slice sa sn sk) l.w.cells)(ht:I_ w (.slice ta tn tk) l.b.cells)(h1:I_ w (.slice pa pn pk) p.1.cells)(h2:I_ w (.slice qa qn qk) p.2.cells)(h3:I_ w (.slice xa xn xk) q.1.cells)(h4:I_ w (.slice ya yn yk) q.2.cells)(g0:l_ l=0):
  Calls Try.prog 42 #[.agg #[.int .i64 l.k,.int .i64 l.w.rows,.int .i64 l.w.cols,.slice sa sn sk,.int .i64 l.b.rows,.int .i64 l.b.cols,.slice ta tn tk],.agg #[.int .i64 p.1.rows,.int .i64 p.1.cols,.slice pa pn pk,.int .i64 p.2.rows,.int .i64 p.2.cols,.slice qa qn qk],.agg #[.int .i64 q.1.rows,.int .i64 q.1.cols,.slice xa xn xk,.int .i64 q.2.rows,.int .i64 q.2.cols,.slice ya yn yk]] w fun e w'=>e=.returned (errV (stp1E l p q))∧Below w.heap.size w w':=by
 obtain ⟨V,hV⟩:=gM (((w.alloc (.cells #[.int .i64 l.k,.int .i64 l.w.rows,.int .i64 l.w.cols,.slice sa sn sk,.int .i64 l.b.rows,.int .i64 l.b.cols,.slice ta tn tk] 52)).alloc (.cells #[.int .i64 p.1.rows,.int .i64 p.1.cols,.slice pa pn pk,.int .i64 p.2.rows,.int .i64 p.2.cols,.slice qa qn qk] 79)).alloc (.cells #[.int .i64 q.1.rows,.int .i64 q.1.cols,.slice xa xn xk,.int .i64 q.2.rows,.int .i64 q.2.cols,.slice ya yn yk] 79))
 have HV:=h_ hV
 have HWV:Hid (Below w.heap.size w V):=by rw[hV];exact h_ (a_ (a_ (a_ (Below.refl _ _))))
 have HC:=h_ (lcheck_any (.agg #[.int .i64 l.k,.int .i64 l.w.rows,.int .i64 l.w.cols,.slice sa sn sk,.int .i64 l.b.rows,.int .i64 l.b.cols,.slice ta tn tk]) l V ⟨_,_,rfl,hs.u_ HWV.out,ht.u_ HWV.out⟩)
 have HX0:Hid (Box V w.heap.size [.int .i64 l.k,.int .i64 l.w.rows,.int .i64 l.w.cols,.slice sa sn sk,.int .i64 l.b.rows,.int .i64 l.b.cols,.slice ta tn tk]):=by rw[hV];exact h_ ((Box.new w [.int .i64 l.k,.int .i64 l.w.rows,.int .i64 l.w.cols,.slice sa sn sk,.int .i64 l.b.rows,.int .i64 l.b.cols,.slice ta tn tk] 52 rfl).u_ (a_ (a_ (Below.refl _ _))))
 have HX1:Hid (Box V (w.heap.size+1) [.int .i64 p.1.rows,.int .i64 p.1.cols,.slice pa pn pk,.int .i64 p.2.rows,.int .i64 p.2.cols,.slice qa qn qk]):=by rw[hV];exact h_ ((Box.new _ [.int .i64 p.1.rows,.int .i64 p.1.cols,.slice pa pn pk,.int .i64 p.2.rows,.int .i64 p.2.cols,.slice qa qn qk] 79 (by simp)).u_ (a_ (Below.refl _ _)))
 have HX2:Hid (Box V (w.heap.size+1+1) [.int .i64 q.1.rows,.int .i64 q.1.cols,.slice xa xn xk,.int .i64 q.2.rows,.int .i64 q.2.cols,.slice ya yn yk]):=by rw[hV];exact h_ (Box.new _ [.int .i64 q.1.rows,.int .i64 q.1.cols,.slice xa xn xk,.int .i64 q.2.rows,.int .i64 q.2.cols,.slice ya yn yk] 79 (by simp))
 have HK1:=h_ (fun W (h:Below V.heap.size V W)=>C_ (.agg #[.int .i64 p.1.rows,.int .i64 p.1.cols,.slice pa pn pk]) p.1 W ⟨_,rfl,h1.u_ (b_ HWV.out h)⟩)
 have HK2:=h_ (fun W (h:Below V.heap.size V W)=>C_ (.agg #[.int .i64 p.2.rows,.int .i64 p.2.cols,.slice qa qn qk]) p.2 W ⟨_,rfl,h2.u_ (b_ HWV.out h)⟩)
 have HK3:=h_ (fun W (h:Below V.heap.size V W)=>C_ (.agg #[.int .i64 q.1.rows,.int .i64 q.1.cols,.slice xa xn xk]) q.1 W ⟨_,rfl,h3.u_ (b_ HWV.out h)⟩)
 have HK4:=h_ (fun W (h:Below V.heap.size V W)=>C_ (.agg #[.int .i64 q.2.rows,.int .i64 q.2.cols,.slice ya yn yk]) q.2 W ⟨_,rfl,h4.u_ (b_ HWV.out h)⟩)
 have HL0:=h_ g0
 rw[g0,e_ rfl]at HC
 obtain ⟨E,hE⟩:=gN (stp1E l p q)
 rw[hE]
 have HE:=h_ hE
 clear hE hV hs ht h1 h2 h3 h4 g0
 go_enter Try.func42,Try.ntmps42
 go_wp2_with fail
 rw[←HV.out]
 refine HC.out.mono ?_
 rintro e w1 ⟨rfl,hb1⟩
 have HB1:=h_ hb1
 clear hb1 HC HV
 obtain ⟨b00,b01,b02,b03,b04,b05,b06⟩:=(HX0.out.u_ HB1.out).c7
 obtain ⟨b10,b11,b12,b13,b14,b15⟩:=(HX1.out.u_ HB1.out).c6
 obtain ⟨b20,b21,b22,b23,b24,b25⟩:=(HX2.out.u_ HB1.out).c6
 go_wp2_with (first|(refine wpList_store_row rfl 121 _ _ rfl w1.heap.size #[.int .i64 p.1.rows,.int .i64 p.1.cols,.slice pa pn pk,.int .i64 l.w.rows,.int .i64 l.w.cols,.slice sa sn sk,.int .i64 p.2.rows,.int .i64 p.2.cols,.slice qa qn qk,.int .i64 l.b.rows,.int .i64 l.b.cols,.slice ta tn tk,.int .i64 q.1.rows,.int .i64 q.1.cols,.slice xa xn xk,.int .i64 l.w.rows,.int .i64 l.w.cols,.slice sa sn sk,.int .i64 q.2.rows,.int .i64 q.2.cols,.slice ya yn yk,.int .i64 l.b.rows,.int .i64 l.b.cols,.slice ta tn tk] rfl rfl 121 #[.int .i64 0,.int .i64 0,.slice none 0 0,.int .i64 0,.int .i64 0,.slice none 0 0,.int .i64 0,.int .i64 0,.slice none 0 0,.int .i64 0,.int .i64 0,.slice none 0 0,.int .i64 0,.int .i64 0,.slice none 0 0,.int .i64 0,.int .i64 0,.slice none 0 0,.int .i64 0,.int .i64 0,.slice none 0 0,.int .i64 0,.int .i64 0,.slice none 0 0] (heap_alloc_last _ _) (by kernel_rfl) rfl (by simp[Value.oneCell']) ?_;rw[World.setRow_alloc_new])|(refine wpList_load_row rfl 121 _ rfl w1.heap.size rfl 121 #[.int .i64 p.1.rows,.int .i64 p.1.cols,.slice pa pn pk,.int .i64 l.w.rows,.int .i64 l.w.cols,.slice sa sn sk,.int .i64 p.2.rows,.int .i64 p.2.cols,.slice qa qn qk,.int .i64 l.b.rows,.int .i64 l.b.cols,.slice ta tn tk,.int .i64 q.1.rows,.int .i64 q.1.cols,.slice xa xn xk,.int .i64 l.w.rows,.int .i64 l.w.cols,.slice sa sn sk,.int .i64 q.2.rows,.int .i64 q.2.cols,.slice ya yn yk,.int .i64 l.b.rows,.int .i64 l.b.cols,.slice ta tn tk] (0,0) _ (heap_alloc_last _ _) Try.underlying121 rfl (by kernel_rfl) ?_))
 clear b00 b01 b02 b03 b04 b05 b06 b10 b11 b12 b13 b14 b15 b20 b21 b22 b23 b24 b25
 have i0:∀w,(Instr.index 121 (.agg #[.int .i64 p.1.rows,.int .i64 p.1.cols,.slice pa pn pk,.int .i64 l.w.rows,.int .i64 l.w.cols,.slice sa sn sk,.int .i64 p.2.rows,.int .i64 p.2.cols,.slice qa qn qk,.int .i64 l.b.rows,.int .i64 l.b.cols,.slice ta tn tk,.int .i64 q.1.rows,.int .i64 q.1.cols,.slice xa xn xk,.int .i64 l.w.rows,.int .i64 l.w.cols,.slice sa sn sk,.int .i64 q.2.rows,.int .i64 q.2.cols,.slice ya yn yk,.int .i64 l.b.rows,.int .i64 l.b.cols,.slice ta tn tk]) (.int .i64 0)).run Try.prog w=.ok (.agg #[.int .i64 p.1.rows,.int .i64 p.1.cols,.slice pa pn pk,.int .i64 l.w.rows,.int .i64 l.w.cols,.slice sa sn sk]) w:=fun _=>pair_i0 _ _ _ _ _ _ _ _ _ _ _ _ _ _ _ _ _ _ _ _ _ _ _ _  _
 have i1:∀w,(Instr.index 121 (.agg #[.int .i64 p.1.rows,.int .i64 p.1.cols,.slice pa pn pk,.int .i64 l.w.rows,.int .i64 l.w.cols,.slice sa sn sk,.int .i64 p.2.rows,.int .i64 p.2.cols,.slice qa qn qk,.int .i64 l.b.rows,.int .i64 l.b.cols,.slice ta tn tk,.int .i64 q.1.rows,.int .i64 q.1.cols,.slice xa xn xk,.int .i64 l.w.rows,.int .i64 l.w.cols,.slice sa sn sk,.int .i64 q.2.rows,.int .i64 q.2.cols,.slice ya yn yk,.int .i64 l.b.rows,.int .i64 l.b.cols,.slice ta tn tk]) (.int .i64 1)).run Try.prog w=.ok (.agg #[.int .i64 p.2.rows,.int .i64 p.2.cols,.slice qa qn qk,.int .i64 l.b.rows,.int .i64 l.b.cols,.slice ta tn tk]) w:=fun _=>pair_i1 _ _ _ _ _ _ _ _ _ _ _ _ _ _ _ _ _ _ _ _ _ _ _ _  _
 have i2:∀w,(Instr.index 121 (.agg #[.int .i64 p.1.rows,.int .i64 p.1.cols,.slice pa pn pk,.int .i64 l.w.rows,.int .i64 l.w.cols,.slice sa sn sk,.int .i64 p.2.rows,.int .i64 p.2.cols,.slice qa qn qk,.int .i64 l.b.rows,.int .i64 l.b.cols,.slice ta tn tk,.int .i64 q.1.rows,.int .i64 q.1.cols,.slice xa xn xk,.int .i64 l.w.rows,.int .i64 l.w.cols,.slice sa sn sk,.int .i64 q.2.rows,.int .i64 q.2.cols,.slice ya yn yk,.int .i64 l.b.rows,.int .i64 l.b.cols,.slice ta tn tk]) (.int .i64 2)).run Try.prog w=.ok (.agg #[.int .i64 q.1.rows,.int .i64 q.1.cols,.slice xa xn xk,.int .i64 l.w.rows,.int .i64 l.w.cols,.slice sa sn sk]) w:=fun _=>pair_i2 _ _ _ _ _ _ _ _ _ _ _ _ _ _ _ _ _ _ _ _ _ _ _ _  _
 have i3:∀w,(Instr.index 121 (.agg #[.int .i64 p.1.rows,.int .i64 p.1.cols,.slice pa pn pk,.int .i64 l.w.rows,.int .i64 l.w.cols,.slice sa sn sk,.int .i64 p.2.rows,.int .i64 p.2.cols,.slice qa qn qk,.int .i64 l.b.rows,.int .i64 l.b.cols,.slice ta tn tk,.int .i64 q.1.rows,.int .i64 q.1.cols,.slice xa xn xk,.int .i64 l.w.rows,.int .i64 l.w.cols,.slice sa sn sk,.int .i64 q.2.rows,.int .i64 q.2.cols,.slice ya yn yk,.int .i64 l.b.rows,.int .i64 l.b.cols,.slice ta tn tk]) (.int .i64 3)).run Try.prog w=.ok (.agg #[.int .i64 q.2.rows,.int .i64 q.2.cols,.slice ya yn yk,.int .i64 l.b.rows,.int .i64 l.b.cols,.slice ta tn tk]) w:=fun _=>pair_i3 _ _ _ _ _ _ _ _ _ _ _ _ _ _ _ _ _ _ _ _ _ _ _ _  _
 obtain ⟨A,hA⟩:=gM (Value.agg #[.int .i64 p.1.rows,.int .i64 p.1.cols,.slice pa pn pk,.int .i64 l.w.rows,.int .i64 l.w.cols,.slice sa sn sk,.int .i64 p.2.rows,.int .i64 p.2.cols,.slice qa qn qk,.int .i64 l.b.rows,.int .i64 l.b.cols,.slice ta tn tk,.int .i64 q.1.rows,.int .i64 q.1.cols,.slice xa xn xk,.int .i64 l.w.rows,.int .i64 l.w.cols,.slice sa sn sk,.int .i64 q.2.rows,.int .i64 q.2.cols,.slice ya yn yk,.int .i64 l.b.rows,.int .i64 l.b.cols,.slice ta tn tk])
 rw[←hA]at i0 i1 i2 i3 ⊢
 clear hA
 go_loopw [41] (fun a wr=>∃(i:Nat) (c:Int),i≤4∧c=(i:Int)∧a=.int .i64 c∧(0<i→q_ p.1=0)∧(1<i→q_ p.2=0)∧(2<i→q_ q.1=0)∧(3<i→q_ q.2=0)∧wr.heap[w1.heap.size]?=some (.cells #[.int .i64 p.1.rows,.int .i64 p.1.cols,.slice pa pn pk,.int .i64 l.w.rows,.int .i64 l.w.cols,.slice sa sn sk,.int .i64 p.2.rows,.int .i64 p.2.cols,.slice qa qn qk,.int .i64 l.b.rows,.int .i64 l.b.cols,.slice ta tn tk,.int .i64 q.1.rows,.int .i64 q.1.cols,.slice xa xn xk,.int .i64 l.w.rows,.int .i64 l.w.cols,.slice sa sn sk,.int .i64 q.2.rows,.int .i64 q.2.cols,.slice ya yn yk,.int .i64 l.b.rows,.int .i64 l.b.cols,.slice ta tn tk] 121)∧Below w1.heap.size w1 wr) (fun a _=>4 - (intOf a).toNat)
 case atStart=>exact ⟨0,0,Nat.zero_le _,rfl,rfl,(fun h=>by omega),(fun h=>by omega),(fun h=>by omega),(fun h=>by omega),heap_alloc_last _ _,o_ _ _⟩
 case round=>
  obtain ⟨i,c,hi,hc,rfl,f1,f2,f3,f4,hbx,hbw⟩:=hrel
  have HBX:=h_ hbx
  have HBL:=h_ (show w1.heap.size<wr.heap.size from heap_lt hbx)
  have HBW:=h_ (b_ HB1.out hbw)
  have HB0:=h_ hbw
  clear hbx hbw
  have hcase:i=0∨i=1∨i=2∨i=3∨i=4:=by omega
  clear hi
  rcases hcase with rfl|rfl|rfl|rfl|rfl
  ·obtain rfl:c=0:=hc
   by_cases gk:q_ p.1=0
   ·have HF:=h_ (show q_ p.1=0 from gk)
    have HC:=h_ (HK1.out (wr.alloc (.cells #[.int .i64 p.1.rows,.int .i64 p.1.cols,.slice pa pn pk,.int .i64 l.w.rows,.int .i64 l.w.cols,.slice sa sn sk] 120)) (a_ HBW.out))
    rw[gk,e_ rfl]at HC
    clear f1 f2 f3 f4 gk
    go_wp2_with fail
    refine HC.out.mono ?_
    rintro e w2 ⟨rfl,hb2⟩
    have HB2:=h_ (b_ (o_ wr (.cells #[.int .i64 p.1.rows,.int .i64 p.1.cols,.slice pa pn pk,.int .i64 l.w.rows,.int .i64 l.w.cols,.slice sa sn sk] 120)) hb2)
    clear hb2 HC
    go_wp2
    go_roundw
    case rel=>exact ⟨1,1,by decide,rfl,rfl,(fun _=>HF.out),(fun h=>by omega),(fun h=>by omega),(fun h=>by omega),(HB2.out.block _ HBL.out).trans HBX.out,b_ HB0.out HB2.out⟩
    case measure=>simp[intOf]
   ·have HEE:=h_ (show q_ p.1=E from (stp1_f1 HL0.out  gk).symm.trans HE.out)
    have HEZ:=h_ (show E≠0 by rw[←HEE.out];exact gk)
    have HC:=h_ (HK1.out (wr.alloc (.cells #[.int .i64 p.1.rows,.int .i64 p.1.cols,.slice pa pn pk,.int .i64 l.w.rows,.int .i64 l.w.cols,.slice sa sn sk] 120)) (a_ HBW.out))
    rw[HEE.out,n_ HEZ.out]at HC
    clear f1 f2 f3 f4 gk
    go_wp2_with fail
    refine HC.out.mono ?_
    rintro e w2 ⟨rfl,hb2⟩
    have HB2:=h_ (b_ (o_ wr (.cells #[.int .i64 p.1.rows,.int .i64 p.1.cols,.slice pa pn pk,.int .i64 l.w.rows,.int .i64 l.w.cols,.slice sa sn sk] 120)) hb2)
    clear hb2 HC
    go_wp2
    go_ret
    exact ⟨R_ (by rw[n_ HEZ.out];rfl),b_ HWV.out (b_ HBW.out HB2.out)⟩
  ·obtain rfl:c=1:=hc
   by_cases gk:q_ p.2=0
   ·have HF:=h_ (show q_ p.1=0∧q_ p.2=0 from ⟨f1 (by decide),gk⟩)
    have HC:=h_ (HK2.out (wr.alloc (.cells #[.int .i64 p.2.rows,.int .i64 p.2.cols,.slice qa qn qk,.int .i64 l.b.rows,.int .i64 l.b.cols,.slice ta tn tk] 120)) (a_ HBW.out))
    rw[gk,e_ rfl]at HC
    clear f1 f2 f3 f4 gk
    go_wp2_with fail
    refine HC.out.mono ?_
    rintro e w2 ⟨rfl,hb2⟩
    have HB2:=h_ (b_ (o_ wr (.cells #[.int .i64 p.2.rows,.int .i64 p.2.cols,.slice qa qn qk,.int .i64 l.b.rows,.int .i64 l.b.cols,.slice ta tn tk] 120)) hb2)
    clear hb2 HC
    go_wp2
    go_roundw
    case rel=>exact ⟨2,2,by decide,rfl,rfl,(fun _=>HF.out.1),(fun _=>HF.out.2),(fun h=>by omega),(fun h=>by omega),(HB2.out.block _ HBL.out).trans HBX.out,b_ HB0.out HB2.out⟩
    case measure=>simp[intOf]
   ·have HEE:=h_ (show q_ p.2=E from (stp1_f2 HL0.out (f1 (by decide)) gk).symm.trans HE.out)
    have HEZ:=h_ (show E≠0 by rw[←HEE.out];exact gk)
    have HC:=h_ (HK2.out (wr.alloc (.cells #[.int .i64 p.2.rows,.int .i64 p.2.cols,.slice qa qn qk,.int .i64 l.b.rows,.int .i64 l.b.cols,.slice ta tn tk] 120)) (a_ HBW.out))
    rw[HEE.out,n_ HEZ.out]at HC
    clear f1 f2 f3 f4 gk
    go_wp2_with fail
    refine HC.out.mono ?_
    rintro e w2 ⟨rfl,hb2⟩
    have HB2:=h_ (b_ (o_ wr (.cells #[.int .i64 p.2.rows,.int .i64 p.2.cols,.slice qa qn qk,.int .i64 l.b.rows,.int .i64 l.b.cols,.slice ta tn tk] 120)) hb2)
    clear hb2 HC
    go_wp2
    go_ret
    exact ⟨R_ (by rw[n_ HEZ.out];rfl),b_ HWV.out (b_ HBW.out HB2.out)⟩
  ·obtain rfl:c=2:=hc
   by_cases gk:q_ q.1=0
   ·have HF:=h_ (show q_ p.1=0∧q_ p.2=0∧q_ q.1=0 from ⟨f1 (by decide),⟨f2 (by decide),gk⟩⟩)
    have HC:=h_ (HK3.out (wr.alloc (.cells #[.int .i64 q.1.rows,.int .i64 q.1.cols,.slice xa xn xk,.int .i64 l.w.rows,.int .i64 l.w.cols,.slice sa sn sk] 120)) (a_ HBW.out))
    rw[gk,e_ rfl]at HC
    clear f1 f2 f3 f4 gk
    go_wp2_with fail
    refine HC.out.mono ?_
    rintro e w2 ⟨rfl,hb2⟩
    have HB2:=h_ (b_ (o_ wr (.cells #[.int .i64 q.1.rows,.int .i64 q.1.cols,.slice xa xn xk,.int .i64 l.w.rows,.int .i64 l.w.cols,.slice sa sn sk] 120)) hb2)
    clear hb2 HC
    go_wp2
    go_roundw
    case rel=>exact ⟨3,3,by decide,rfl,rfl,(fun _=>HF.out.1),(fun _=>HF.out.2.1),(fun _=>HF.out.2.2),(fun h=>by omega),(HB2.out.block _ HBL.out).trans HBX.out,b_ HB0.out HB2.out⟩
    case measure=>simp[intOf]
   ·have HEE:=h_ (show q_ q.1=E from (stp1_f3 HL0.out (f1 (by decide)) (f2 (by decide)) gk).symm.trans HE.out)
    have HEZ:=h_ (show E≠0 by rw[←HEE.out];exact gk)
    have HC:=h_ (HK3.out (wr.alloc (.cells #[.int .i64 q.1.rows,.int .i64 q.1.cols,.slice xa xn xk,.int .i64 l.w.rows,.int .i64 l.w.cols,.slice sa sn sk] 120)) (a_ HBW.out))
    rw[HEE.out,n_ HEZ.out]at HC
    clear f1 f2 f3 f4 gk
    go_wp2_with fail
    refine HC.out.mono ?_
    rintro e w2 ⟨rfl,hb2⟩
    have HB2:=h_ (b_ (o_ wr (.cells #[.int .i64 q.1.rows,.int .i64 q.1.cols,.slice xa xn xk,.int .i64 l.w.rows,.int .i64 l.w.cols,.slice sa sn sk] 120)) hb2)
    clear hb2 HC
    go_wp2
    go_ret
    exact ⟨R_ (by rw[n_ HEZ.out];rfl),b_ HWV.out (b_ HBW.out HB2.out)⟩
  ·obtain rfl:c=3:=hc
   by_cases gk:q_ q.2=0
   ·have HF:=h_ (show q_ p.1=0∧q_ p.2=0∧q_ q.1=0∧q_ q.2=0 from ⟨f1 (by decide),⟨f2 (by decide),⟨f3 (by decide),gk⟩⟩⟩)
    have HC:=h_ (HK4.out (wr.alloc (.cells #[.int .i64 q.2.rows,.int .i64 q.2.cols,.slice ya yn yk,.int .i64 l.b.rows,.int .i64 l.b.cols,.slice ta tn tk] 120)) (a_ HBW.out))
    rw[gk,e_ rfl]at HC
    clear f1 f2 f3 f4 gk
    go_wp2_with fail
    refine HC.out.mono ?_
    rintro e w2 ⟨rfl,hb2⟩
    have HB2:=h_ (b_ (o_ wr (.cells #[.int .i64 q.2.rows,.int .i64 q.2.cols,.slice ya yn yk,.int .i64 l.b.rows,.int .i64 l.b.cols,.slice ta tn tk] 120)) hb2)
    clear hb2 HC
    go_wp2
    go_roundw
    case rel=>exact ⟨4,4,by decide,rfl,rfl,(fun _=>HF.out.1),(fun _=>HF.out.2.1),(fun _=>HF.out.2.2.1),(fun _=>HF.out.2.2.2),(HB2.out.block _ HBL.out).trans HBX.out,b_ HB0.out HB2.out⟩
    case measure=>simp[intOf]
   ·have HEE:=h_ (show q_ q.2=E from (stp1_f4 HL0.out (f1 (by decide)) (f2 (by decide)) (f3 (by decide)) gk).symm.trans HE.out)
    have HEZ:=h_ (show E≠0 by rw[←HEE.out];exact gk)
    have HC:=h_ (HK4.out (wr.alloc (.cells #[.int .i64 q.2.rows,.int .i64 q.2.cols,.slice ya yn yk,.int .i64 l.b.rows,.int .i64 l.b.cols,.slice ta tn tk] 120)) (a_ HBW.out))
    rw[HEE.out,n_ HEZ.out]at HC
    clear f1 f2 f3 f4 gk
    go_wp2_with fail
    refine HC.out.mono ?_
    rintro e w2 ⟨rfl,hb2⟩
    have HB2:=h_ (b_ (o_ wr (.cells #[.int .i64 q.2.rows,.int .i64 q.2.cols,.slice ya yn yk,.int .i64 l.b.rows,.int .i64 l.b.cols,.slice ta tn tk] 120)) hb2)
    clear hb2 HC
    go_wp2
    go_ret
    exact ⟨R_ (by rw[n_ HEZ.out];rfl),b_ HWV.out (b_ HBW.out HB2.out)⟩
  ·obtain rfl:c=4:=hc
   have HE2:=h_ ((stp1_f5 HL0.out (f1 (by decide)) (f2 (by decide)) (f3 (by decide)) (f4 (by decide))).symm.trans HE.out)
   clear f1 f2 f3 f4 HK1 HK2 HK3 HK4 i0 i1 i2 i3
   go_wp2_with (refine wpList_load_row rfl 121 _ rfl w1.heap.size rfl 121 #[.int .i64 p.1.rows,.int .i64 p.1.cols,.slice pa pn pk,.int .i64 l.w.rows,.int .i64 l.w.cols,.slice sa sn sk,.int .i64 p.2.rows,.int .i64 p.2.cols,.slice qa qn qk,.int .i64 l.b.rows,.int .i64 l.b.cols,.slice ta tn tk,.int .i64 q.1.rows,.int .i64 q.1.cols,.slice xa xn xk,.int .i64 l.w.rows,.int .i64 l.w.cols,.slice sa sn sk,.int .i64 q.2.rows,.int .i64 q.2.cols,.slice ya yn yk,.int .i64 l.b.rows,.int .i64 l.b.cols,.slice ta tn tk] (0,0) _ HBX.out Try.underlying121 rfl (by kernel_rfl) ?_)
   have i0:∀w,(Instr.index 121 (.agg #[.int .i64 p.1.rows,.int .i64 p.1.cols,.slice pa pn pk,.int .i64 l.w.rows,.int .i64 l.w.cols,.slice sa sn sk,.int .i64 p.2.rows,.int .i64 p.2.cols,.slice qa qn qk,.int .i64 l.b.rows,.int .i64 l.b.cols,.slice ta tn tk,.int .i64 q.1.rows,.int .i64 q.1.cols,.slice xa xn xk,.int .i64 l.w.rows,.int .i64 l.w.cols,.slice sa sn sk,.int .i64 q.2.rows,.int .i64 q.2.cols,.slice ya yn yk,.int .i64 l.b.rows,.int .i64 l.b.cols,.slice ta tn tk]) (.int .i64 0)).run Try.prog w=.ok (.agg #[.int .i64 p.1.rows,.int .i64 p.1.cols,.slice pa pn pk,.int .i64 l.w.rows,.int .i64 l.w.cols,.slice sa sn sk]) w:=fun _=>pair_i0 _ _ _ _ _ _ _ _ _ _ _ _ _ _ _ _ _ _ _ _ _ _ _ _  _
   have i1:∀w,(Instr.index 121 (.agg #[.int .i64 p.1.rows,.int .i64 p.1.cols,.slice pa pn pk,.int .i64 l.w.rows,.int .i64 l.w.cols,.slice sa sn sk,.int .i64 p.2.rows,.int .i64 p.2.cols,.slice qa qn qk,.int .i64 l.b.rows,.int .i64 l.b.cols,.slice ta tn tk,.int .i64 q.1.rows,.int .i64 q.1.cols,.slice xa xn xk,.int .i64 l.w.rows,.int .i64 l.w.cols,.slice sa sn sk,.int .i64 q.2.rows,.int .i64 q.2.cols,.slice ya yn yk,.int .i64 l.b.rows,.int .i64 l.b.cols,.slice ta tn tk]) (.int .i64 1)).run Try.prog w=.ok (.agg #[.int .i64 p.2.rows,.int .i64 p.2.cols,.slice qa qn qk,.int .i64 l.b.rows,.int .i64 l.b.cols,.slice ta tn tk]) w:=fun _=>pair_i1 _ _ _ _ _ _ _ _ _ _ _ _ _ _ _ _ _ _ _ _ _ _ _ _  _
   have i2:∀w,(Instr.index 121 (.agg #[.int .i64 p.1.rows,.int .i64 p.1.cols,.slice pa pn pk,.int .i64 l.w.rows,.int .i64 l.w.cols,.slice sa sn sk,.int .i64 p.2.rows,.int .i64 p.2.cols,.slice qa qn qk,.int .i64 l.b.rows,.int .i64 l.b.cols,.slice ta tn tk,.int .i64 q.1.rows,.int .i64 q.1.cols,.slice xa xn xk,.int .i64 l.w.rows,.int .i64 l.w.cols,.slice sa sn sk,.int .i64 q.2.rows,.int .i64 q.2.cols,.slice ya yn yk,.int .i64 l.b.rows,.int .i64 l.b.cols,.slice ta tn tk]) (.int .i64 2)).run Try.prog w=.ok (.agg #[.int .i64 q.1.rows,.int .i64 q.1.cols,.slice xa xn xk,.int .i64 l.w.rows,.int .i64 l.w.cols,.slice sa sn sk]) w:=fun _=>pair_i2 _ _ _ _ _ _ _ _ _ _ _ _ _ _ _ _ _ _ _ _ _ _ _ _  _
   have i3:∀w,(Instr.index 121 (.agg #[.int .i64 p.1.rows,.int .i64 p.1.cols,.slice pa pn pk,.int .i64 l.w.rows,.int .i64 l.w.cols,.slice sa sn sk,.int .i64 p.2.rows,.int .i64 p.2.cols,.slice qa qn qk,.int .i64 l.b.rows,.int .i64 l.b.cols,.slice ta tn tk,.int .i64 q.1.rows,.int .i64 q.1.cols,.slice xa xn xk,.int .i64 l.w.rows,.int .i64 l.w.cols,.slice sa sn sk,.int .i64 q.2.rows,.int .i64 q.2.cols,.slice ya yn yk,.int .i64 l.b.rows,.int .i64 l.b.cols,.slice ta tn tk]) (.int .i64 3)).run Try.prog w=.ok (.agg #[.int .i64 q.2.rows,.int .i64 q.2.cols,.slice ya yn yk,.int .i64 l.b.rows,.int .i64 l.b.cols,.slice ta tn tk]) w:=fun _=>pair_i3 _ _ _ _ _ _ _ _ _ _ _ _ _ _ _ _ _ _ _ _ _ _ _ _  _
   obtain ⟨B,hB⟩:=gM (Value.agg #[.int .i64 p.1.rows,.int .i64 p.1.cols,.slice pa pn pk,.int .i64 l.w.rows,.int .i64 l.w.cols,.slice sa sn sk,.int .i64 p.2.rows,.int .i64 p.2.cols,.slice qa qn qk,.int .i64 l.b.rows,.int .i64 l.b.cols,.slice ta tn tk,.int .i64 q.1.rows,.int .i64 q.1.cols,.slice xa xn xk,.int .i64 l.w.rows,.int .i64 l.w.cols,.slice sa sn sk,.int .i64 q.2.rows,.int .i64 q.2.cols,.slice ya yn yk,.int .i64 l.b.rows,.int .i64 l.b.cols,.slice ta tn tk])
   rw[←hB]at i0 i1 i2 i3 ⊢
   clear hB
   go_loopw [52] (fun a wq=>∃(i:Nat) (c:Int),i≤4∧c=(i:Int)∧a=.int .i64 c∧(0<i→H_ p.1 l.w=true)∧(1<i→H_ p.2 l.b=true)∧(2<i→H_ q.1 l.w=true)∧(3<i→H_ q.2 l.b=true)∧Below wr.heap.size wr wq) (fun a _=>4 - (intOf a).toNat)
   case atStart=>exact ⟨0,0,Nat.zero_le _,rfl,rfl,(fun h=>by omega),(fun h=>by omega),(fun h=>by omega),(fun h=>by omega),Below.refl _ _⟩
   case round=>
    obtain ⟨i,c,hi,hc,rfl,f1,f2,f3,f4,hbq⟩:=hrel
    have HBQ:=h_ (b_ HWV.out (b_ HBW.out hbq))
    have HQ0:=h_ hbq
    clear hbq
    have hcase:i=0∨i=1∨i=2∨i=3∨i=4:=by omega
    clear hi
    rcases hcase with rfl|rfl|rfl|rfl|rfl
    ·obtain rfl:c=0:=hc
     by_cases gr:p.1.rows=l.w.rows
     ·by_cases gc:p.1.cols=l.w.cols
      ·have HF:=h_ (show H_ p.1 l.w=true from sameSh_t gr gc)
       have x1:=eqF gr
       have x2:=eqF gc
       clear f1 f2 f3 f4 gr gc
       go_wp2
       go_roundw
       case rel=>exact ⟨1,1,by decide,rfl,rfl,(fun _=>HF.out),(fun h=>by omega),(fun h=>by omega),(fun h=>by omega),b_ HQ0.out (o_ _ _)⟩
       case measure=>simp[intOf]
      ·have hsh:=sameSh_c gc
       have HE3:=h_ (show (2:Int)=E by have h:=HE2.out;rw[if_pos (.inl hsh)]at h;exact h)
       have x1:=eqF gr
       have x2:=eqT gc
       clear f1 f2 f3 f4 hsh gr gc
       go_wp2
       go_ret
       exact ⟨R_ (by rw[←HE3.out];rfl),b_ HBQ.out (o_ _ _)⟩
     ·have hsh:=sameSh_r gr
      have HE3:=h_ (show (2:Int)=E by have h:=HE2.out;rw[if_pos (.inl hsh)]at h;exact h)
      have x1:=eqT gr
      clear f1 f2 f3 f4 hsh gr
      go_wp2
      go_ret
      exact ⟨R_ (by rw[←HE3.out];rfl),b_ HBQ.out (o_ _ _)⟩
    ·obtain rfl:c=1:=hc
     by_cases gr:p.2.rows=l.b.rows
     ·by_cases gc:p.2.cols=l.b.cols
      ·have HF:=h_ (show H_ p.1 l.w=true∧H_ p.2 l.b=true from ⟨f1 (by decide),sameSh_t gr gc⟩)
       have x1:=eqF gr
       have x2:=eqF gc
       clear f1 f2 f3 f4 gr gc
       go_wp2
       go_roundw
       case rel=>exact ⟨2,2,by decide,rfl,rfl,(fun _=>HF.out.1),(fun _=>HF.out.2),(fun h=>by omega),(fun h=>by omega),b_ HQ0.out (o_ _ _)⟩
       case measure=>simp[intOf]
      ·have hsh:=sameSh_c gc
       have HE3:=h_ (show (2:Int)=E by have h:=HE2.out;rw[if_pos (.inr (.inl hsh))]at h;exact h)
       have x1:=eqF gr
       have x2:=eqT gc
       clear f1 f2 f3 f4 hsh gr gc
       go_wp2
       go_ret
       exact ⟨R_ (by rw[←HE3.out];rfl),b_ HBQ.out (o_ _ _)⟩
     ·have hsh:=sameSh_r gr
      have HE3:=h_ (show (2:Int)=E by have h:=HE2.out;rw[if_pos (.inr (.inl hsh))]at h;exact h)
      have x1:=eqT gr
      clear f1 f2 f3 f4 hsh gr
      go_wp2
      go_ret
      exact ⟨R_ (by rw[←HE3.out];rfl),b_ HBQ.out (o_ _ _)⟩
    ·obtain rfl:c=2:=hc
     by_cases gr:q.1.rows=l.w.rows
     ·by_cases gc:q.1.cols=l.w.cols
      ·have HF:=h_ (show H_ p.1 l.w=true∧H_ p.2 l.b=true∧H_ q.1 l.w=true from ⟨f1 (by decide),⟨f2 (by decide),sameSh_t gr gc⟩⟩)
       have x1:=eqF gr
       have x2:=eqF gc
       clear f1 f2 f3 f4 gr gc
       go_wp2
       go_roundw
       case rel=>exact ⟨3,3,by decide,rfl,rfl,(fun _=>HF.out.1),(fun _=>HF.out.2.1),(fun _=>HF.out.2.2),(fun h=>by omega),b_ HQ0.out (o_ _ _)⟩
       case measure=>simp[intOf]
      ·have hsh:=sameSh_c gc
       have HE3:=h_ (show (2:Int)=E by have h:=HE2.out;rw[if_pos (.inr (.inr (.inl hsh)))]at h;exact h)
       have x1:=eqF gr
       have x2:=eqT gc
       clear f1 f2 f3 f4 hsh gr gc
       go_wp2
       go_ret
       exact ⟨R_ (by rw[←HE3.out];rfl),b_ HBQ.out (o_ _ _)⟩
     ·have hsh:=sameSh_r gr
      have HE3:=h_ (show (2:Int)=E by have h:=HE2.out;rw[if_pos (.inr (.inr (.inl hsh)))]at h;exact h)
      have x1:=eqT gr
      clear f1 f2 f3 f4 hsh gr
      go_wp2
      go_ret
      exact ⟨R_ (by rw[←HE3.out];rfl),b_ HBQ.out (o_ _ _)⟩
    ·obtain rfl:c=3:=hc
     by_cases gr:q.2.rows=l.b.rows
     ·by_cases gc:q.2.cols=l.b.cols
      ·have HF:=h_ (show H_ p.1 l.w=true∧H_ p.2 l.b=true∧H_ q.1 l.w=true∧H_ q.2 l.b=true from ⟨f1 (by decide),⟨f2 (by decide),⟨f3 (by decide),sameSh_t gr gc⟩⟩⟩)
       have x1:=eqF gr
       have x2:=eqF gc
       clear f1 f2 f3 f4 gr gc
       go_wp2
       go_roundw
       case rel=>exact ⟨4,4,by decide,rfl,rfl,(fun _=>HF.out.1),(fun _=>HF.out.2.1),(fun _=>HF.out.2.2.1),(fun _=>HF.out.2.2.2),b_ HQ0.out (o_ _ _)⟩
       case measure=>simp[intOf]
      ·have hsh:=sameSh_c gc
       have HE3:=h_ (show (2:Int)=E by have h:=HE2.out;rw[if_pos (.inr (.inr (.inr (hsh))))]at h;exact h)
       have x1:=eqF gr
       have x2:=eqT gc
       clear f1 f2 f3 f4 hsh gr gc
       go_wp2
       go_ret
       exact ⟨R_ (by rw[←HE3.out];rfl),b_ HBQ.out (o_ _ _)⟩
     ·have hsh:=sameSh_r gr
      have HE3:=h_ (show (2:Int)=E by have h:=HE2.out;rw[if_pos (.inr (.inr (.inr (hsh))))]at h;exact h)
      have x1:=eqT gr
      clear f1 f2 f3 f4 hsh gr
      go_wp2
      go_ret
      exact ⟨R_ (by rw[←HE3.out];rfl),b_ HBQ.out (o_ _ _)⟩
    ·obtain rfl:c=4:=hc
     have HE3:=h_ (show (0:Int)=E by have h:=HE2.out;rw[if_neg (by rw[f1 (by decide),f2 (by decide),f3 (by decide),f4 (by decide)];simp)]at h;exact h)
     clear f1 f2 f3 f4
     go_wp2
     go_ret
     exact ⟨R_ (by rw[←HE3.out];rfl),HBQ.out⟩
theorem chklayer_any(l:Ly)(p q:Mx×Mx)(sa:Option Addr)(sn sk:Nat)(ta:Option Addr)(tn tk:Nat)(pa:Option Addr)(pn pk:Nat)(qa:Option Addr)(qn qk:Nat)(xa:Option Addr)(xn xk:Nat)(ya:Option Addr)(yn yk:Nat)(w:World)(hs:I_ w (.slice sa sn sk) l.w.cells)(ht:I_ w (.slice ta tn tk) l.b.cells)(h1:I_ w (.slice pa pn pk) p.1.cells)(h2:I_ w (.slice qa qn qk) p.2.cells)(h3:I_ w (.slice xa xn xk) q.1.cells)(h4:I_ w (.slice ya yn yk) q.2.cells):
  Calls Try.prog 42 #[.agg #[.int .i64 l.k,.int .i64 l.w.rows,.int .i64 l.w.cols,.slice sa sn sk,.int .i64 l.b.rows,.int .i64 l.b.cols,.slice ta tn tk],.agg #[.int .i64 p.1.rows,.int .i64 p.1.cols,.slice pa pn pk,.int .i64 p.2.rows,.int .i64 p.2.cols,.slice qa qn qk],.agg #[.int .i64 q.1.rows,.int .i64 q.1.cols,.slice xa xn xk,.int .i64 q.2.rows,.int .i64 q.2.cols,.slice ya yn yk]] w fun e w'=>e=.returned (errV (stp1E l p q))∧Below w.heap.size w w':=by
 by_cases g0:l_ l=0
 ·exact chk_good l p q sa sn sk ta tn tk pa pn pk qa qn qk xa xn xk ya yn yk w hs ht h1 h2 h3 h4 g0
 ·rw[stp1_f0 g0]
  exact chk_f0 l p q sa sn sk ta tn tk pa pn pk qa qn qk xa xn xk ya yn yk w hs ht g0
end Go.Proofs.Ytniloklglpchfaf
