/- What Check and Wide of package layer come to, for every layer. -/
import Derived.Test.YtniloklglpchfafLAt
namespace Go.Proofs.Ytniloklglpchfaf
open Go.RowKit
set_option maxHeartbeats 800000 in
theorem lcheck_kind(k:Int)(Ty:Nat)(l:Ly){xa:Option Addr}{xn xk:Nat}{ya:Option Addr}{yn yk:Nat}(w:World)(hK:∀W:World,Below w.heap.size w W→Calls Try.prog 52 #[.agg #[.int .i64 k,.int .i64 l.w.rows,.int .i64 l.w.cols,.slice xa xn xk,.int .i64 l.b.rows,.int .i64 l.b.cols,.slice ya yn yk]] W fun e w'=>e=.returned (.tuple #[kindR (l_ l) Ty (.agg #[.int .i64 l.w.rows,.int .i64 l.w.cols,.slice xa xn xk,.int .i64 l.b.rows,.int .i64 l.b.cols,.slice ya yn yk]),errV (l_ l)])∧Below W.heap.size W w'):
  Calls Try.prog 63 #[.agg #[.int .i64 k,.int .i64 l.w.rows,.int .i64 l.w.cols,.slice xa xn xk,.int .i64 l.b.rows,.int .i64 l.b.cols,.slice ya yn yk]] w fun e w'=>e=.returned (errV (l_ l))∧Below w.heap.size w w':=by
 obtain ⟨wr,e1⟩:=gN (l.w.rows)
 obtain ⟨wc,e2⟩:=gN (l.w.cols)
 obtain ⟨br,e3⟩:=gN (l.b.rows)
 obtain ⟨bc,e4⟩:=gN (l.b.cols)
 have HK:=h_ hK
 rw[e1,e2,e3,e4]at HK
 rw[e1,e2,e3,e4]
 obtain ⟨E,hE⟩:=gN (l_ l)
 rw[hE]at HK ⊢
 clear e1 e2 e3 e4 hE
 go_enter Try.func63,Try.ntmps63
 go_wp2_with fail
 refine (HK.out _ (o_ _ _)).mono ?_
 rintro e w1 ⟨rfl,hb1⟩
 go_wp2
 go_ret
 exact ⟨rfl,below_box (Below.refl _ _) hb1⟩
set_option maxHeartbeats 800000 in
theorem lwide_kind(k:Int)(Ty:Nat)(l:Ly){xa:Option Addr}{xn xk:Nat}{ya:Option Addr}{yn yk:Nat}(n:Int)(w:World)(hK:∀W:World,Below w.heap.size w W→Calls Try.prog 52 #[.agg #[.int .i64 k,.int .i64 l.w.rows,.int .i64 l.w.cols,.slice xa xn xk,.int .i64 l.b.rows,.int .i64 l.b.cols,.slice ya yn yk]] W fun e w'=>e=.returned (.tuple #[kindR (l_ l) Ty (.agg #[.int .i64 l.w.rows,.int .i64 l.w.cols,.slice xa xn xk,.int .i64 l.b.rows,.int .i64 l.b.cols,.slice ya yn yk]),errV (l_ l)])∧Below W.heap.size W w')(hW:∀(n:Int) (W:World),Calls Try.prog 54 #[.iface Ty (.agg #[.int .i64 l.w.rows,.int .i64 l.w.cols,.slice xa xn xk,.int .i64 l.b.rows,.int .i64 l.b.cols,.slice ya yn yk]),.int .i64 n] W fun e w'=>e=.returned (.tuple #[.int .i64 (w0X l n),errV (w0E l n)])∧Below W.heap.size W w'):
  Calls Try.prog 71 #[.agg #[.int .i64 k,.int .i64 l.w.rows,.int .i64 l.w.cols,.slice xa xn xk,.int .i64 l.b.rows,.int .i64 l.b.cols,.slice ya yn yk],.int .i64 n] w fun e w'=>e=.returned (.tuple #[.int .i64 (wideX l n),errV (wideE l n)])∧Below w.heap.size w w':=by
 obtain ⟨wr,e1⟩:=gN (l.w.rows)
 obtain ⟨wc,e2⟩:=gN (l.w.cols)
 obtain ⟨br,e3⟩:=gN (l.b.rows)
 obtain ⟨bc,e4⟩:=gN (l.b.cols)
 have HK:=h_ hK
 have HWD:=h_ (hW n)
 rw[e1,e2,e3,e4]at HK HWD
 rw[e1,e2,e3,e4]
 have HX:=h_ (fun h:l_ l=0=>(And.intro (wideX_eq l n h) (wideE_eq l n h)))
 have HY:=h_ (fun h:l_ l≠0=>(And.intro (wideX_l n h) (wideE_l n h)))
 obtain ⟨E,hE⟩:=gN (l_ l)
 rw[hE]at HK HX HY
 clear e1 e2 e3 e4 hE
 go_enter Try.func71,Try.ntmps71
 go_wp2_with fail
 refine (HK.out _ (o_ _ _)).mono ?_
 rintro e w1 ⟨rfl,hb1⟩
 have HB1:=h_ (below_box (Below.refl _ _) hb1)
 clear hb1
 by_cases h0:E=0
 ·subst h0
  rw[←kindR_yes rfl,e_ rfl]
  go_wp2_with fail
  refine (HWD.out _).mono ?_
  rintro e w2 ⟨rfl,hb2⟩
  have HB2:=h_ (b_ HB1.out hb2)
  clear hb2
  go_wp2
  go_ret2
  have h:=HX.out (by first|rfl|trivial)
  exact ⟨by rw[h.1,h.2];rfl,HB2.out⟩
 ·rw[←K_ h0,n_ h0]
  have H0:=h_ h0
  clear h0
  go_wp2
  go_ret2
  have h:=HY.out H0.out
  exact ⟨ret_two (int_eq h.1) (by rw[h.2,n_ H0.out];rfl),HB1.out⟩
theorem lcheck_linear(l:Ly){xa:Option Addr}{xn xk:Nat}{ya:Option Addr}{yn yk:Nat}(w:World)(hk:l.k=1)(hs:I_ w (.slice xa xn xk) l.w.cells)(ht:I_ w (.slice ya yn yk) l.b.cells):
  Calls Try.prog 63 #[.agg #[.int .i64 1,.int .i64 l.w.rows,.int .i64 l.w.cols,.slice xa xn xk,.int .i64 l.b.rows,.int .i64 l.b.cols,.slice ya yn yk]] w fun e w'=>e=.returned (errV (l_ l))∧Below w.heap.size w w':=
 lcheck_kind 1 136 l w (fun W h=>kindof_linear l W hk (hs.u_ h) (ht.u_ h))
theorem lwide_linear(l:Ly){xa:Option Addr}{xn xk:Nat}{ya:Option Addr}{yn yk:Nat}(n:Int)(w:World)(hk:l.k=1)(hs:I_ w (.slice xa xn xk) l.w.cells)(ht:I_ w (.slice ya yn yk) l.b.cells):
  Calls Try.prog 71 #[.agg #[.int .i64 1,.int .i64 l.w.rows,.int .i64 l.w.cols,.slice xa xn xk,.int .i64 l.b.rows,.int .i64 l.b.cols,.slice ya yn yk],.int .i64 n] w fun e w'=>e=.returned (.tuple #[.int .i64 (wideX l n),errV (wideE l n)])∧Below w.heap.size w w':=
 lwide_kind 1 136 l n w (fun W h=>kindof_linear l W hk (hs.u_ h) (ht.u_ h)) (fun n W=>wide_linear l n _ _ _ _ xa xn xk ya yn yk W hk rfl rfl rfl)
theorem lcheck_relu(l:Ly){xa:Option Addr}{xn xk:Nat}{ya:Option Addr}{yn yk:Nat}(w:World)(hk:l.k=2)(hs:I_ w (.slice xa xn xk) l.w.cells)(ht:I_ w (.slice ya yn yk) l.b.cells):
  Calls Try.prog 63 #[.agg #[.int .i64 2,.int .i64 l.w.rows,.int .i64 l.w.cols,.slice xa xn xk,.int .i64 l.b.rows,.int .i64 l.b.cols,.slice ya yn yk]] w fun e w'=>e=.returned (errV (l_ l))∧Below w.heap.size w w':=
 lcheck_kind 2 139 l w (fun W h=>kindof_relu l W hk (hs.u_ h) (ht.u_ h))
theorem lwide_relu(l:Ly){xa:Option Addr}{xn xk:Nat}{ya:Option Addr}{yn yk:Nat}(n:Int)(w:World)(hk:l.k=2)(hs:I_ w (.slice xa xn xk) l.w.cells)(ht:I_ w (.slice ya yn yk) l.b.cells):
  Calls Try.prog 71 #[.agg #[.int .i64 2,.int .i64 l.w.rows,.int .i64 l.w.cols,.slice xa xn xk,.int .i64 l.b.rows,.int .i64 l.b.cols,.slice ya yn yk],.int .i64 n] w fun e w'=>e=.returned (.tuple #[.int .i64 (wideX l n),errV (wideE l n)])∧Below w.heap.size w w':=
 lwide_kind 2 139 l n w (fun W h=>kindof_relu l W hk (hs.u_ h) (ht.u_ h)) (fun n W=>wide_relu l n _ _ _ _ xa xn xk ya yn yk W hk rfl rfl rfl)
theorem lcheck_scale(l:Ly){xa:Option Addr}{xn xk:Nat}{ya:Option Addr}{yn yk:Nat}(w:World)(hk:l.k=3)(hs:I_ w (.slice xa xn xk) l.w.cells)(ht:I_ w (.slice ya yn yk) l.b.cells):
  Calls Try.prog 63 #[.agg #[.int .i64 3,.int .i64 l.w.rows,.int .i64 l.w.cols,.slice xa xn xk,.int .i64 l.b.rows,.int .i64 l.b.cols,.slice ya yn yk]] w fun e w'=>e=.returned (errV (l_ l))∧Below w.heap.size w w':=
 lcheck_kind 3 140 l w (fun W h=>kindof_scale l W hk (hs.u_ h) (ht.u_ h))
theorem lwide_scale(l:Ly){xa:Option Addr}{xn xk:Nat}{ya:Option Addr}{yn yk:Nat}(n:Int)(w:World)(hk:l.k=3)(hs:I_ w (.slice xa xn xk) l.w.cells)(ht:I_ w (.slice ya yn yk) l.b.cells):
  Calls Try.prog 71 #[.agg #[.int .i64 3,.int .i64 l.w.rows,.int .i64 l.w.cols,.slice xa xn xk,.int .i64 l.b.rows,.int .i64 l.b.cols,.slice ya yn yk],.int .i64 n] w fun e w'=>e=.returned (.tuple #[.int .i64 (wideX l n),errV (wideE l n)])∧Below w.heap.size w w':=
 lwide_kind 3 140 l n w (fun W h=>kindof_scale l W hk (hs.u_ h) (ht.u_ h)) (fun n W=>wide_scale l n _ _ _ _ xa xn xk ya yn yk W hk rfl rfl rfl)
theorem lcheck_shift(l:Ly){xa:Option Addr}{xn xk:Nat}{ya:Option Addr}{yn yk:Nat}(w:World)(hk:l.k=4)(hs:I_ w (.slice xa xn xk) l.w.cells)(ht:I_ w (.slice ya yn yk) l.b.cells):
  Calls Try.prog 63 #[.agg #[.int .i64 4,.int .i64 l.w.rows,.int .i64 l.w.cols,.slice xa xn xk,.int .i64 l.b.rows,.int .i64 l.b.cols,.slice ya yn yk]] w fun e w'=>e=.returned (errV (l_ l))∧Below w.heap.size w w':=
 lcheck_kind 4 141 l w (fun W h=>kindof_shift l W hk (hs.u_ h) (ht.u_ h))
theorem lwide_shift(l:Ly){xa:Option Addr}{xn xk:Nat}{ya:Option Addr}{yn yk:Nat}(n:Int)(w:World)(hk:l.k=4)(hs:I_ w (.slice xa xn xk) l.w.cells)(ht:I_ w (.slice ya yn yk) l.b.cells):
  Calls Try.prog 71 #[.agg #[.int .i64 4,.int .i64 l.w.rows,.int .i64 l.w.cols,.slice xa xn xk,.int .i64 l.b.rows,.int .i64 l.b.cols,.slice ya yn yk],.int .i64 n] w fun e w'=>e=.returned (.tuple #[.int .i64 (wideX l n),errV (wideE l n)])∧Below w.heap.size w w':=
 lwide_kind 4 141 l n w (fun W h=>kindof_shift l W hk (hs.u_ h) (ht.u_ h)) (fun n W=>wide_shift l n _ _ _ _ xa xn xk ya yn yk W hk rfl rfl rfl)
set_option maxHeartbeats 400000 in
theorem lcheck_none(k:Int)(wr wc br bc:Int)(xa:Option Addr)(xn xk:Nat)(ya:Option Addr)(yn yk:Nat)(w:World)(hk:k<1∨4<k):Calls Try.prog 63 #[.agg #[.int .i64 k,.int .i64 wr,.int .i64 wc,.slice xa xn xk,.int .i64 br,.int .i64 bc,.slice ya yn yk]] w fun e w'=>e=.returned (errV 1)∧Below w.heap.size w w':=by
 have HN:=h_ (fun W=>kindof_none k wr wc br bc xa xn xk ya yn yk W hk)
 clear hk
 go_enter Try.func63,Try.ntmps63
 go_wp2_with fail
 refine (HN.out _).mono ?_
 rintro e w1 ⟨rfl,hb1⟩
 go_wp2
 go_ret
 exact ⟨rfl,below_box (Below.refl _ _) hb1⟩
set_option maxHeartbeats 400000 in
theorem lwide_none(k:Int)(wr wc br bc:Int)(xa:Option Addr)(xn xk:Nat)(ya:Option Addr)(yn yk:Nat)(n:Int)(w:World)(hk:k<1∨4<k):Calls Try.prog 71 #[.agg #[.int .i64 k,.int .i64 wr,.int .i64 wc,.slice xa xn xk,.int .i64 br,.int .i64 bc,.slice ya yn yk],.int .i64 n] w fun e w'=>e=.returned (.tuple #[.int .i64 0,errV 1])∧Below w.heap.size w w':=by
 have HN:=h_ (fun W=>kindof_none k wr wc br bc xa xn xk ya yn yk W hk)
 clear hk
 go_enter Try.func71,Try.ntmps71
 go_wp2_with fail
 refine (HN.out _).mono ?_
 rintro e w1 ⟨rfl,hb1⟩
 rw[n_ (show (1:Int)≠0 by decide)]
 have W1:=h_ (below_box (Below.refl _ _) hb1)
 clear hb1
 go_wp2
 go_ret2
 exact ⟨rfl,W1.out⟩
theorem lcheck_any(v:Value)(l:Ly)  (w:World) (hv:IsLy w v l):Calls Try.prog 63 #[v] w fun e w'=>e=.returned (errV (l_ l))∧Below w.heap.size w w':=by
 obtain ⟨s,t,rfl,hs,ht⟩:=hv
 obtain ⟨xa,xn,xk,rfl⟩:=hs.shape
 obtain ⟨ya,yn,yk,rfl⟩:=ht.shape
 by_cases h1:l.k=1
 ·rw[h1];exact lcheck_linear l  w h1 hs ht 
 ·by_cases h2:l.k=2
  ·rw[h2];exact lcheck_relu l  w h2 hs ht 
  ·by_cases h3:l.k=3
   ·rw[h3];exact lcheck_scale l  w h3 hs ht 
   ·by_cases h4:l.k=4
    ·rw[h4];exact lcheck_shift l  w h4 hs ht 
    ·have hk:l.k<1∨4<l.k:=by omega
     rw[lfault_k hk]
     exact lcheck_none l.k _ _ _ _ xa xn xk ya yn yk w hk
theorem lwide_any(v:Value)(l:Ly)(n:Int)(w:World)(hv:IsLy w v l):Calls Try.prog 71 #[v,.int .i64 n] w fun e w'=>e=.returned (.tuple #[.int .i64 (wideX l n),errV (wideE l n)])∧Below w.heap.size w w':=by
 obtain ⟨s,t,rfl,hs,ht⟩:=hv
 obtain ⟨xa,xn,xk,rfl⟩:=hs.shape
 obtain ⟨ya,yn,yk,rfl⟩:=ht.shape
 by_cases h1:l.k=1
 ·rw[h1];exact lwide_linear l n w h1 hs ht 
 ·by_cases h2:l.k=2
  ·rw[h2];exact lwide_relu l n w h2 hs ht 
  ·by_cases h3:l.k=3
   ·rw[h3];exact lwide_scale l n w h3 hs ht 
   ·by_cases h4:l.k=4
    ·rw[h4];exact lwide_shift l n w h4 hs ht 
    ·have hk:l.k<1∨4<l.k:=by omega
     have hE:=lfault_k hk
     rw[←wideX_l n (by rw[hE];decide),wideE_l n (by rw[hE];decide),hE]
     exact lwide_none l.k _ _ _ _ xa xn xk ya yn yk n w hk
end Go.Proofs.Ytniloklglpchfaf
