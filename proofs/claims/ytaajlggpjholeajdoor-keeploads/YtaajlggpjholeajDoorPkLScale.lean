/- What back of the kind Scale of package layer comes to. -/
import Derived.Test.YtaajlggpjholeajDoorPkLForth
import Derived.Test.YtaajlggpjholeajDoorLKind
import Derived.Test.YtaajlggpjholeajDoorPkLBox
namespace Go.Proofs.YtaajlggpjholeajDoor
open Go.RowKit
set_option maxHeartbeats 800000 in
theorem lcheck_kind(k:Int)(Ty:Nat)(l:Ly){xa:Option Addr}{xn xk:Nat}{ya:Option Addr}{yn yk:Nat}(w:World)(hK:∀W:World,Below w.heap.size w W→Calls Tryd.prog 61 #[.agg #[.int .i64 k,.int .i64 l.w.rows,.int .i64 l.w.cols,.slice xa xn xk,.int .i64 l.b.rows,.int .i64 l.b.cols,.slice ya yn yk]] W fun e w'=>e=.returned (.tuple #[kindR (l_ l) Ty (.agg #[.int .i64 l.w.rows,.int .i64 l.w.cols,.slice xa xn xk,.int .i64 l.b.rows,.int .i64 l.b.cols,.slice ya yn yk]),errV (l_ l)])∧Below W.heap.size W w'):
  Calls Tryd.prog 43 #[.agg #[.int .i64 k,.int .i64 l.w.rows,.int .i64 l.w.cols,.slice xa xn xk,.int .i64 l.b.rows,.int .i64 l.b.cols,.slice ya yn yk]] w fun e w'=>e=.returned (errV (l_ l))∧Below w.heap.size w w':=by
 obtain ⟨wr,e1⟩:=gN (l.w.rows)
 obtain ⟨wc,e2⟩:=gN (l.w.cols)
 obtain ⟨br,e3⟩:=gN (l.b.rows)
 obtain ⟨bc,e4⟩:=gN (l.b.cols)
 have HK:=h_ hK
 rw[e1,e2,e3,e4]at HK
 rw[e1,e2,e3,e4]
 obtain ⟨E,hE⟩:=gN (l_ l)
 rw[hE]at HK ⊢
 clear e1 e2 e3 e4 hE
 go_enter Tryd.func43,Tryd.ntmps43
 go_wp2_with fail
 refine (HK.out _ (o_ _ _)).mono ?_
 rintro e w1 ⟨rfl,hb1⟩
 go_wp2
 go_ret
 exact ⟨rfl,below_box (Below.refl _ _) hb1⟩
theorem lcheck_linear(l:Ly){xa:Option Addr}{xn xk:Nat}{ya:Option Addr}{yn yk:Nat}(w:World)(hk:l.k=1)(hs:I_ w (.slice xa xn xk) l.w.cells)(ht:I_ w (.slice ya yn yk) l.b.cells):
  Calls Tryd.prog 43 #[.agg #[.int .i64 1,.int .i64 l.w.rows,.int .i64 l.w.cols,.slice xa xn xk,.int .i64 l.b.rows,.int .i64 l.b.cols,.slice ya yn yk]] w fun e w'=>e=.returned (errV (l_ l))∧Below w.heap.size w w':=
 lcheck_kind 1 142 l w (fun W h=>kindof_linear l W hk (hs.u_ h) (ht.u_ h))
theorem lcheck_relu(l:Ly){xa:Option Addr}{xn xk:Nat}{ya:Option Addr}{yn yk:Nat}(w:World)(hk:l.k=2)(hs:I_ w (.slice xa xn xk) l.w.cells)(ht:I_ w (.slice ya yn yk) l.b.cells):
  Calls Tryd.prog 43 #[.agg #[.int .i64 2,.int .i64 l.w.rows,.int .i64 l.w.cols,.slice xa xn xk,.int .i64 l.b.rows,.int .i64 l.b.cols,.slice ya yn yk]] w fun e w'=>e=.returned (errV (l_ l))∧Below w.heap.size w w':=
 lcheck_kind 2 145 l w (fun W h=>kindof_relu l W hk (hs.u_ h) (ht.u_ h))
theorem lcheck_scale(l:Ly){xa:Option Addr}{xn xk:Nat}{ya:Option Addr}{yn yk:Nat}(w:World)(hk:l.k=3)(hs:I_ w (.slice xa xn xk) l.w.cells)(ht:I_ w (.slice ya yn yk) l.b.cells):
  Calls Tryd.prog 43 #[.agg #[.int .i64 3,.int .i64 l.w.rows,.int .i64 l.w.cols,.slice xa xn xk,.int .i64 l.b.rows,.int .i64 l.b.cols,.slice ya yn yk]] w fun e w'=>e=.returned (errV (l_ l))∧Below w.heap.size w w':=
 lcheck_kind 3 146 l w (fun W h=>kindof_scale l W hk (hs.u_ h) (ht.u_ h))
theorem lcheck_shift(l:Ly){xa:Option Addr}{xn xk:Nat}{ya:Option Addr}{yn yk:Nat}(w:World)(hk:l.k=4)(hs:I_ w (.slice xa xn xk) l.w.cells)(ht:I_ w (.slice ya yn yk) l.b.cells):
  Calls Tryd.prog 43 #[.agg #[.int .i64 4,.int .i64 l.w.rows,.int .i64 l.w.cols,.slice xa xn xk,.int .i64 l.b.rows,.int .i64 l.b.cols,.slice ya yn yk]] w fun e w'=>e=.returned (errV (l_ l))∧Below w.heap.size w w':=
 lcheck_kind 4 147 l w (fun W h=>kindof_shift l W hk (hs.u_ h) (ht.u_ h))
set_option maxHeartbeats 400000 in
theorem lcheck_none(k:Int)(wr wc br bc:Int)(xa:Option Addr)(xn xk:Nat)(ya:Option Addr)(yn yk:Nat)(w:World)(hk:k<1∨4<k):Calls Tryd.prog 43 #[.agg #[.int .i64 k,.int .i64 wr,.int .i64 wc,.slice xa xn xk,.int .i64 br,.int .i64 bc,.slice ya yn yk]] w fun e w'=>e=.returned (errV 1)∧Below w.heap.size w w':=by
 have HN:=h_ (fun W=>kindof_none k wr wc br bc xa xn xk ya yn yk W hk)
 clear hk
 go_enter Tryd.func43,Tryd.ntmps43
 go_wp2_with fail
 refine (HN.out _).mono ?_
 rintro e w1 ⟨rfl,hb1⟩
 go_wp2
 go_ret
 exact ⟨rfl,below_box (Below.refl _ _) hb1⟩
theorem lcheck_any(v:Value)(l:Ly)  (w:World) (hv:IsLy w v l):Calls Tryd.prog 43 #[v] w fun e w'=>e=.returned (errV (l_ l))∧Below w.heap.size w w':=by
 obtain ⟨s,t,rfl,hs,ht⟩:=hv
 obtain ⟨xa,xn,xk,rfl⟩:=hs.shape
 obtain ⟨ya,yn,yk,rfl⟩:=ht.shape
 by_cases h1:l.k=1
 ·rw[h1];exact lcheck_linear l  w h1 hs ht 
 ·by_cases h2:l.k=2
  ·rw[h2];exact lcheck_relu l  w h2 hs ht 
  ·by_cases h3:l.k=3
   ·rw[h3];exact lcheck_scale l  w h3 hs ht 
   ·by_cases h4:l.k=4
    ·rw[h4];exact lcheck_shift l  w h4 hs ht 
    ·have hk:l.k<1∨4<l.k:=by omega
     rw[lfault_k hk]
     exact lcheck_none l.k _ _ _ _ xa xn xk ya yn yk w hk
end Go.Proofs.YtaajlggpjholeajDoor
