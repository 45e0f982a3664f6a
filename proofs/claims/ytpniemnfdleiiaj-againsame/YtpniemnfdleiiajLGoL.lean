/- Go and Back of package layer, for each of the four kinds. -/
import Derived.Test.YtpniemnfdleiiajLGoK
namespace Go.Proofs.Ytpniemnfdleiiaj
open Go.RowKit
theorem lgo_linear(l:Ly){xa:Option Addr}{xn xk:Nat}{ya:Option Addr}{yn yk:Nat}(x:Mx)(vx:Value)(w:World)(hk:l.k=1)(hs:I_ w (.slice xa xn xk) l.w.cells)(ht:I_ w (.slice ya yn yk) l.b.cells)(hx:M_ w vx x):
  Calls Try.prog 18 #[.agg #[.int .i64 1,.int .i64 l.w.rows,.int .i64 l.w.cols,.slice xa xn xk,.int .i64 l.b.rows,.int .i64 l.b.cols,.slice ya yn yk],vx] w (MxErr w (goX l x) (goE l x)):=
 lgo_kind 1 96 64 l x vx w hx (fun W v h hv=>ready_linear l x v W hk (hs.u_ h) (ht.u_ h) hv) (enters_of Try.func64 (by kernel_rfl) rfl) (fun W v h h0 hv=>forth_at_linear l x v W hk h0 (hs.u_ h) (ht.u_ h) hv) (fun _ _ _ _ _=>by kernel_rfl)
theorem lback_linear(l:Ly){xa:Option Addr}{xn xk:Nat}{ya:Option Addr}{yn yk:Nat}(x g:Mx)(vx vg:Value)(w:World)(hk:l.k=1)(hs:I_ w (.slice xa xn xk) l.w.cells)(ht:I_ w (.slice ya yn yk) l.b.cells)(hx:M_ w vx x)(hg:M_ w vg g):
  Calls Try.prog 22 #[.agg #[.int .i64 1,.int .i64 l.w.rows,.int .i64 l.w.cols,.slice xa xn xk,.int .i64 l.b.rows,.int .i64 l.b.cols,.slice ya yn yk],vx,vg] w (BackErr w (backX l x g) (gradW l x g) (gradB l x g) (backE l x g)):=
 lback_kind 1 96 62 l x g vx vg w hx hg (fun W v h hv=>ready_linear l x v W hk (hs.u_ h) (ht.u_ h) hv) (enters_of Try.func62 (by kernel_rfl) rfl) (fun W v u h h0 h1 h2 hv hu=>back_at_linear l x g v u W hk h0 h1 h2 (hs.u_ h) hv hu) (fun _ _ _ _ _=>by kernel_rfl)
theorem lgo_relu(l:Ly){xa:Option Addr}{xn xk:Nat}{ya:Option Addr}{yn yk:Nat}(x:Mx)(vx:Value)(w:World)(hk:l.k=2)(hs:I_ w (.slice xa xn xk) l.w.cells)(ht:I_ w (.slice ya yn yk) l.b.cells)(hx:M_ w vx x):
  Calls Try.prog 18 #[.agg #[.int .i64 2,.int .i64 l.w.rows,.int .i64 l.w.cols,.slice xa xn xk,.int .i64 l.b.rows,.int .i64 l.b.cols,.slice ya yn yk],vx] w (MxErr w (goX l x) (goE l x)):=
 lgo_kind 2 99 82 l x vx w hx (fun W v h hv=>ready_relu l x v W hk (hs.u_ h) (ht.u_ h) hv) (enters_of Try.func82 (by kernel_rfl) rfl) (fun W v h h0 hv=>forth_at_relu l x v W hk h0 (hs.u_ h) (ht.u_ h) hv) (fun _ _ _ _ _=>by kernel_rfl)
theorem lback_relu(l:Ly){xa:Option Addr}{xn xk:Nat}{ya:Option Addr}{yn yk:Nat}(x g:Mx)(vx vg:Value)(w:World)(hk:l.k=2)(hs:I_ w (.slice xa xn xk) l.w.cells)(ht:I_ w (.slice ya yn yk) l.b.cells)(hx:M_ w vx x)(hg:M_ w vg g):
  Calls Try.prog 22 #[.agg #[.int .i64 2,.int .i64 l.w.rows,.int .i64 l.w.cols,.slice xa xn xk,.int .i64 l.b.rows,.int .i64 l.b.cols,.slice ya yn yk],vx,vg] w (BackErr w (backX l x g) (gradW l x g) (gradB l x g) (backE l x g)):=
 lback_kind 2 99 80 l x g vx vg w hx hg (fun W v h hv=>ready_relu l x v W hk (hs.u_ h) (ht.u_ h) hv) (enters_of Try.func80 (by kernel_rfl) rfl) (fun W v u h h0 h1 h2 hv hu=>back_at_relu l x g v u W hk h0 h1 h2 (hs.u_ h) hv hu) (fun _ _ _ _ _=>by kernel_rfl)
theorem lgo_scale(l:Ly){xa:Option Addr}{xn xk:Nat}{ya:Option Addr}{yn yk:Nat}(x:Mx)(vx:Value)(w:World)(hk:l.k=3)(hs:I_ w (.slice xa xn xk) l.w.cells)(ht:I_ w (.slice ya yn yk) l.b.cells)(hx:M_ w vx x):
  Calls Try.prog 18 #[.agg #[.int .i64 3,.int .i64 l.w.rows,.int .i64 l.w.cols,.slice xa xn xk,.int .i64 l.b.rows,.int .i64 l.b.cols,.slice ya yn yk],vx] w (MxErr w (goX l x) (goE l x)):=
 lgo_kind 3 100 87 l x vx w hx (fun W v h hv=>ready_scale l x v W hk (hs.u_ h) (ht.u_ h) hv) (enters_of Try.func87 (by kernel_rfl) rfl) (fun W v h h0 hv=>forth_at_scale l x v W hk h0 (hs.u_ h) (ht.u_ h) hv) (fun _ _ _ _ _=>by kernel_rfl)
theorem lback_scale(l:Ly){xa:Option Addr}{xn xk:Nat}{ya:Option Addr}{yn yk:Nat}(x g:Mx)(vx vg:Value)(w:World)(hk:l.k=3)(hs:I_ w (.slice xa xn xk) l.w.cells)(ht:I_ w (.slice ya yn yk) l.b.cells)(hx:M_ w vx x)(hg:M_ w vg g):
  Calls Try.prog 22 #[.agg #[.int .i64 3,.int .i64 l.w.rows,.int .i64 l.w.cols,.slice xa xn xk,.int .i64 l.b.rows,.int .i64 l.b.cols,.slice ya yn yk],vx,vg] w (BackErr w (backX l x g) (gradW l x g) (gradB l x g) (backE l x g)):=
 lback_kind 3 100 85 l x g vx vg w hx hg (fun W v h hv=>ready_scale l x v W hk (hs.u_ h) (ht.u_ h) hv) (enters_of Try.func85 (by kernel_rfl) rfl) (fun W v u h h0 h1 h2 hv hu=>back_at_scale l x g v u W hk h0 h1 h2 (hs.u_ h) hv hu) (fun _ _ _ _ _=>by kernel_rfl)
theorem lgo_shift(l:Ly){xa:Option Addr}{xn xk:Nat}{ya:Option Addr}{yn yk:Nat}(x:Mx)(vx:Value)(w:World)(hk:l.k=4)(hs:I_ w (.slice xa xn xk) l.w.cells)(ht:I_ w (.slice ya yn yk) l.b.cells)(hx:M_ w vx x):
  Calls Try.prog 18 #[.agg #[.int .i64 4,.int .i64 l.w.rows,.int .i64 l.w.cols,.slice xa xn xk,.int .i64 l.b.rows,.int .i64 l.b.cols,.slice ya yn yk],vx] w (MxErr w (goX l x) (goE l x)):=
 lgo_kind 4 101 92 l x vx w hx (fun W v h hv=>ready_shift l x v W hk (hs.u_ h) (ht.u_ h) hv) (enters_of Try.func92 (by kernel_rfl) rfl) (fun W v h h0 hv=>forth_at_shift l x v W hk h0 (hs.u_ h) (ht.u_ h) hv) (fun _ _ _ _ _=>by kernel_rfl)
theorem lback_shift(l:Ly){xa:Option Addr}{xn xk:Nat}{ya:Option Addr}{yn yk:Nat}(x g:Mx)(vx vg:Value)(w:World)(hk:l.k=4)(hs:I_ w (.slice xa xn xk) l.w.cells)(ht:I_ w (.slice ya yn yk) l.b.cells)(hx:M_ w vx x)(hg:M_ w vg g):
  Calls Try.prog 22 #[.agg #[.int .i64 4,.int .i64 l.w.rows,.int .i64 l.w.cols,.slice xa xn xk,.int .i64 l.b.rows,.int .i64 l.b.cols,.slice ya yn yk],vx,vg] w (BackErr w (backX l x g) (gradW l x g) (gradB l x g) (backE l x g)):=
 lback_kind 4 101 90 l x g vx vg w hx hg (fun W v h hv=>ready_shift l x v W hk (hs.u_ h) (ht.u_ h) hv) (enters_of Try.func90 (by kernel_rfl) rfl) (fun W v u h h0 h1 h2 hv hu=>back_at_shift l x g v u W hk h0 h1 h2 (hs.u_ h) hv hu) (fun _ _ _ _ _=>by kernel_rfl)
end Go.Proofs.Ytpniemnfdleiiaj
