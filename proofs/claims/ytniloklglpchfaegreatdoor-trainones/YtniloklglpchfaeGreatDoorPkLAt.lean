/- What Check, Wide, Go and Back of package layer come to. -/
import Derived.Test.YtniloklglpchfaeGreatDoorLKind
import Derived.Test.YtniloklglpchfaeGreatDoorLScale
import Derived.Test.YtniloklglpchfaeGreatDoorPkLBox
namespace Go.Proofs.YtniloklglpchfaeGreatDoor
open Go.RowKit
theorem goX_no{l:Ly}{x:Mx}(h:goE l x≠0):goX l x=noMx:=by unfold goX;rw[if_neg h]
theorem backX_no{l:Ly}{x g:Mx}(h:backE l x g≠0):backX l x g=noMx∧gradW l x g=noMx∧gradB l x g=noMx:=by unfold backX gradW gradB;rw[if_neg h,if_neg h,if_neg h];exact ⟨rfl,rfl,rfl⟩
theorem wideE_eq(l:Ly)(n:Int)(h:l_ l=0):wideE l n=w0E l n:=by unfold wideE w0E;rw[if_neg (by simp[h])]
theorem wideX_eq(l:Ly)(n:Int)(h:l_ l=0):wideX l n=w0X l n:=by unfold wideX w0X;rw[wideE_eq l n h]
theorem wideE_l{l:Ly}(n:Int)(h:l_ l≠0):wideE l n=l_ l:=by unfold wideE;rw[if_pos h]
theorem wideX_l{l:Ly}(n:Int)(h:l_ l≠0):0=wideX l n:=by unfold wideX;rw[if_neg (by rw[wideE_l n h];exact h)]
theorem backE_go{l:Ly}{x g:Mx}(h:goE l x≠0):backE l x g=goE l x:=by unfold backE;rw[if_pos h]
theorem backE_g{l:Ly}{x g:Mx}(h:goE l x=0)(hg:q_ g≠0):backE l x g=q_ g:=by unfold backE;rw[if_neg (by simp[h]),if_pos hg]
theorem backE_s{l:Ly}{x g:Mx}(h:goE l x=0)(hg:q_ g=0)(hs:¬(g.rows=x.rows∧g.cols=g_ l x.cols)):backE l x g=2:=by
 unfold backE;rw[if_neg (by simp[h]),if_neg (by simp[hg]),if_pos (by omega)]
theorem backE_f{l:Ly}{x g:Mx}(h:goE l x=0)(hg:q_ g=0)(hs:g.rows=x.rows∧g.cols=g_ l x.cols)(hf:l.k=1∧12<x.rows):backE l x g=1:=by
 unfold backE;rw[if_neg (by simp[h]),if_neg (by simp[hg]),if_neg (by omega),if_pos hf]
theorem forth_at_linear(l:Ly){xa:Option Addr}{xn xk:Nat}{ya:Option Addr}{yn yk:Nat}(x:Mx)(vx:Value)(w:World)(hk:l.k=1)(h:goE l x=0)(hs:I_ w (.slice xa xn xk) l.w.cells)(ht:I_ w (.slice ya yn yk) l.b.cells)(hx:M_ w vx x):
  Calls Tryz.prog 158 #[.agg #[.int .i64 l.w.rows,.int .i64 l.w.cols,.slice xa xn xk,.int .i64 l.b.rows,.int .i64 l.b.cols,.slice ya yn yk],vx] w (MxErr w (goX l x) (goE l x)):=by
 obtain ⟨hl,hfx,htk⟩:=goE_zero h
 obtain ⟨R,C,gx⟩:=o__ hfx
 cases lyG_of hl using LyG.el with
 |lin Rw Cw _ gw gb h1 h2 h3=>
  have e:=takes_lin hk htk
  have:=forth_linear l x vx w R Rw Cw (gx.same rfl (by have:=gx.c;have:=gw.r;omega)) gw gb h3 hs ht hx
  rw[show goX l x=addRows (mulX x l.w) l.b by unfold goX goG;rw[if_pos h,if_pos hk],h]
  exact this
 |relu hk' _ _=>omega
 |scale hk' _ _=>omega
 |shift _ hk' _ _ _=>omega
theorem back_at_linear(l:Ly){xa:Option Addr}{xn xk:Nat}{ya:Option Addr}{yn yk:Nat}(x g:Mx)(vx vg:Value)(w:World)(hk:l.k=1)(h:goE l x=0)(hfg:q_ g=0)(hsh:g.rows=x.rows∧g.cols=g_ l x.cols)(hs:I_ w (.slice xa xn xk) l.w.cells)(hx:M_ w vx x)(hg:M_ w vg g):
  Calls Tryz.prog 156 #[.agg #[.int .i64 l.w.rows,.int .i64 l.w.cols,.slice xa xn xk,.int .i64 l.b.rows,.int .i64 l.b.cols,.slice ya yn yk],vx,vg] w (BackErr w (backX l x g) (gradW l x g) (gradB l x g) (backE l x g)):=by
 obtain ⟨hl,hfx,htk⟩:=goE_zero h
 obtain ⟨R,C,gx⟩:=o__ hfx
 obtain ⟨Rg,Cg,gg⟩:=o__ hfg
 cases lyG_of hl using LyG.el with
 |lin Rw Cw _ gw gb h1 h2 h3=>
  have e:=takes_lin hk htk
  have ec:g_ l x.cols=l.w.cols:=by unfold g_;rw[if_pos hk]
  have gx':=gx.same (R':=R) (C':=Rw) rfl (by have:=gx.c;have:=gw.r;omega)
  have gg':=gg.same (R':=R) (C':=Cw) (by have:=gg.r;have:=gx.r;have:=hsh.1;omega) (by have:=gg.c;have:=gw.c;have:=hsh.2;omega)
  by_cases hR:R≤12
  ·have hE:backE l x g=0:=backE_of h hfg hsh.1 hsh.2 (by have:=gx.r;omega)
   rw[show backX l x g=mulX g (turnX l.w) by unfold backX backG;rw[if_pos hE,if_pos hk],show gradW l x g=mulX (turnX x) g by unfold gradW;rw[if_pos hE,if_pos hk],show gradB l x g=sumsX g by unfold gradB;rw[if_pos hE,if_pos (.inl hk)],hE]
   exact back_linear l x g vx vg w R Rw Cw gx' gw gg' h2 hR hs hx hg
  ·have hE:backE l x g=1:=backE_f h hfg hsh ⟨hk,by have:=gx.r;omega⟩
   obtain ⟨n1,n2,n3⟩:=backX_no (show backE l x g≠0 by rw[hE];decide)
   rw[n1,n2,n3,hE]
   exact back_linear_far l x g vx vg w R Rw Cw gx' gw gg' h2 (by omega) hs hx hg
 |relu hk' _ _=>omega
 |scale hk' _ _=>omega
 |shift _ hk' _ _ _=>omega
theorem forth_at_relu(l:Ly){xa:Option Addr}{xn xk:Nat}{ya:Option Addr}{yn yk:Nat}(x:Mx)(vx:Value)(w:World)(hk:l.k=2)(h:goE l x=0)(_hs:I_ w (.slice xa xn xk) l.w.cells)(_ht:I_ w (.slice ya yn yk) l.b.cells)(hx:M_ w vx x):
  Calls Tryz.prog 176 #[.agg #[.int .i64 l.w.rows,.int .i64 l.w.cols,.slice xa xn xk,.int .i64 l.b.rows,.int .i64 l.b.cols,.slice ya yn yk],vx] w (MxErr w (goX l x) (goE l x)):=by
 obtain ⟨_,hfx,_⟩:=goE_zero h
 obtain ⟨R,C,gx⟩:=o__ hfx
 rw[show goX l x=reluX x by unfold goX goG;rw[if_pos h,if_neg (by omega),if_pos hk],h]
 exact forth_relu l x vx w R C gx hx
theorem back_at_relu(l:Ly){xa:Option Addr}{xn xk:Nat}{ya:Option Addr}{yn yk:Nat}(x g:Mx)(vx vg:Value)(w:World)(hk:l.k=2)(h:goE l x=0)(hfg:q_ g=0)(hsh:g.rows=x.rows∧g.cols=g_ l x.cols)(_hs:I_ w (.slice xa xn xk) l.w.cells)(hx:M_ w vx x)(hg:M_ w vg g):
  Calls Tryz.prog 174 #[.agg #[.int .i64 l.w.rows,.int .i64 l.w.cols,.slice xa xn xk,.int .i64 l.b.rows,.int .i64 l.b.cols,.slice ya yn yk],vx,vg] w (BackErr w (backX l x g) (gradW l x g) (gradB l x g) (backE l x g)):=by
 obtain ⟨_,hfx,_⟩:=goE_zero h
 obtain ⟨R,C,gx⟩:=o__ hfx
 obtain ⟨Rg,Cg,gg⟩:=o__ hfg
 have ec:g_ l x.cols=x.cols:=by unfold g_;rw[if_neg (by omega)]
 have gg':=gg.same (R':=R) (C':=C) (by have:=gg.r;have:=gx.r;have:=hsh.1;omega) (by have:=gg.c;have:=gx.c;have:=hsh.2;omega)
 have hE:backE l x g=0:=backE_of h hfg hsh.1 hsh.2 (by omega)
 rw[show backX l x g=reluB x g by unfold backX backG;rw[if_pos hE,if_neg (by omega),if_pos hk],show gradW l x g=noMx by unfold gradW;rw[if_pos hE,if_neg (by omega),if_neg (by omega)],show gradB l x g=noMx by unfold gradB;rw[if_pos hE,if_neg (by omega)],hE]
 exact back_relu l x g vx vg w R C gx gg' hx hg
theorem forth_at_scale(l:Ly){xa:Option Addr}{xn xk:Nat}{ya:Option Addr}{yn yk:Nat}(x:Mx)(vx:Value)(w:World)(hk:l.k=3)(h:goE l x=0)(hs:I_ w (.slice xa xn xk) l.w.cells)(_ht:I_ w (.slice ya yn yk) l.b.cells)(hx:M_ w vx x):
  Calls Tryz.prog 181 #[.agg #[.int .i64 l.w.rows,.int .i64 l.w.cols,.slice xa xn xk,.int .i64 l.b.rows,.int .i64 l.b.cols,.slice ya yn yk],vx] w (MxErr w (goX l x) (goE l x)):=by
 obtain ⟨hl,hfx,_⟩:=goE_zero h
 obtain ⟨R,C,gx⟩:=o__ hfx
 cases lyG_of hl using LyG.el with
 |lin _ _ hk' _ _ _ _ _=>omega
 |relu hk' _ _=>omega
 |scale _ gw _=>
  rw[show goX l x=timesX x (A_ l.w 0) by unfold goX goG;rw[if_pos h,if_neg (by omega),if_neg (by omega),if_pos hk],h]
  exact forth_scale l x vx w R C gx gw hs hx
 |shift _ hk' _ _ _=>omega
theorem back_at_scale(l:Ly){xa:Option Addr}{xn xk:Nat}{ya:Option Addr}{yn yk:Nat}(x g:Mx)(vx vg:Value)(w:World)(hk:l.k=3)(h:goE l x=0)(hfg:q_ g=0)(hsh:g.rows=x.rows∧g.cols=g_ l x.cols)(hs:I_ w (.slice xa xn xk) l.w.cells)(hx:M_ w vx x)(hg:M_ w vg g):
  Calls Tryz.prog 179 #[.agg #[.int .i64 l.w.rows,.int .i64 l.w.cols,.slice xa xn xk,.int .i64 l.b.rows,.int .i64 l.b.cols,.slice ya yn yk],vx,vg] w (BackErr w (backX l x g) (gradW l x g) (gradB l x g) (backE l x g)):=by
 obtain ⟨hl,hfx,_⟩:=goE_zero h
 obtain ⟨R,C,gx⟩:=o__ hfx
 obtain ⟨Rg,Cg,gg⟩:=o__ hfg
 cases lyG_of hl using LyG.el with
 |lin _ _ hk' _ _ _ _ _=>omega
 |relu hk' _ _=>omega
 |scale _ gw _=>
  have ec:g_ l x.cols=x.cols:=by unfold g_;rw[if_neg (by omega)]
  have gg':=gg.same (R':=R) (C':=C) (by have:=gg.r;have:=gx.r;have:=hsh.1;omega) (by have:=gg.c;have:=gx.c;have:=hsh.2;omega)
  have hE:backE l x g=0:=backE_of h hfg hsh.1 hsh.2 (by omega)
  rw[show backX l x g=timesX g (A_ l.w 0) by unfold backX backG;rw[if_pos hE,if_neg (by omega),if_neg (by omega),if_pos hk],show gradW l x g=⟨1,1,[sumP x g x.cells.length]⟩ by unfold gradW;rw[if_pos hE,if_neg (by omega),if_pos hk],show gradB l x g=noMx by unfold gradB;rw[if_pos hE,if_neg (by omega)],hE]
  exact back_scale l x g vx vg w R C gx gg' gw hs hx hg
 |shift _ hk' _ _ _=>omega
theorem forth_at_shift(l:Ly){xa:Option Addr}{xn xk:Nat}{ya:Option Addr}{yn yk:Nat}(x:Mx)(vx:Value)(w:World)(hk:l.k=4)(h:goE l x=0)(_hs:I_ w (.slice xa xn xk) l.w.cells)(ht:I_ w (.slice ya yn yk) l.b.cells)(hx:M_ w vx x):
  Calls Tryz.prog 186 #[.agg #[.int .i64 l.w.rows,.int .i64 l.w.cols,.slice xa xn xk,.int .i64 l.b.rows,.int .i64 l.b.cols,.slice ya yn yk],vx] w (MxErr w (goX l x) (goE l x)):=by
 obtain ⟨hl,hfx,htk⟩:=goE_zero h
 obtain ⟨R,C,gx⟩:=o__ hfx
 cases lyG_of hl using LyG.el with
 |lin _ _ hk' _ _ _ _ _=>omega
 |relu hk' _ _=>omega
 |scale hk' _ _=>omega
 |shift Cb _ _ gb h1=>
  have e:=takes_shift hk htk
  rw[show goX l x=addRows x l.b by unfold goX goG;rw[if_pos h,if_neg (by omega),if_neg (by omega),if_neg (by omega)],h]
  exact forth_shift l x vx w R C gx (gb.same rfl (by have:=gx.c;have:=gb.c;omega)) (by have:=gx.c;have:=gb.c;omega) ht hx
theorem back_at_shift(l:Ly){xa:Option Addr}{xn xk:Nat}{ya:Option Addr}{yn yk:Nat}(x g:Mx)(vx vg:Value)(w:World)(hk:l.k=4)(h:goE l x=0)(hfg:q_ g=0)(hsh:g.rows=x.rows∧g.cols=g_ l x.cols)(_hs:I_ w (.slice xa xn xk) l.w.cells)(hx:M_ w vx x)(hg:M_ w vg g):
  Calls Tryz.prog 184 #[.agg #[.int .i64 l.w.rows,.int .i64 l.w.cols,.slice xa xn xk,.int .i64 l.b.rows,.int .i64 l.b.cols,.slice ya yn yk],vx,vg] w (BackErr w (backX l x g) (gradW l x g) (gradB l x g) (backE l x g)):=by
 obtain ⟨Rg,Cg,gg⟩:=o__ hfg
 have hE:backE l x g=0:=backE_of h hfg hsh.1 hsh.2 (by omega)
 rw[show backX l x g=eachX g (A_ g) by unfold backX backG;rw[if_pos hE,if_neg (by omega),if_neg (by omega),if_neg (by omega)],show gradW l x g=noMx by unfold gradW;rw[if_pos hE,if_neg (by omega),if_neg (by omega)],show gradB l x g=sumsX g by unfold gradB;rw[if_pos hE,if_pos (.inr hk)],hE]
 exact back_shift l x g vx vg w Rg Cg gg hx hg
set_option maxHeartbeats 800000 in
theorem lcheck_kind(k:Int)(Ty:Nat)(l:Ly){xa:Option Addr}{xn xk:Nat}{ya:Option Addr}{yn yk:Nat}(w:World)(hK:∀W:World,Below w.heap.size w W→Calls Tryz.prog 66 #[.agg #[.int .i64 k,.int .i64 l.w.rows,.int .i64 l.w.cols,.slice xa xn xk,.int .i64 l.b.rows,.int .i64 l.b.cols,.slice ya yn yk]] W fun e w'=>e=.returned (.tuple #[kindR (l_ l) Ty (.agg #[.int .i64 l.w.rows,.int .i64 l.w.cols,.slice xa xn xk,.int .i64 l.b.rows,.int .i64 l.b.cols,.slice ya yn yk]),errV (l_ l)])∧Below W.heap.size W w'):
  Calls Tryz.prog 38 #[.agg #[.int .i64 k,.int .i64 l.w.rows,.int .i64 l.w.cols,.slice xa xn xk,.int .i64 l.b.rows,.int .i64 l.b.cols,.slice ya yn yk]] w fun e w'=>e=.returned (errV (l_ l))∧Below w.heap.size w w':=by
 obtain ⟨wr,e1⟩:=gN (l.w.rows)
 obtain ⟨wc,e2⟩:=gN (l.w.cols)
 obtain ⟨br,e3⟩:=gN (l.b.rows)
 obtain ⟨bc,e4⟩:=gN (l.b.cols)
 have HK:=h_ hK
 rw[e1,e2,e3,e4]at HK
 rw[e1,e2,e3,e4]
 obtain ⟨E,hE⟩:=gN (l_ l)
 rw[hE]at HK ⊢
 clear e1 e2 e3 e4 hE
 go_enter Tryz.func38,Tryz.ntmps38
 go_wp2_with fail
 refine (HK.out _ (o_ _ _)).mono ?_
 rintro e w1 ⟨rfl,hb1⟩
 go_wp2
 go_ret
 exact ⟨rfl,below_box (Below.refl _ _) hb1⟩
set_option maxHeartbeats 800000 in
theorem lwide_kind(k:Int)(Ty:Nat)(l:Ly){xa:Option Addr}{xn xk:Nat}{ya:Option Addr}{yn yk:Nat}(n:Int)(w:World)(hK:∀W:World,Below w.heap.size w W→Calls Tryz.prog 66 #[.agg #[.int .i64 k,.int .i64 l.w.rows,.int .i64 l.w.cols,.slice xa xn xk,.int .i64 l.b.rows,.int .i64 l.b.cols,.slice ya yn yk]] W fun e w'=>e=.returned (.tuple #[kindR (l_ l) Ty (.agg #[.int .i64 l.w.rows,.int .i64 l.w.cols,.slice xa xn xk,.int .i64 l.b.rows,.int .i64 l.b.cols,.slice ya yn yk]),errV (l_ l)])∧Below W.heap.size W w')(hW:∀(n:Int) (W:World),Calls Tryz.prog 114 #[.iface Ty (.agg #[.int .i64 l.w.rows,.int .i64 l.w.cols,.slice xa xn xk,.int .i64 l.b.rows,.int .i64 l.b.cols,.slice ya yn yk]),.int .i64 n] W fun e w'=>e=.returned (.tuple #[.int .i64 (w0X l n),errV (w0E l n)])∧Below W.heap.size W w'):
  Calls Tryz.prog 101 #[.agg #[.int .i64 k,.int .i64 l.w.rows,.int .i64 l.w.cols,.slice xa xn xk,.int .i64 l.b.rows,.int .i64 l.b.cols,.slice ya yn yk],.int .i64 n] w fun e w'=>e=.returned (.tuple #[.int .i64 (wideX l n),errV (wideE l n)])∧Below w.heap.size w w':=by
 obtain ⟨wr,e1⟩:=gN (l.w.rows)
 obtain ⟨wc,e2⟩:=gN (l.w.cols)
 obtain ⟨br,e3⟩:=gN (l.b.rows)
 obtain ⟨bc,e4⟩:=gN (l.b.cols)
 have HK:=h_ hK
 have HWD:=h_ (hW n)
 rw[e1,e2,e3,e4]at HK HWD
 rw[e1,e2,e3,e4]
 have HX:=h_ (fun h:l_ l=0=>(And.intro (wideX_eq l n h) (wideE_eq l n h)))
 have HY:=h_ (fun h:l_ l≠0=>(And.intro (wideX_l n h) (wideE_l n h)))
 obtain ⟨E,hE⟩:=gN (l_ l)
 rw[hE]at HK HX HY
 clear e1 e2 e3 e4 hE
 go_enter Tryz.func101,Tryz.ntmps101
 go_wp2_with fail
 refine (HK.out _ (o_ _ _)).mono ?_
 rintro e w1 ⟨rfl,hb1⟩
 have HB1:=h_ (below_box (Below.refl _ _) hb1)
 clear hb1
 by_cases h0:E=0
 ·subst h0
  rw[←kindR_yes rfl,e_ rfl]
  go_wp2_with fail
  refine (HWD.out _).mono ?_
  rintro e w2 ⟨rfl,hb2⟩
  have HB2:=h_ (b_ HB1.out hb2)
  clear hb2
  go_wp2
  go_ret2
  have h:=HX.out (by first|rfl|trivial)
  exact ⟨by rw[h.1,h.2];rfl,HB2.out⟩
 ·rw[←K_ h0,n_ h0]
  have H0:=h_ h0
  clear h0
  go_wp2
  go_ret2
  have h:=HY.out H0.out
  exact ⟨ret_two (int_eq h.1) (by rw[h.2,n_ H0.out];rfl),HB1.out⟩
theorem lcheck_linear(l:Ly){xa:Option Addr}{xn xk:Nat}{ya:Option Addr}{yn yk:Nat}(w:World)(hk:l.k=1)(hs:I_ w (.slice xa xn xk) l.w.cells)(ht:I_ w (.slice ya yn yk) l.b.cells):
  Calls Tryz.prog 38 #[.agg #[.int .i64 1,.int .i64 l.w.rows,.int .i64 l.w.cols,.slice xa xn xk,.int .i64 l.b.rows,.int .i64 l.b.cols,.slice ya yn yk]] w fun e w'=>e=.returned (errV (l_ l))∧Below w.heap.size w w':=
 lcheck_kind 1 195 l w (fun W h=>kindof_linear l W hk (hs.u_ h) (ht.u_ h))
theorem lwide_linear(l:Ly){xa:Option Addr}{xn xk:Nat}{ya:Option Addr}{yn yk:Nat}(n:Int)(w:World)(hk:l.k=1)(hs:I_ w (.slice xa xn xk) l.w.cells)(ht:I_ w (.slice ya yn yk) l.b.cells):
  Calls Tryz.prog 101 #[.agg #[.int .i64 1,.int .i64 l.w.rows,.int .i64 l.w.cols,.slice xa xn xk,.int .i64 l.b.rows,.int .i64 l.b.cols,.slice ya yn yk],.int .i64 n] w fun e w'=>e=.returned (.tuple #[.int .i64 (wideX l n),errV (wideE l n)])∧Below w.heap.size w w':=
 lwide_kind 1 195 l n w (fun W h=>kindof_linear l W hk (hs.u_ h) (ht.u_ h)) (fun n W=>wide_linear l n _ _ _ _ xa xn xk ya yn yk W hk rfl rfl rfl)
theorem lcheck_relu(l:Ly){xa:Option Addr}{xn xk:Nat}{ya:Option Addr}{yn yk:Nat}(w:World)(hk:l.k=2)(hs:I_ w (.slice xa xn xk) l.w.cells)(ht:I_ w (.slice ya yn yk) l.b.cells):
  Calls Tryz.prog 38 #[.agg #[.int .i64 2,.int .i64 l.w.rows,.int .i64 l.w.cols,.slice xa xn xk,.int .i64 l.b.rows,.int .i64 l.b.cols,.slice ya yn yk]] w fun e w'=>e=.returned (errV (l_ l))∧Below w.heap.size w w':=
 lcheck_kind 2 198 l w (fun W h=>kindof_relu l W hk (hs.u_ h) (ht.u_ h))
theorem lwide_relu(l:Ly){xa:Option Addr}{xn xk:Nat}{ya:Option Addr}{yn yk:Nat}(n:Int)(w:World)(hk:l.k=2)(hs:I_ w (.slice xa xn xk) l.w.cells)(ht:I_ w (.slice ya yn yk) l.b.cells):
  Calls Tryz.prog 101 #[.agg #[.int .i64 2,.int .i64 l.w.rows,.int .i64 l.w.cols,.slice xa xn xk,.int .i64 l.b.rows,.int .i64 l.b.cols,.slice ya yn yk],.int .i64 n] w fun e w'=>e=.returned (.tuple #[.int .i64 (wideX l n),errV (wideE l n)])∧Below w.heap.size w w':=
 lwide_kind 2 198 l n w (fun W h=>kindof_relu l W hk (hs.u_ h) (ht.u_ h)) (fun n W=>wide_relu l n _ _ _ _ xa xn xk ya yn yk W hk rfl rfl rfl)
theorem lcheck_scale(l:Ly){xa:Option Addr}{xn xk:Nat}{ya:Option Addr}{yn yk:Nat}(w:World)(hk:l.k=3)(hs:I_ w (.slice xa xn xk) l.w.cells)(ht:I_ w (.slice ya yn yk) l.b.cells):
  Calls Tryz.prog 38 #[.agg #[.int .i64 3,.int .i64 l.w.rows,.int .i64 l.w.cols,.slice xa xn xk,.int .i64 l.b.rows,.int .i64 l.b.cols,.slice ya yn yk]] w fun e w'=>e=.returned (errV (l_ l))∧Below w.heap.size w w':=
 lcheck_kind 3 199 l w (fun W h=>kindof_scale l W hk (hs.u_ h) (ht.u_ h))
theorem lwide_scale(l:Ly){xa:Option Addr}{xn xk:Nat}{ya:Option Addr}{yn yk:Nat}(n:Int)(w:World)(hk:l.k=3)(hs:I_ w (.slice xa xn xk) l.w.cells)(ht:I_ w (.slice ya yn yk) l.b.cells):
  Calls Tryz.prog 101 #[.agg #[.int .i64 3,.int .i64 l.w.rows,.int .i64 l.w.cols,.slice xa xn xk,.int .i64 l.b.rows,.int .i64 l.b.cols,.slice ya yn yk],.int .i64 n] w fun e w'=>e=.returned (.tuple #[.int .i64 (wideX l n),errV (wideE l n)])∧Below w.heap.size w w':=
 lwide_kind 3 199 l n w (fun W h=>kindof_scale l W hk (hs.u_ h) (ht.u_ h)) (fun n W=>wide_scale l n _ _ _ _ xa xn xk ya yn yk W hk rfl rfl rfl)
theorem lcheck_shift(l:Ly){xa:Option Addr}{xn xk:Nat}{ya:Option Addr}{yn yk:Nat}(w:World)(hk:l.k=4)(hs:I_ w (.slice xa xn xk) l.w.cells)(ht:I_ w (.slice ya yn yk) l.b.cells):
  Calls Tryz.prog 38 #[.agg #[.int .i64 4,.int .i64 l.w.rows,.int .i64 l.w.cols,.slice xa xn xk,.int .i64 l.b.rows,.int .i64 l.b.cols,.slice ya yn yk]] w fun e w'=>e=.returned (errV (l_ l))∧Below w.heap.size w w':=
 lcheck_kind 4 200 l w (fun W h=>kindof_shift l W hk (hs.u_ h) (ht.u_ h))
theorem lwide_shift(l:Ly){xa:Option Addr}{xn xk:Nat}{ya:Option Addr}{yn yk:Nat}(n:Int)(w:World)(hk:l.k=4)(hs:I_ w (.slice xa xn xk) l.w.cells)(ht:I_ w (.slice ya yn yk) l.b.cells):
  Calls Tryz.prog 101 #[.agg #[.int .i64 4,.int .i64 l.w.rows,.int .i64 l.w.cols,.slice xa xn xk,.int .i64 l.b.rows,.int .i64 l.b.cols,.slice ya yn yk],.int .i64 n] w fun e w'=>e=.returned (.tuple #[.int .i64 (wideX l n),errV (wideE l n)])∧Below w.heap.size w w':=
 lwide_kind 4 200 l n w (fun W h=>kindof_shift l W hk (hs.u_ h) (ht.u_ h)) (fun n W=>wide_shift l n _ _ _ _ xa xn xk ya yn yk W hk rfl rfl rfl)
set_option maxHeartbeats 400000 in
theorem lcheck_none(k:Int)(wr wc br bc:Int)(xa:Option Addr)(xn xk:Nat)(ya:Option Addr)(yn yk:Nat)(w:World)(hk:k<1∨4<k):Calls Tryz.prog 38 #[.agg #[.int .i64 k,.int .i64 wr,.int .i64 wc,.slice xa xn xk,.int .i64 br,.int .i64 bc,.slice ya yn yk]] w fun e w'=>e=.returned (errV 1)∧Below w.heap.size w w':=by
 have HN:=h_ (fun W=>kindof_none k wr wc br bc xa xn xk ya yn yk W hk)
 clear hk
 go_enter Tryz.func38,Tryz.ntmps38
 go_wp2_with fail
 refine (HN.out _).mono ?_
 rintro e w1 ⟨rfl,hb1⟩
 go_wp2
 go_ret
 exact ⟨rfl,below_box (Below.refl _ _) hb1⟩
set_option maxHeartbeats 400000 in
theorem lwide_none(k:Int)(wr wc br bc:Int)(xa:Option Addr)(xn xk:Nat)(ya:Option Addr)(yn yk:Nat)(n:Int)(w:World)(hk:k<1∨4<k):Calls Tryz.prog 101 #[.agg #[.int .i64 k,.int .i64 wr,.int .i64 wc,.slice xa xn xk,.int .i64 br,.int .i64 bc,.slice ya yn yk],.int .i64 n] w fun e w'=>e=.returned (.tuple #[.int .i64 0,errV 1])∧Below w.heap.size w w':=by
 have HN:=h_ (fun W=>kindof_none k wr wc br bc xa xn xk ya yn yk W hk)
 clear hk
 go_enter Tryz.func101,Tryz.ntmps101
 go_wp2_with fail
 refine (HN.out _).mono ?_
 rintro e w1 ⟨rfl,hb1⟩
 rw[n_ (show (1:Int)≠0 by decide)]
 have W1:=h_ (below_box (Below.refl _ _) hb1)
 clear hb1
 go_wp2
 go_ret2
 exact ⟨rfl,W1.out⟩
theorem lcheck_any(v:Value)(l:Ly)  (w:World) (hv:IsLy w v l):Calls Tryz.prog 38 #[v] w fun e w'=>e=.returned (errV (l_ l))∧Below w.heap.size w w':=by
 obtain ⟨s,t,rfl,hs,ht⟩:=hv
 obtain ⟨xa,xn,xk,rfl⟩:=hs.shape
 obtain ⟨ya,yn,yk,rfl⟩:=ht.shape
 by_cases h1:l.k=1
 ·rw[h1];exact lcheck_linear l  w h1 hs ht 
 ·by_cases h2:l.k=2
  ·rw[h2];exact lcheck_relu l  w h2 hs ht 
  ·by_cases h3:l.k=3
   ·rw[h3];exact lcheck_scale l  w h3 hs ht 
   ·by_cases h4:l.k=4
    ·rw[h4];exact lcheck_shift l  w h4 hs ht 
    ·have hk:l.k<1∨4<l.k:=by omega
     rw[lfault_k hk]
     exact lcheck_none l.k _ _ _ _ xa xn xk ya yn yk w hk
theorem lwide_any(v:Value)(l:Ly)(n:Int)(w:World)(hv:IsLy w v l):Calls Tryz.prog 101 #[v,.int .i64 n] w fun e w'=>e=.returned (.tuple #[.int .i64 (wideX l n),errV (wideE l n)])∧Below w.heap.size w w':=by
 obtain ⟨s,t,rfl,hs,ht⟩:=hv
 obtain ⟨xa,xn,xk,rfl⟩:=hs.shape
 obtain ⟨ya,yn,yk,rfl⟩:=ht.shape
 by_cases h1:l.k=1
 ·rw[h1];exact lwide_linear l n w h1 hs ht 
 ·by_cases h2:l.k=2
  ·rw[h2];exact lwide_relu l n w h2 hs ht 
  ·by_cases h3:l.k=3
   ·rw[h3];exact lwide_scale l n w h3 hs ht 
   ·by_cases h4:l.k=4
    ·rw[h4];exact lwide_shift l n w h4 hs ht 
    ·have hk:l.k<1∨4<l.k:=by omega
     have hE:=lfault_k hk
     rw[←wideX_l n (by rw[hE];decide),wideE_l n (by rw[hE];decide),hE]
     exact lwide_none l.k _ _ _ _ xa xn xk ya yn yk n w hk
end Go.Proofs.YtniloklglpchfaeGreatDoor
