/- What Check, Wide, Go and Back of package layer come to. -/
import Derived.Test.YtniloklglpchfaeGreatDoorLKind
import Derived.Test.YtniloklglpchfaeGreatDoorLScale
import Derived.Test.YtniloklglpchfaeGreatDoorPkLBox
import Derived.Test.YtniloklglpchfaeGreatDoorPkStep
import Derived.Test.YtniloklglpchfaeGreatDoorPkReg
namespace Go.Proofs.YtniloklglpchfaeGreatDoor
open Go.RowKit
theorem goX_no{l:Ly}{x:Mx}(h:goE l x≠0):goX l x=noMx:=by unfold goX;rw[if_neg h]
theorem backX_no{l:Ly}{x g:Mx}(h:backE l x g≠0):backX l x g=noMx/\gradW l x g=noMx/\gradB l x g=noMx:=by unfold backX gradW gradB;rw[if_neg h,if_neg h,if_neg h];exact ⟨rfl,rfl,rfl⟩
theorem wideE_eq(l:Ly)(n:Int)(h:l_ l=0):wideE l n=w0E l n:=by unfold wideE w0E;rw[if_neg (by simp[h])]
theorem wideX_eq(l:Ly)(n:Int)(h:l_ l=0):wideX l n=w0X l n:=by unfold wideX w0X;rw[wideE_eq l n h]
theorem wideE_l{l:Ly}(n:Int)(h:l_ l≠0):wideE l n=l_ l:=by unfold wideE;rw[if_pos h]
theorem wideX_l{l:Ly}(n:Int)(h:l_ l≠0):0=wideX l n:=by unfold wideX;rw[if_neg (by rw[wideE_l n h];exact h)]
theorem backE_go{l:Ly}{x g:Mx}(h:goE l x≠0):backE l x g=goE l x:=by unfold backE;rw[if_pos h]
theorem backE_g{l:Ly}{x g:Mx}(h:goE l x=0)(hg:q_ g≠0):backE l x g=q_ g:=by unfold backE;rw[if_neg (by simp[h]),if_pos hg]
theorem backE_s{l:Ly}{x g:Mx}(h:goE l x=0)(hg:q_ g=0)(hs:¬(g.rows=x.rows/\g.cols=g_ l x.cols)):backE l x g=2:=by
 unfold backE;rw[if_neg (by simp[h]),if_neg (by simp[hg]),if_pos (by omega)]
theorem backE_f{l:Ly}{x g:Mx}(h:goE l x=0)(hg:q_ g=0)(hs:g.rows=x.rows/\g.cols=g_ l x.cols)(hf:l.k=1/\12<x.rows):backE l x g=1:=by
 unfold backE;rw[if_neg (by simp[h]),if_neg (by simp[hg]),if_neg (by omega),if_pos hf]
theorem forth_at_linear(l:Ly){xa:Option Addr}{xn xk:Nat}{ya:Option Addr}{yn yk:Nat}(x:Mx)(vx:Value)(w:World)(hk:l.k=1)(h:goE l x=0)(hs:I_ w (.slice xa xn xk) l.w.cells)(ht:I_ w (.slice ya yn yk) l.b.cells)(hx:M_ w vx x):
  Calls Tryz.prog 158 #[.agg #[.int .i64 l.w.rows,.int .i64 l.w.cols,.slice xa xn xk,.int .i64 l.b.rows,.int .i64 l.b.cols,.slice ya yn yk],vx] w (MxErr w (goX l x) (goE l x)):=by
 obtain ⟨hl,hfx,htk⟩:=goE_zero h
 obtain ⟨R,C,gx⟩:=o__ hfx
 cases lyG_of hl using LyG.el with
 |lin Rw Cw _ gw gb h1 h2 h3=>
  have e:=takes_lin hk htk
  have:=forth_linear l x vx w R Rw Cw (gx.same rfl (by have:=gx.c;have:=gw.r;omega)) gw gb h3 hs ht hx
  rw[show goX l x=addRows (mulX x l.w) l.b by unfold goX goG;rw[if_pos h,if_pos hk],h]
  exact this
 |relu hk' _ _=>omega
 |scale hk' _ _=>omega
 |shift _ hk' _ _ _=>omega
theorem back_at_linear(l:Ly){xa:Option Addr}{xn xk:Nat}{ya:Option Addr}{yn yk:Nat}(x g:Mx)(vx vg:Value)(w:World)(hk:l.k=1)(h:goE l x=0)(hfg:q_ g=0)(hsh:g.rows=x.rows/\g.cols=g_ l x.cols)(hs:I_ w (.slice xa xn xk) l.w.cells)(hx:M_ w vx x)(hg:M_ w vg g):
  Calls Tryz.prog 156 #[.agg #[.int .i64 l.w.rows,.int .i64 l.w.cols,.slice xa xn xk,.int .i64 l.b.rows,.int .i64 l.b.cols,.slice ya yn yk],vx,vg] w (BackErr w (backX l x g) (gradW l x g) (gradB l x g) (backE l x g)):=by
 obtain ⟨hl,hfx,htk⟩:=goE_zero h
 obtain ⟨R,C,gx⟩:=o__ hfx
 obtain ⟨Rg,Cg,gg⟩:=o__ hfg
 cases lyG_of hl using LyG.el with
 |lin Rw Cw _ gw gb h1 h2 h3=>
  have e:=takes_lin hk htk
  have ec:g_ l x.cols=l.w.cols:=by unfold g_;rw[if_pos hk]
  have gx':=gx.same (R':=R) (C':=Rw) rfl (by have:=gx.c;have:=gw.r;omega)
  have gg':=gg.same (R':=R) (C':=Cw) (by have:=gg.r;have:=gx.r;have:=hsh.1;omega) (by have:=gg.c;have:=gw.c;have:=hsh.2;omega)
  by_cases hR:R<=12
  ·have hE:backE l x g=0:=backE_of h hfg hsh.1 hsh.2 (by have:=gx.r;omega)
   rw[show backX l x g=mulX g (turnX l.w) by unfold backX backG;rw[if_pos hE,if_pos hk],show gradW l x g=mulX (turnX x) g by unfold gradW;rw[if_pos hE,if_pos hk],show gradB l x g=sumsX g by unfold gradB;rw[if_pos hE,if_pos (.inl hk)],hE]
   exact back_linear l x g vx vg w R Rw Cw gx' gw gg' h2 hR hs hx hg
  ·have hE:backE l x g=1:=backE_f h hfg hsh ⟨hk,by have:=gx.r;omega⟩
   obtain ⟨n1,n2,n3⟩:=backX_no (show backE l x g≠0 by rw[hE];decide)
   rw[n1,n2,n3,hE]
   exact back_linear_far l x g vx vg w R Rw Cw gx' gw gg' h2 (by omega) hs hx hg
 |relu hk' _ _=>omega
 |scale hk' _ _=>omega
 |shift _ hk' _ _ _=>omega
theorem forth_at_relu(l:Ly){xa:Option Addr}{xn xk:Nat}{ya:Option Addr}{yn yk:Nat}(x:Mx)(vx:Value)(w:World)(hk:l.k=2)(h:goE l x=0)(_hs:I_ w (.slice xa xn xk) l.w.cells)(_ht:I_ w (.slice ya yn yk) l.b.cells)(hx:M_ w vx x):
  Calls Tryz.prog 176 #[.agg #[.int .i64 l.w.rows,.int .i64 l.w.cols,.slice xa xn xk,.int .i64 l.b.rows,.int .i64 l.b.cols,.slice ya yn yk],vx] w (MxErr w (goX l x) (goE l x)):=by
 obtain ⟨_,hfx,_⟩:=goE_zero h
 obtain ⟨R,C,gx⟩:=o__ hfx
 rw[show goX l x=reluX x by unfold goX goG;rw[if_pos h,if_neg (by omega),if_pos hk],h]
 exact forth_relu l x vx w R C gx hx
theorem back_at_relu(l:Ly){xa:Option Addr}{xn xk:Nat}{ya:Option Addr}{yn yk:Nat}(x g:Mx)(vx vg:Value)(w:World)(hk:l.k=2)(h:goE l x=0)(hfg:q_ g=0)(hsh:g.rows=x.rows/\g.cols=g_ l x.cols)(_hs:I_ w (.slice xa xn xk) l.w.cells)(hx:M_ w vx x)(hg:M_ w vg g):
  Calls Tryz.prog 174 #[.agg #[.int .i64 l.w.rows,.int .i64 l.w.cols,.slice xa xn xk,.int .i64 l.b.rows,.int .i64 l.b.cols,.slice ya yn yk],vx,vg] w (BackErr w (backX l x g) (gradW l x g) (gradB l x g) (backE l x g)):=by
 obtain ⟨_,hfx,_⟩:=goE_zero h
 obtain ⟨R,C,gx⟩:=o__ hfx
 obtain ⟨Rg,Cg,gg⟩:=o__ hfg
 have ec:g_ l x.cols=x.cols:=by unfold g_;rw[if_neg (by omega)]
 have gg':=gg.same (R':=R) (C':=C) (by have:=gg.r;have:=gx.r;have:=hsh.1;omega) (by have:=gg.c;have:=gx.c;have:=hsh.2;omega)
 have hE:backE l x g=0:=backE_of h hfg hsh.1 hsh.2 (by omega)
 rw[show backX l x g=reluB x g by unfold backX backG;rw[if_pos hE,if_neg (by omega),if_pos hk],show gradW l x g=noMx by unfold gradW;rw[if_pos hE,if_neg (by omega),if_neg (by omega)],show gradB l x g=noMx by unfold gradB;rw[if_pos hE,if_neg (by omega)],hE]
 exact back_relu l x g vx vg w R C gx gg' hx hg
theorem forth_at_scale(l:Ly){xa:Option Addr}{xn xk:Nat}{ya:Option Addr}{yn yk:Nat}(x:Mx)(vx:Value)(w:World)(hk:l.k=3)(h:goE l x=0)(hs:I_ w (.slice xa xn xk) l.w.cells)(_ht:I_ w (.slice ya yn yk) l.b.cells)(hx:M_ w vx x):
  Calls Tryz.prog 181 #[.agg #[.int .i64 l.w.rows,.int .i64 l.w.cols,.slice xa xn xk,.int .i64 l.b.rows,.int .i64 l.b.cols,.slice ya yn yk],vx] w (MxErr w (goX l x) (goE l x)):=by
 obtain ⟨hl,hfx,_⟩:=goE_zero h
 obtain ⟨R,C,gx⟩:=o__ hfx
 cases lyG_of hl using LyG.el with
 |lin _ _ hk' _ _ _ _ _=>omega
 |relu hk' _ _=>omega
 |scale _ gw _=>
  rw[show goX l x=timesX x (A_ l.w 0) by unfold goX goG;rw[if_pos h,if_neg (by omega),if_neg (by omega),if_pos hk],h]
  exact forth_scale l x vx w R C gx gw hs hx
 |shift _ hk' _ _ _=>omega
theorem back_at_scale(l:Ly){xa:Option Addr}{xn xk:Nat}{ya:Option Addr}{yn yk:Nat}(x g:Mx)(vx vg:Value)(w:World)(hk:l.k=3)(h:goE l x=0)(hfg:q_ g=0)(hsh:g.rows=x.rows/\g.cols=g_ l x.cols)(hs:I_ w (.slice xa xn xk) l.w.cells)(hx:M_ w vx x)(hg:M_ w vg g):
  Calls Tryz.prog 179 #[.agg #[.int .i64 l.w.rows,.int .i64 l.w.cols,.slice xa xn xk,.int .i64 l.b.rows,.int .i64 l.b.cols,.slice ya yn yk],vx,vg] w (BackErr w (backX l x g) (gradW l x g) (gradB l x g) (backE l x g)):=by
 obtain ⟨hl,hfx,_⟩:=goE_zero h
 obtain ⟨R,C,gx⟩:=o__ hfx
 obtain ⟨Rg,Cg,gg⟩:=o__ hfg
 cases lyG_of hl using LyG.el with
 |lin _ _ hk' _ _ _ _ _=>omega
 |relu hk' _ _=>omega
 |scale _ gw _=>
  have ec:g_ l x.cols=x.cols:=by unfold g_;rw[if_neg (by omega)]
  have gg':=gg.same (R':=R) (C':=C) (by have:=gg.r;have:=gx.r;have:=hsh.1;omega) (by have:=gg.c;have:=gx.c;have:=hsh.2;omega)
  have hE:backE l x g=0:=backE_of h hfg hsh.1 hsh.2 (by omega)
  rw[show backX l x g=timesX g (A_ l.w 0) by unfold backX backG;rw[if_pos hE,if_neg (by omega),if_neg (by omega),if_pos hk],show gradW l x g=⟨1,1,[sumP x g x.cells.length]⟩ by unfold gradW;rw[if_pos hE,if_neg (by omega),if_pos hk],show gradB l x g=noMx by unfold gradB;rw[if_pos hE,if_neg (by omega)],hE]
  exact back_scale l x g vx vg w R C gx gg' gw hs hx hg
 |shift _ hk' _ _ _=>omega
theorem forth_at_shift(l:Ly){xa:Option Addr}{xn xk:Nat}{ya:Option Addr}{yn yk:Nat}(x:Mx)(vx:Value)(w:World)(hk:l.k=4)(h:goE l x=0)(_hs:I_ w (.slice xa xn xk) l.w.cells)(ht:I_ w (.slice ya yn yk) l.b.cells)(hx:M_ w vx x):
  Calls Tryz.prog 186 #[.agg #[.int .i64 l.w.rows,.int .i64 l.w.cols,.slice xa xn xk,.int .i64 l.b.rows,.int .i64 l.b.cols,.slice ya yn yk],vx] w (MxErr w (goX l x) (goE l x)):=by
 obtain ⟨hl,hfx,htk⟩:=goE_zero h
 obtain ⟨R,C,gx⟩:=o__ hfx
 cases lyG_of hl using LyG.el with
 |lin _ _ hk' _ _ _ _ _=>omega
 |relu hk' _ _=>omega
 |scale hk' _ _=>omega
 |shift Cb _ _ gb h1=>
  have e:=takes_shift hk htk
  rw[show goX l x=addRows x l.b by unfold goX goG;rw[if_pos h,if_neg (by omega),if_neg (by omega),if_neg (by omega)],h]
  exact forth_shift l x vx w R C gx (gb.same rfl (by have:=gx.c;have:=gb.c;omega)) (by have:=gx.c;have:=gb.c;omega) ht hx
theorem back_at_shift(l:Ly){xa:Option Addr}{xn xk:Nat}{ya:Option Addr}{yn yk:Nat}(x g:Mx)(vx vg:Value)(w:World)(hk:l.k=4)(h:goE l x=0)(hfg:q_ g=0)(hsh:g.rows=x.rows/\g.cols=g_ l x.cols)(_hs:I_ w (.slice xa xn xk) l.w.cells)(hx:M_ w vx x)(hg:M_ w vg g):
  Calls Tryz.prog 184 #[.agg #[.int .i64 l.w.rows,.int .i64 l.w.cols,.slice xa xn xk,.int .i64 l.b.rows,.int .i64 l.b.cols,.slice ya yn yk],vx,vg] w (BackErr w (backX l x g) (gradW l x g) (gradB l x g) (backE l x g)):=by
 obtain ⟨Rg,Cg,gg⟩:=o__ hfg
 have hE:backE l x g=0:=backE_of h hfg hsh.1 hsh.2 (by omega)
 rw[show backX l x g=eachX g (A_ g) by unfold backX backG;rw[if_pos hE,if_neg (by omega),if_neg (by omega),if_neg (by omega)],show gradW l x g=noMx by unfold gradW;rw[if_pos hE,if_neg (by omega),if_neg (by omega)],show gradB l x g=sumsX g by unfold gradB;rw[if_pos hE,if_pos (.inr hk)],hE]
 exact back_shift l x g vx vg w Rg Cg gg hx hg
set_option maxHeartbeats 800000 in
theorem lcheck_kind(k:Int)(Ty:Nat)(l:Ly){xa:Option Addr}{xn xk:Nat}{ya:Option Addr}{yn yk:Nat}(w:World)(hK:∀W:World,Below w.heap.size w W->Calls Tryz.prog 66 #[.agg #[.int .i64 k,.int .i64 l.w.rows,.int .i64 l.w.cols,.slice xa xn xk,.int .i64 l.b.rows,.int .i64 l.b.cols,.slice ya yn yk]] W fun e w'=>e=.returned (.tuple #[kindR (l_ l) Ty (.agg #[.int .i64 l.w.rows,.int .i64 l.w.cols,.slice xa xn xk,.int .i64 l.b.rows,.int .i64 l.b.cols,.slice ya yn yk]),errV (l_ l)])/\Below W.heap.size W w'):
  Calls Tryz.prog 38 #[.agg #[.int .i64 k,.int .i64 l.w.rows,.int .i64 l.w.cols,.slice xa xn xk,.int .i64 l.b.rows,.int .i64 l.b.cols,.slice ya yn yk]] w fun e w'=>e=.returned (errV (l_ l))/\Below w.heap.size w w':=by
 obtain ⟨wr,e1⟩:=gN (l.w.rows)
 obtain ⟨wc,e2⟩:=gN (l.w.cols)
 obtain ⟨br,e3⟩:=gN (l.b.rows)
 obtain ⟨bc,e4⟩:=gN (l.b.cols)
 have HK:=h_ hK
 rw[e1,e2,e3,e4]at HK
 rw[e1,e2,e3,e4]
 obtain ⟨E,hE⟩:=gN (l_ l)
 rw[hE]at HK ⊢
 clear e1 e2 e3 e4 hE
 go_enter Tryz.func38,Tryz.ntmps38
 go_wp2_with fail
 refine (HK.out _ (o_ _ _)).mono ?_
 rintro e w1 ⟨rfl,hb1⟩
 go_wp2
 go_ret
 exact ⟨rfl,below_box (Below.refl _ _) hb1⟩
set_option maxHeartbeats 800000 in
theorem lwide_kind(k:Int)(Ty:Nat)(l:Ly){xa:Option Addr}{xn xk:Nat}{ya:Option Addr}{yn yk:Nat}(n:Int)(w:World)(hK:∀W:World,Below w.heap.size w W->Calls Tryz.prog 66 #[.agg #[.int .i64 k,.int .i64 l.w.rows,.int .i64 l.w.cols,.slice xa xn xk,.int .i64 l.b.rows,.int .i64 l.b.cols,.slice ya yn yk]] W fun e w'=>e=.returned (.tuple #[kindR (l_ l) Ty (.agg #[.int .i64 l.w.rows,.int .i64 l.w.cols,.slice xa xn xk,.int .i64 l.b.rows,.int .i64 l.b.cols,.slice ya yn yk]),errV (l_ l)])/\Below W.heap.size W w')(hW:∀(n:Int) (W:World),Calls Tryz.prog 114 #[.iface Ty (.agg #[.int .i64 l.w.rows,.int .i64 l.w.cols,.slice xa xn xk,.int .i64 l.b.rows,.int .i64 l.b.cols,.slice ya yn yk]),.int .i64 n] W fun e w'=>e=.returned (.tuple #[.int .i64 (w0X l n),errV (w0E l n)])/\Below W.heap.size W w'):
  Calls Tryz.prog 101 #[.agg #[.int .i64 k,.int .i64 l.w.rows,.int .i64 l.w.cols,.slice xa xn xk,.int .i64 l.b.rows,.int .i64 l.b.cols,.slice ya yn yk],.int .i64 n] w fun e w'=>e=.returned (.tuple #[.int .i64 (wideX l n),errV (wideE l n)])/\Below w.heap.size w w':=by
 obtain ⟨wr,e1⟩:=gN (l.w.rows)
 obtain ⟨wc,e2⟩:=gN (l.w.cols)
 obtain ⟨br,e3⟩:=gN (l.b.rows)
 obtain ⟨bc,e4⟩:=gN (l.b.cols)
 have HK:=h_ hK
 have HWD:=h_ (hW n)
 rw[e1,e2,e3,e4]at HK HWD
 rw[e1,e2,e3,e4]
 have HX:=h_ (fun h:l_ l=0=>(And.intro (wideX_eq l n h) (wideE_eq l n h)))
 have HY:=h_ (fun h:l_ l≠0=>(And.intro (wideX_l n h) (wideE_l n h)))
 obtain ⟨E,hE⟩:=gN (l_ l)
 rw[hE]at HK HX HY
 clear e1 e2 e3 e4 hE
 go_enter Tryz.func101,Tryz.ntmps101
 go_wp2_with fail
 refine (HK.out _ (o_ _ _)).mono ?_
 rintro e w1 ⟨rfl,hb1⟩
 have HB1:=h_ (below_box (Below.refl _ _) hb1)
 clear hb1
 by_cases h0:E=0
 ·subst h0
  rw[<-kindR_yes rfl,e_ rfl]
  go_wp2_with fail
  refine (HWD.out _).mono ?_
  rintro e w2 ⟨rfl,hb2⟩
  have HB2:=h_ (b_ HB1.out hb2)
  clear hb2
  go_wp2
  go_ret2
  have h:=HX.out (by first|rfl|trivial)
  exact ⟨by rw[h.1,h.2];rfl,HB2.out⟩
 ·rw[<-K_ h0,n_ h0]
  have H0:=h_ h0
  clear h0
  go_wp2
  go_ret2
  have h:=HY.out H0.out
  exact ⟨ret_two (int_eq h.1) (by rw[h.2,n_ H0.out];rfl),HB1.out⟩
theorem lcheck_linear(l:Ly){xa:Option Addr}{xn xk:Nat}{ya:Option Addr}{yn yk:Nat}(w:World)(hk:l.k=1)(hs:I_ w (.slice xa xn xk) l.w.cells)(ht:I_ w (.slice ya yn yk) l.b.cells):
  Calls Tryz.prog 38 #[.agg #[.int .i64 1,.int .i64 l.w.rows,.int .i64 l.w.cols,.slice xa xn xk,.int .i64 l.b.rows,.int .i64 l.b.cols,.slice ya yn yk]] w fun e w'=>e=.returned (errV (l_ l))/\Below w.heap.size w w':=
 lcheck_kind 1 195 l w (fun W h=>kindof_linear l W hk (hs.u_ h) (ht.u_ h))
theorem lwide_linear(l:Ly){xa:Option Addr}{xn xk:Nat}{ya:Option Addr}{yn yk:Nat}(n:Int)(w:World)(hk:l.k=1)(hs:I_ w (.slice xa xn xk) l.w.cells)(ht:I_ w (.slice ya yn yk) l.b.cells):
  Calls Tryz.prog 101 #[.agg #[.int .i64 1,.int .i64 l.w.rows,.int .i64 l.w.cols,.slice xa xn xk,.int .i64 l.b.rows,.int .i64 l.b.cols,.slice ya yn yk],.int .i64 n] w fun e w'=>e=.returned (.tuple #[.int .i64 (wideX l n),errV (wideE l n)])/\Below w.heap.size w w':=
 lwide_kind 1 195 l n w (fun W h=>kindof_linear l W hk (hs.u_ h) (ht.u_ h)) (fun n W=>wide_linear l n _ _ _ _ xa xn xk ya yn yk W hk rfl rfl rfl)
theorem lcheck_relu(l:Ly){xa:Option Addr}{xn xk:Nat}{ya:Option Addr}{yn yk:Nat}(w:World)(hk:l.k=2)(hs:I_ w (.slice xa xn xk) l.w.cells)(ht:I_ w (.slice ya yn yk) l.b.cells):
  Calls Tryz.prog 38 #[.agg #[.int .i64 2,.int .i64 l.w.rows,.int .i64 l.w.cols,.slice xa xn xk,.int .i64 l.b.rows,.int .i64 l.b.cols,.slice ya yn yk]] w fun e w'=>e=.returned (errV (l_ l))/\Below w.heap.size w w':=
 lcheck_kind 2 198 l w (fun W h=>kindof_relu l W hk (hs.u_ h) (ht.u_ h))
theorem lwide_relu(l:Ly){xa:Option Addr}{xn xk:Nat}{ya:Option Addr}{yn yk:Nat}(n:Int)(w:World)(hk:l.k=2)(hs:I_ w (.slice xa xn xk) l.w.cells)(ht:I_ w (.slice ya yn yk) l.b.cells):
  Calls Tryz.prog 101 #[.agg #[.int .i64 2,.int .i64 l.w.rows,.int .i64 l.w.cols,.slice xa xn xk,.int .i64 l.b.rows,.int .i64 l.b.cols,.slice ya yn yk],.int .i64 n] w fun e w'=>e=.returned (.tuple #[.int .i64 (wideX l n),errV (wideE l n)])/\Below w.heap.size w w':=
 lwide_kind 2 198 l n w (fun W h=>kindof_relu l W hk (hs.u_ h) (ht.u_ h)) (fun n W=>wide_relu l n _ _ _ _ xa xn xk ya yn yk W hk rfl rfl rfl)
theorem lcheck_scale(l:Ly){xa:Option Addr}{xn xk:Nat}{ya:Option Addr}{yn yk:Nat}(w:World)(hk:l.k=3)(hs:I_ w (.slice xa xn xk) l.w.cells)(ht:I_ w (.slice ya yn yk) l.b.cells):
  Calls Tryz.prog 38 #[.agg #[.int .i64 3,.int .i64 l.w.rows,.int .i64 l.w.cols,.slice xa xn xk,.int .i64 l.b.rows,.int .i64 l.b.cols,.slice ya yn yk]] w fun e w'=>e=.returned (errV (l_ l))/\Below w.heap.size w w':=
 lcheck_kind 3 199 l w (fun W h=>kindof_scale l W hk (hs.u_ h) (ht.u_ h))
theorem lwide_scale(l:Ly){xa:Option Addr}{xn xk:Nat}{ya:Option Addr}{yn yk:Nat}(n:Int)(w:World)(hk:l.k=3)(hs:I_ w (.slice xa xn xk) l.w.cells)(ht:I_ w (.slice ya yn yk) l.b.cells):
  Calls Tryz.prog 101 #[.agg #[.int .i64 3,.int .i64 l.w.rows,.int .i64 l.w.cols,.slice xa xn xk,.int .i64 l.b.rows,.int .i64 l.b.cols,.slice ya yn yk],.int .i64 n] w fun e w'=>e=.returned (.tuple #[.int .i64 (wideX l n),errV (wideE l n)])/\Below w.heap.size w w':=
 lwide_kind 3 199 l n w (fun W h=>kindof_scale l W hk (hs.u_ h) (ht.u_ h)) (fun n W=>wide_scale l n _ _ _ _ xa xn xk ya yn yk W hk rfl rfl rfl)
theorem lcheck_shift(l:Ly){xa:Option Addr}{xn xk:Nat}{ya:Option Addr}{yn yk:Nat}(w:World)(hk:l.k=4)(hs:I_ w (.slice xa xn xk) l.w.cells)(ht:I_ w (.slice ya yn yk) l.b.cells):
  Calls Tryz.prog 38 #[.agg #[.int .i64 4,.int .i64 l.w.rows,.int .i64 l.w.cols,.slice xa xn xk,.int .i64 l.b.rows,.int .i64 l.b.cols,.slice ya yn yk]] w fun e w'=>e=.returned (errV (l_ l))/\Below w.heap.size w w':=
 lcheck_kind 4 200 l w (fun W h=>kindof_shift l W hk (hs.u_ h) (ht.u_ h))
theorem lwide_shift(l:Ly){xa:Option Addr}{xn xk:Nat}{ya:Option Addr}{yn yk:Nat}(n:Int)(w:World)(hk:l.k=4)(hs:I_ w (.slice xa xn xk) l.w.cells)(ht:I_ w (.slice ya yn yk) l.b.cells):
  Calls Tryz.prog 101 #[.agg #[.int .i64 4,.int .i64 l.w.rows,.int .i64 l.w.cols,.slice xa xn xk,.int .i64 l.b.rows,.int .i64 l.b.cols,.slice ya yn yk],.int .i64 n] w fun e w'=>e=.returned (.tuple #[.int .i64 (wideX l n),errV (wideE l n)])/\Below w.heap.size w w':=
 lwide_kind 4 200 l n w (fun W h=>kindof_shift l W hk (hs.u_ h) (ht.u_ h)) (fun n W=>wide_shift l n _ _ _ _ xa xn xk ya yn yk W hk rfl rfl rfl)
set_option maxHeartbeats 400000 in
theorem lcheck_none(k:Int)(wr wc br bc:Int)(xa:Option Addr)(xn xk:Nat)(ya:Option Addr)(yn yk:Nat)(w:World)(hk:k<1\/4<k):Calls Tryz.prog 38 #[.agg #[.int .i64 k,.int .i64 wr,.int .i64 wc,.slice xa xn xk,.int .i64 br,.int .i64 bc,.slice ya yn yk]] w fun e w'=>e=.returned (errV 1)/\Below w.heap.size w w':=by
 have HN:=h_ (fun W=>kindof_none k wr wc br bc xa xn xk ya yn yk W hk)
 clear hk
 go_enter Tryz.func38,Tryz.ntmps38
 go_wp2_with fail
 refine (HN.out _).mono ?_
 rintro e w1 ⟨rfl,hb1⟩
 go_wp2
 go_ret
 exact ⟨rfl,below_box (Below.refl _ _) hb1⟩
set_option maxHeartbeats 400000 in
theorem lwide_none(k:Int)(wr wc br bc:Int)(xa:Option Addr)(xn xk:Nat)(ya:Option Addr)(yn yk:Nat)(n:Int)(w:World)(hk:k<1\/4<k):Calls Tryz.prog 101 #[.agg #[.int .i64 k,.int .i64 wr,.int .i64 wc,.slice xa xn xk,.int .i64 br,.int .i64 bc,.slice ya yn yk],.int .i64 n] w fun e w'=>e=.returned (.tuple #[.int .i64 0,errV 1])/\Below w.heap.size w w':=by
 have HN:=h_ (fun W=>kindof_none k wr wc br bc xa xn xk ya yn yk W hk)
 clear hk
 go_enter Tryz.func101,Tryz.ntmps101
 go_wp2_with fail
 refine (HN.out _).mono ?_
 rintro e w1 ⟨rfl,hb1⟩
 rw[n_ (show (1:Int)≠0 by decide)]
 have W1:=h_ (below_box (Below.refl _ _) hb1)
 clear hb1
 go_wp2
 go_ret2
 exact ⟨rfl,W1.out⟩
theorem lcheck_any(v:Value)(l:Ly)  (w:World) (hv:IsLy w v l):Calls Tryz.prog 38 #[v] w fun e w'=>e=.returned (errV (l_ l))/\Below w.heap.size w w':=by
 obtain ⟨s,t,rfl,hs,ht⟩:=hv
 obtain ⟨xa,xn,xk,rfl⟩:=hs.shape
 obtain ⟨ya,yn,yk,rfl⟩:=ht.shape
 by_cases h1:l.k=1
 ·rw[h1];exact lcheck_linear l  w h1 hs ht 
 ·by_cases h2:l.k=2
  ·rw[h2];exact lcheck_relu l  w h2 hs ht 
  ·by_cases h3:l.k=3
   ·rw[h3];exact lcheck_scale l  w h3 hs ht 
   ·by_cases h4:l.k=4
    ·rw[h4];exact lcheck_shift l  w h4 hs ht 
    ·have hk:l.k<1\/4<l.k:=by omega
     rw[lfault_k hk]
     exact lcheck_none l.k _ _ _ _ xa xn xk ya yn yk w hk
theorem lwide_any(v:Value)(l:Ly)(n:Int)(w:World)(hv:IsLy w v l):Calls Tryz.prog 101 #[v,.int .i64 n] w fun e w'=>e=.returned (.tuple #[.int .i64 (wideX l n),errV (wideE l n)])/\Below w.heap.size w w':=by
 obtain ⟨s,t,rfl,hs,ht⟩:=hv
 obtain ⟨xa,xn,xk,rfl⟩:=hs.shape
 obtain ⟨ya,yn,yk,rfl⟩:=ht.shape
 by_cases h1:l.k=1
 ·rw[h1];exact lwide_linear l n w h1 hs ht 
 ·by_cases h2:l.k=2
  ·rw[h2];exact lwide_relu l n w h2 hs ht 
  ·by_cases h3:l.k=3
   ·rw[h3];exact lwide_scale l n w h3 hs ht 
   ·by_cases h4:l.k=4
    ·rw[h4];exact lwide_shift l n w h4 hs ht 
    ·have hk:l.k<1\/4<l.k:=by omega
     have hE:=lfault_k hk
     rw[<-wideX_l n (by rw[hE];decide),wideE_l n (by rw[hE];decide),hE]
     exact lwide_none l.k _ _ _ _ xa xn xk ya yn yk n w hk
theorem trshape_any(va vb:Value)(a b:Mx)(w:World)(hva:M_ w va a)(hvb:M_ w vb b):Calls Tryz.prog 40 #[va,vb] w fun e w'=>e=.returned (.bool (H_ a b))/\Below w.heap.size w w':=by
 obtain ⟨s,rfl,hs⟩:=hva
 obtain ⟨t,rfl,ht⟩:=hvb
 obtain ⟨sa,sn,sk,rfl⟩:=hs.shape
 obtain ⟨ta,tn,tk,rfl⟩:=ht.shape
 unfold H_
 by_cases h1:a.rows=b.rows
 ·by_cases h2:a.cols=b.cols
  ·rw[show decide (a.rows=b.rows/\a.cols=b.cols)=true from decide_eq_true ⟨h1,h2⟩]
   have h1':(a.rows==b.rows)=true:=by simpa using h1
   have h2':(a.cols==b.cols)=true:=by simpa using h2
   clear h1 h2 hs ht
   go_enter Tryz.func40,Tryz.ntmps40
   go_wp2
   go_ret
   exact ⟨rfl,a_ (o_ _ _)⟩
  ·rw[show decide (a.rows=b.rows/\a.cols=b.cols)=false from decide_eq_false (fun h=>h2 h.2)]
   have h1':(a.rows==b.rows)=true:=by simpa using h1
   have h2':(a.cols==b.cols)=false:=by simpa using h2
   clear h1 h2 hs ht
   go_enter Tryz.func40,Tryz.ntmps40
   go_wp2
   go_ret
   exact ⟨rfl,a_ (o_ _ _)⟩
 ·rw[show decide (a.rows=b.rows/\a.cols=b.cols)=false from decide_eq_false (fun h=>h1 h.1)]
  have h1':(a.rows==b.rows)=false:=by simpa using h1
  clear h1 hs ht
  go_enter Tryz.func40,Tryz.ntmps40
  go_wp2
  go_ret
  exact ⟨rfl,a_ (o_ _ _)⟩
set_option maxHeartbeats 4000000 in
set_option maxRecDepth 100000 in
theorem trchk_any(l:Ly)(p:Mx×Mx)(sa:Option Addr)(sn sk:Nat)(ta:Option Addr)(tn tk:Nat)(pa:Option Addr)(pn pk:Nat)(qa:Option Addr)(qn qk:Nat)(w:World)(hs:I_ w (.slice sa sn sk) l.w.cells)(ht:I_ w (.slice ta tn tk) l.b.cells)(h1:I_ w (.slice pa pn pk) p.1.cells)(h2:I_ w (.slice qa qn qk) p.2.cells):
  Calls Tryz.prog 21 #[.agg #[.int .i64 l.k,.int .i64 l.w.rows,.int .i64 l.w.cols,.slice sa sn sk,.int .i64 l.b.rows,.int .i64 l.b.cols,.slice ta tn tk],.agg #[.int .i64 p.1.rows,.int .i64 p.1.cols,.slice pa pn pk,.int .i64 p.2.rows,.int .i64 p.2.cols,.slice qa qn qk]] w fun e w'=>e=.returned (errV (stt1E l p))/\Below w.heap.size w w':=by
 obtain ⟨V,hV⟩:=gM ((w.alloc (.cells #[.int .i64 l.k,.int .i64 l.w.rows,.int .i64 l.w.cols,.slice sa sn sk,.int .i64 l.b.rows,.int .i64 l.b.cols,.slice ta tn tk] 58)).alloc (.cells #[.int .i64 p.1.rows,.int .i64 p.1.cols,.slice pa pn pk,.int .i64 p.2.rows,.int .i64 p.2.cols,.slice qa qn qk] 61))
 have HV:=h_ hV
 have HWV:Hid (Below w.heap.size w V):=by rw[hV];exact h_ (a_ (o_ _ _))
 have HX0:Hid (Box V w.heap.size [.int .i64 l.k,.int .i64 l.w.rows,.int .i64 l.w.cols,.slice sa sn sk,.int .i64 l.b.rows,.int .i64 l.b.cols,.slice ta tn tk]):=by rw[hV];exact h_ ((Box.new w [.int .i64 l.k,.int .i64 l.w.rows,.int .i64 l.w.cols,.slice sa sn sk,.int .i64 l.b.rows,.int .i64 l.b.cols,.slice ta tn tk] 58 rfl).u_ (o_ _ _))
 have HX1:Hid (Box V (w.heap.size+1) [.int .i64 p.1.rows,.int .i64 p.1.cols,.slice pa pn pk,.int .i64 p.2.rows,.int .i64 p.2.cols,.slice qa qn qk]):=by rw[hV];exact h_ (Box.new _ [.int .i64 p.1.rows,.int .i64 p.1.cols,.slice pa pn pk,.int .i64 p.2.rows,.int .i64 p.2.cols,.slice qa qn qk] 61 (by simp))
 obtain ⟨E,hE⟩:=gN (stt1E l p)
 have HE:=h_ hE
 rw[hE]
 have HF0:=h_ (lcheck_any (.agg #[.int .i64 l.k,.int .i64 l.w.rows,.int .i64 l.w.cols,.slice sa sn sk,.int .i64 l.b.rows,.int .i64 l.b.cols,.slice ta tn tk]) l V ⟨_,_,rfl,hs.u_ HWV.out,ht.u_ HWV.out⟩)
 have HF1:=h_ (fun W (h:Below w.heap.size w W)=>C_ (.agg #[.int .i64 p.1.rows,.int .i64 p.1.cols,.slice pa pn pk]) p.1 W ⟨_,rfl,h1.u_ h⟩)
 have HF2:=h_ (fun W (h:Below w.heap.size w W)=>C_ (.agg #[.int .i64 p.2.rows,.int .i64 p.2.cols,.slice qa qn qk]) p.2 W ⟨_,rfl,h2.u_ h⟩)
 have HS1:=h_ (fun W (h:Below w.heap.size w W)=>trshape_any (.agg #[.int .i64 p.1.rows,.int .i64 p.1.cols,.slice pa pn pk]) (.agg #[.int .i64 l.w.rows,.int .i64 l.w.cols,.slice sa sn sk]) p.1 l.w W ⟨_,rfl,h1.u_ h⟩ ⟨_,rfl,hs.u_ h⟩)
 have HS2:=h_ (fun W (h:Below w.heap.size w W)=>trshape_any (.agg #[.int .i64 p.2.rows,.int .i64 p.2.cols,.slice qa qn qk]) (.agg #[.int .i64 l.b.rows,.int .i64 l.b.cols,.slice ta tn tk]) p.2 l.b W ⟨_,rfl,h2.u_ h⟩ ⟨_,rfl,ht.u_ h⟩)
 obtain ⟨g0,hg0⟩:=gN (l_ l)
 obtain ⟨g1,hg1⟩:=gN (q_ p.1)
 obtain ⟨g2,hg2⟩:=gN (q_ p.2)
 obtain ⟨g3,hg3⟩:=gN (H_ p.1 l.w)
 obtain ⟨g4,hg4⟩:=gN (H_ p.2 l.b)
 rw[hg0]at HF0
 rw[hg1]at HF1
 rw[hg2]at HF2
 rw[hg3]at HS1
 rw[hg4]at HS2
 have HG:=h_ (And.intro hg0 (And.intro hg1 hg2))
 have HG3:=h_ (And.intro hg3 hg4)
 obtain ⟨d0,d1,d2,d3,d4,d5,d6⟩:=HX0.out.c7
 rw[HV.out]at d0 d1 d2 d3 d4 d5 d6
 clear hV hE hs ht h1 h2 hg0 hg1 hg2 hg3 hg4
 go_enter Tryz.func21,Tryz.ntmps21
 go_wp2_with fail
 rw[<-HV.out]
 refine HF0.out.mono ?_
 rintro e w1 ⟨rfl,hb1⟩
 have HB1:=h_ hb1
 have HW1:=h_ (b_ HWV.out hb1)
 clear hb1 d0 d1 d2 d3 d4 d5 d6 HF0
 by_cases c0:g0=0
 case neg=>
  obtain rfl:g0=E:=by rw[<-HE.out];unfold stt1E;rw[HG.out.1];simp[c0]
  rw[n_ c0]
  have HC:=h_ c0
  clear c0
  go_wp2
  go_ret
  exact ⟨R_ (err_of rfl HC.out),HW1.out⟩
 subst c0
 rw[e_ rfl]
 obtain ⟨d0,d1,d2⟩:=(HX1.out.u_ HB1.out).c3
 go_wp2_with fail
 refine (HF1.out _ HW1.out).mono ?_
 rintro e w2 ⟨rfl,hb2⟩
 have HB2:=h_ (b_ HB1.out hb2)
 have HW2:=h_ (b_ HW1.out hb2)
 clear hb2 d0 d1 d2
 by_cases c1:g1=0
 case neg=>
  obtain rfl:g1=E:=by rw[<-HE.out];unfold stt1E;rw[HG.out.1,HG.out.2.1];simp[c1]
  rw[n_ c1]
  have HC:=h_ c1
  clear c1
  go_wp2
  go_ret
  exact ⟨R_ (err_of rfl HC.out),HW2.out⟩
 subst c1
 rw[e_ rfl]
 obtain ⟨d3,d4,d5⟩:=(HX1.out.u_ HB2.out).c35
 go_wp2_with fail
 refine (HF2.out _ HW2.out).mono ?_
 rintro e w3 ⟨rfl,hb3⟩
 have HB3:=h_ (b_ HB2.out hb3)
 have HW3:=h_ (b_ HW2.out hb3)
 clear hb3 d3 d4 d5
 by_cases c2:g2=0
 case neg=>
  obtain rfl:g2=E:=by rw[<-HE.out];unfold stt1E;rw[HG.out.1,HG.out.2.1,HG.out.2.2];simp[c2]
  rw[n_ c2]
  have HC:=h_ c2
  clear c2
  go_wp2
  go_ret
  exact ⟨R_ (err_of rfl HC.out),HW3.out⟩
 subst c2
 rw[e_ rfl]
 have HE3:=h_ (show (if g3=false\/g4=false then 2 else 0)=E by rw[<-HE.out,<-HG3.out.1,<-HG3.out.2];unfold stt1E;rw[HG.out.1,HG.out.2.1,HG.out.2.2];simp)
 obtain ⟨d0,d1,d2⟩:=(HX1.out.u_ HB3.out).c3
 have f1:=(HX0.out.u_ HB3.out) 1 _ rfl
 have f2:=(HX0.out.u_ HB3.out) 2 _ rfl
 have f3:=(HX0.out.u_ HB3.out) 3 _ rfl
 go_wp2_with fail
 refine (HS1.out _ HW3.out).mono ?_
 rintro e w4 ⟨rfl,hb4⟩
 have HB4:=h_ (b_ HB3.out hb4)
 have HW4:=h_ (b_ HW3.out hb4)
 clear hb4 d0 d1 d2 f1 f2 f3
 cases g3 with
 |false=>
  obtain rfl:E=2:=by rw[<-HE3.out];simp
  go_wp2
  go_ret
  exact ⟨R_ (err_of rfl (by decide)),HW4.out⟩
 |true=>
  obtain ⟨d3,d4,d5⟩:=(HX1.out.u_ HB4.out).c35
  have f4:=(HX0.out.u_ HB4.out) 4 _ rfl
  have f5:=(HX0.out.u_ HB4.out) 5 _ rfl
  have f6:=(HX0.out.u_ HB4.out) 6 _ rfl
  go_wp2_with fail
  refine (HS2.out _ HW4.out).mono ?_
  rintro e w5 ⟨rfl,hb5⟩
  have HW5:=h_ (b_ HW4.out hb5)
  clear hb5 d3 d4 d5 f4 f5 f6
  cases g4 with
  |false=>
   obtain rfl:E=2:=by rw[<-HE3.out];simp
   go_wp2
   go_ret
   exact ⟨R_ (err_of rfl (by decide)),HW5.out⟩
  |true=>
   obtain rfl:E=0:=by rw[<-HE3.out];simp
   go_wp2
   go_ret
   exact ⟨R_ (err_no rfl),HW5.out⟩
set_option maxHeartbeats 8000000 in
set_option maxRecDepth 100000 in
theorem trcheck_any(v v1:Value)(ls:List Ly)(ps:List (Mx×Mx))(n:Int)(w:World)(hv:Y_ w v ls)(hp:D_ w v1 ps):
  Calls Tryz.prog 7 #[.agg #[v,v1,.int .i64 n]] w fun e w'=>e=.returned (errV (stateE ls ps n))/\Below w.heap.size w w':=by
 obtain ⟨a,cap,rfl,hlc,hcm⟩:=hv.shape
 obtain ⟨a1,cap1,rfl,hlc1,hcm1⟩:=hp.shape
 have HV:=h_ hv
 have HP:=h_ hp
 obtain ⟨N,hN⟩:=gN (ls.length)
 obtain ⟨N1,hN1⟩:=gN (ps.length)
 have HN:=h_ (And.intro hN hN1)
 obtain ⟨E,hE⟩:=gN (stateE ls ps n)
 have HE1:=h_ (show (if 12<N then 3 else if N1≠N then 2 else if n<0\/1000000000<n then 1 else sttE ls ps)=E by rw[<-hE,<-hN,<-hN1];rfl)
 rw[hE]
 rw[hN]at HV ⊢
 rw[hN1]at HP ⊢
 have hm0:N<=maxLen:=by omega
 have hm1:N1<=maxLen:=by omega
 unfold maxLen at hm0 hm1
 clear hv hp hN hN1 hE hlc hcm hlc1 hcm1
 have HBX:=h_ (o_ w (.cells #[.slice a N cap,.slice a1 N1 cap1,.int .i64 n] 35))
 have HSX:=h_ (Box.new w [.slice a N cap,.slice a1 N1 cap1,.int .i64 n] 35 rfl)
 by_cases h12:12<N
 ·obtain rfl:E=3:=by rw[<-HE1.out,if_pos h12]
  have h12':(12:Int)<(N:Int):=by omega
  go_enter Tryz.func7,Tryz.ntmps7
  go_wp2
  go_ret
  exact ⟨R_ (err_of rfl (by decide)),HBX.out⟩
 have h12':¬(12:Int)<(N:Int):=by omega
 by_cases hl1:N1=N
 case neg=>
  obtain rfl:E=2:=by rw[<-HE1.out,if_neg h12,if_pos hl1]
  have hn1:((N1:Int) !=(N:Int))=true:=by simp;omega
  go_enter Tryz.func7,Tryz.ntmps7
  go_wp2
  go_ret
  exact ⟨R_ (err_of rfl (by decide)),HBX.out⟩
 subst hl1
 have hnn:((N1:Int) !=(N1:Int))=false:=by simp
 by_cases r0:n<0
 ·obtain rfl:E=1:=by rw[<-HE1.out,if_neg h12,if_neg (by simp),if_pos (.inl r0)]
  go_enter Tryz.func7,Tryz.ntmps7
  go_wp2
  go_ret
  exact ⟨R_ (err_of rfl (by decide)),HBX.out⟩
 by_cases r1:1000000000<n
 ·obtain rfl:E=1:=by rw[<-HE1.out,if_neg h12,if_neg (by simp),if_pos (.inr r1)]
  go_enter Tryz.func7,Tryz.ntmps7
  go_wp2
  go_ret
  exact ⟨R_ (err_of rfl (by decide)),HBX.out⟩
 have HE2:=h_ (show sttE ls ps=E by rw[<-HE1.out,if_neg h12,if_neg (by simp),if_neg (by omega)])
 clear h12 hm0 hm1
 go_enter Tryz.func7,Tryz.ntmps7
 go_wp2
 go_loopw [31] (fun q wr=>∃(i:Nat) (xi:Int),i<=N1/\xi=(i:Int)/\q=.int .i64 xi/\sttE (ls.drop i) (ps.drop i)=E/\Below (w.alloc (.cells #[.slice a N1 cap,.slice a1 N1 cap1,.int .i64 n] 35)).heap.size (w.alloc (.cells #[.slice a N1 cap,.slice a1 N1 cap1,.int .i64 n] 35)) wr) (fun q _=>N1 - (intOf q).toNat)
 case atStart=>exact ⟨0,0,Nat.zero_le _,rfl,rfl,HE2.out,Below.refl _ _⟩
 case round=>
  obtain ⟨i,xi,hi,hxi,rfl,he,hbv⟩:=hrel
  have HXI:=h_ hxi
  have HBV:=h_ hbv
  have HB:=h_ (b_ HBX.out hbv)
  have HER:=h_ he
  have hxi0:0<=xi:=by omega
  have hxi1:xi<=12:=by omega
  have x1:=(HSX.out.u_ HBV.out) 1 _ rfl
  clear hxi he hbv
  by_cases hlt:xi<(N1:Int)
  ·have hin:i<N1:=by have:=HXI.out;omega
   have hxn:xi.toNat=i:=by have:=HXI.out;omega
   obtain ⟨l,hl⟩:∃l,ls[i]?=some l:=⟨ls[i]'(by have:=HN.out.1;omega),List.getElem?_eq_getElem _⟩
   obtain ⟨p,hp⟩:∃p,ps[i]?=some p:=⟨ps[i]'(by have:=HN.out.2;omega),List.getElem?_eq_getElem _⟩
   obtain ⟨b,off,cp,sa,sn,sk,ta,tn,tk,ev,k0,k1,k2,k3,k4,k5,k6,hly⟩:=HV.out.at hl
   obtain ⟨b1,off1,cp1,pa,pn,pk,qa,qn,qk,ev1,y0,y1,y2,y3,y4,y5,j1,j2⟩:=HP.out.at hp
   obtain rfl:=(Value.slice.inj ev).1
   obtain rfl:=(Value.slice.inj ev1).1
   rw[<-hxn]at k0 k1 k2 k3 k4 k5 k6 y0 y1 y2 y3 y4 y5
   replace k0:=c_ HB.out k0
   replace k1:=c_ HB.out k1
   replace k2:=c_ HB.out k2
   replace k3:=c_ HB.out k3
   replace k4:=c_ HB.out k4
   replace k5:=c_ HB.out k5
   replace k6:=c_ HB.out k6
   replace y0:=c_ HB.out y0
   replace y1:=c_ HB.out y1
   replace y2:=c_ HB.out y2
   replace y3:=c_ HB.out y3
   replace y4:=c_ HB.out y4
   replace y5:=c_ HB.out y5
   obtain ⟨i1,i2⟩:=Y_.ints hly
   have HD:=h_ (show sttE (ls.drop i) (ps.drop i)=if stt1E l p≠0 then stt1E l p else sttE (ls.drop (i+1)) (ps.drop (i+1)) by rw[drop_at hl,drop_at hp];rfl)
   have HX:=h_ (fun W (h:Below w.heap.size w W)=>trchk_any l p sa sn sk ta tn tk pa pn pk qa qn qk W (i1.u_ h) (i2.u_ h) (j1.u_ h) (j2.u_ h))
   have HLB:=h_ (show Box (wr.alloc (.cells #[.int .i64 l.k,.int .i64 l.w.rows,.int .i64 l.w.cols,.slice sa sn sk,.int .i64 l.b.rows,.int .i64 l.b.cols,.slice ta tn tk] 58)) wr.heap.size [.int .i64 l.k,.int .i64 l.w.rows,.int .i64 l.w.cols,.slice sa sn sk,.int .i64 l.b.rows,.int .i64 l.b.cols,.slice ta tn tk] from Box.new _ _ _ rfl)
   have HBU:=h_ (show Below w.heap.size w (wr.alloc (.cells #[.int .i64 l.k,.int .i64 l.w.rows,.int .i64 l.w.cols,.slice sa sn sk,.int .i64 l.b.rows,.int .i64 l.b.cols,.slice ta tn tk] 58)) from a_ HB.out)
   have HKY:=h_ (And.intro x1 (And.intro y0 (And.intro y1 (And.intro y2 (And.intro y3 (And.intro y4 y5))))))
   obtain ⟨c,hc⟩:=gN (stt1E l p)
   rw[hc]at HD HX
   clear ev ev1 hly i1 i2 j1 j2 hl hp hxn hc
   go_wp2
   obtain ⟨U,hU⟩:=gM ((wr.alloc (.cells #[.int .i64 l.k,.int .i64 l.w.rows,.int .i64 l.w.cols,.slice sa sn sk,.int .i64 l.b.rows,.int .i64 l.b.cols,.slice ta tn tk] 58)))
   rw[<-hU]at HLB HBU ⊢
   have HRU:=h_ (show Below wr.heap.size wr U by rw[hU];exact o_ _ _)
   clear hU k0 k1 k2 k3 k4 k5 k6 x1 y0 y1 y2 y3 y4 y5
   have x1:=c_ HRU.out HKY.out.1
   have y0:=c_ HRU.out HKY.out.2.1
   have y1:=c_ HRU.out HKY.out.2.2.1
   have y2:=c_ HRU.out HKY.out.2.2.2.1
   have y3:=c_ HRU.out HKY.out.2.2.2.2.1
   have y4:=c_ HRU.out HKY.out.2.2.2.2.2.1
   have y5:=c_ HRU.out HKY.out.2.2.2.2.2.2
   obtain ⟨b0,bb1,b2,b3,b4,b5,b6⟩:=HLB.out.c7
   refine region_tail 6 (by kernel_rfl) (by kernel_rfl) ?_
   simp only[List.take_succ_cons,List.take_zero,List.drop_succ_cons,List.drop_zero]
   repeat still_step
   refine wpStill_nil ?_
   go_wp2_with fail
   refine (HX.out _ (d_ HBU.out)).mono ?_
   rintro e w2 ⟨rfl,hb2⟩
   have HB2:=h_ (show Below U.heap.size U w2 from b_ (r_ (Below.refl _ _)) hb2)
   clear hb2 HX x1 y0 y1 y2 y3 y4 y5 b0 bb1 b2 b3 b4 b5 b6
   by_cases c0:c=0
   ·subst c0
    rw[e_ rfl]
    have HE4:=h_ (show sttE (ls.drop (i+1)) (ps.drop (i+1))=E by rw[<-HER.out,HD.out];simp)
    go_wp2
    go_roundw
    case rel=>exact ⟨i+1,_,by omega,by have:=HXI.out;omega,rfl,HE4.out,b_ HBV.out (b_ HRU.out HB2.out)⟩
    case measure=>have:=HXI.out;simp[intOf];omega
   ·obtain rfl:c=E:=by rw[<-HER.out,HD.out,if_pos c0]
    rw[n_ c0]
    have HC0:=h_ c0
    clear c0
    go_wp2
    go_ret
    exact ⟨R_ (err_of rfl HC0.out),b_ HBU.out HB2.out⟩
  ·have hin:i=N1:=by have:=HXI.out;omega
   obtain rfl:E=0:=by
    have h:=HER.out
    rw[hin,<-HN.out.1,List.drop_length]at h
    exact h.symm
   clear hin
   go_wp2
   go_ret
   exact ⟨R_ (err_no rfl),HB.out⟩
end Go.Proofs.YtniloklglpchfaeGreatDoor
