/- What Check, Wide, Go and Back of package layer come to. -/
import Derived.Test.YtniloklglpchfafLKind
import Derived.Test.YtniloklglpchfafLScale
import Derived.Test.YtniloklglpchfafPkLBox
namespace Go.Proofs.Ytniloklglpchfaf
open Go.RowKit
theorem goX_no{l:Ly}{x:Mx}(h:goE l x≠0):goX l x=noMx:=by unfold goX;rw[if_neg h]
theorem backX_no{l:Ly}{x g:Mx}(h:backE l x g≠0):backX l x g=noMx∧gradW l x g=noMx∧gradB l x g=noMx:=by unfold backX gradW gradB;rw[if_neg h,if_neg h,if_neg h];exact ⟨rfl,rfl,rfl⟩
theorem wideE_eq(l:Ly)(n:Int)(h:l_ l=0):wideE l n=w0E l n:=by unfold wideE w0E;rw[if_neg (by simp[h])]
theorem wideX_eq(l:Ly)(n:Int)(h:l_ l=0):wideX l n=w0X l n:=by unfold wideX w0X;rw[wideE_eq l n h]
theorem wideE_l{l:Ly}(n:Int)(h:l_ l≠0):wideE l n=l_ l:=by unfold wideE;rw[if_pos h]
theorem wideX_l{l:Ly}(n:Int)(h:l_ l≠0):0=wideX l n:=by unfold wideX;rw[if_neg (by rw[wideE_l n h];exact h)]
theorem backE_go{l:Ly}{x g:Mx}(h:goE l x≠0):backE l x g=goE l x:=by unfold backE;rw[if_pos h]
theorem backE_g{l:Ly}{x g:Mx}(h:goE l x=0)(hg:q_ g≠0):backE l x g=q_ g:=by unfold backE;rw[if_neg (by simp[h]),if_pos hg]
theorem backE_s{l:Ly}{x g:Mx}(h:goE l x=0)(hg:q_ g=0)(hs:¬(g.rows=x.rows∧g.cols=g_ l x.cols)):backE l x g=2:=by
 unfold backE;rw[if_neg (by simp[h]),if_neg (by simp[hg]),if_pos (by omega)]
theorem backE_f{l:Ly}{x g:Mx}(h:goE l x=0)(hg:q_ g=0)(hs:g.rows=x.rows∧g.cols=g_ l x.cols)(hf:l.k=1∧12<x.rows):backE l x g=1:=by
 unfold backE;rw[if_neg (by simp[h]),if_neg (by simp[hg]),if_neg (by omega),if_pos hf]
theorem forth_at_linear(l:Ly){xa:Option Addr}{xn xk:Nat}{ya:Option Addr}{yn yk:Nat}(x:Mx)(vx:Value)(w:World)(hk:l.k=1)(h:goE l x=0)(hs:I_ w (.slice xa xn xk) l.w.cells)(ht:I_ w (.slice ya yn yk) l.b.cells)(hx:M_ w vx x):
  Calls Try.prog 100 #[.agg #[.int .i64 l.w.rows,.int .i64 l.w.cols,.slice xa xn xk,.int .i64 l.b.rows,.int .i64 l.b.cols,.slice ya yn yk],vx] w (MxErr w (goX l x) (goE l x)):=by
 obtain ⟨hl,hfx,htk⟩:=goE_zero h
 obtain ⟨R,C,gx⟩:=o__ hfx
 cases lyG_of hl using LyG.el with
 |lin Rw Cw _ gw gb h1 h2 h3=>
  have e:=takes_lin hk htk
  have:=forth_linear l x vx w R Rw Cw (gx.same rfl (by have:=gx.c;have:=gw.r;omega)) gw gb h3 hs ht hx
  rw[show goX l x=addRows (mulX x l.w) l.b by unfold goX goG;rw[if_pos h,if_pos hk],h]
  exact this
 |relu hk' _ _=>omega
 |scale hk' _ _=>omega
 |shift _ hk' _ _ _=>omega
theorem back_at_linear(l:Ly){xa:Option Addr}{xn xk:Nat}{ya:Option Addr}{yn yk:Nat}(x g:Mx)(vx vg:Value)(w:World)(hk:l.k=1)(h:goE l x=0)(hfg:q_ g=0)(hsh:g.rows=x.rows∧g.cols=g_ l x.cols)(hs:I_ w (.slice xa xn xk) l.w.cells)(hx:M_ w vx x)(hg:M_ w vg g):
  Calls Try.prog 98 #[.agg #[.int .i64 l.w.rows,.int .i64 l.w.cols,.slice xa xn xk,.int .i64 l.b.rows,.int .i64 l.b.cols,.slice ya yn yk],vx,vg] w (BackErr w (backX l x g) (gradW l x g) (gradB l x g) (backE l x g)):=by
 obtain ⟨hl,hfx,htk⟩:=goE_zero h
 obtain ⟨R,C,gx⟩:=o__ hfx
 obtain ⟨Rg,Cg,gg⟩:=o__ hfg
 cases lyG_of hl using LyG.el with
 |lin Rw Cw _ gw gb h1 h2 h3=>
  have e:=takes_lin hk htk
  have ec:g_ l x.cols=l.w.cols:=by unfold g_;rw[if_pos hk]
  have gx':=gx.same (R':=R) (C':=Rw) rfl (by have:=gx.c;have:=gw.r;omega)
  have gg':=gg.same (R':=R) (C':=Cw) (by have:=gg.r;have:=gx.r;have:=hsh.1;omega) (by have:=gg.c;have:=gw.c;have:=hsh.2;omega)
  by_cases hR:R≤12
  ·have hE:backE l x g=0:=backE_of h hfg hsh.1 hsh.2 (by have:=gx.r;omega)
   rw[show backX l x g=mulX g (turnX l.w) by unfold backX backG;rw[if_pos hE,if_pos hk],show gradW l x g=mulX (turnX x) g by unfold gradW;rw[if_pos hE,if_pos hk],show gradB l x g=sumsX g by unfold gradB;rw[if_pos hE,if_pos (.inl hk)],hE]
   exact back_linear l x g vx vg w R Rw Cw gx' gw gg' h2 hR hs hx hg
  ·have hE:backE l x g=1:=backE_f h hfg hsh ⟨hk,by have:=gx.r;omega⟩
   obtain ⟨n1,n2,n3⟩:=backX_no (show backE l x g≠0 by rw[hE];decide)
   rw[n1,n2,n3,hE]
   exact back_linear_far l x g vx vg w R Rw Cw gx' gw gg' h2 (by omega) hs hx hg
 |relu hk' _ _=>omega
 |scale hk' _ _=>omega
 |shift _ hk' _ _ _=>omega
theorem forth_at_relu(l:Ly){xa:Option Addr}{xn xk:Nat}{ya:Option Addr}{yn yk:Nat}(x:Mx)(vx:Value)(w:World)(hk:l.k=2)(h:goE l x=0)(_hs:I_ w (.slice xa xn xk) l.w.cells)(_ht:I_ w (.slice ya yn yk) l.b.cells)(hx:M_ w vx x):
  Calls Try.prog 118 #[.agg #[.int .i64 l.w.rows,.int .i64 l.w.cols,.slice xa xn xk,.int .i64 l.b.rows,.int .i64 l.b.cols,.slice ya yn yk],vx] w (MxErr w (goX l x) (goE l x)):=by
 obtain ⟨_,hfx,_⟩:=goE_zero h
 obtain ⟨R,C,gx⟩:=o__ hfx
 rw[show goX l x=reluX x by unfold goX goG;rw[if_pos h,if_neg (by omega),if_pos hk],h]
 exact forth_relu l x vx w R C gx hx
theorem back_at_relu(l:Ly){xa:Option Addr}{xn xk:Nat}{ya:Option Addr}{yn yk:Nat}(x g:Mx)(vx vg:Value)(w:World)(hk:l.k=2)(h:goE l x=0)(hfg:q_ g=0)(hsh:g.rows=x.rows∧g.cols=g_ l x.cols)(_hs:I_ w (.slice xa xn xk) l.w.cells)(hx:M_ w vx x)(hg:M_ w vg g):
  Calls Try.prog 116 #[.agg #[.int .i64 l.w.rows,.int .i64 l.w.cols,.slice xa xn xk,.int .i64 l.b.rows,.int .i64 l.b.cols,.slice ya yn yk],vx,vg] w (BackErr w (backX l x g) (gradW l x g) (gradB l x g) (backE l x g)):=by
 obtain ⟨_,hfx,_⟩:=goE_zero h
 obtain ⟨R,C,gx⟩:=o__ hfx
 obtain ⟨Rg,Cg,gg⟩:=o__ hfg
 have ec:g_ l x.cols=x.cols:=by unfold g_;rw[if_neg (by omega)]
 have gg':=gg.same (R':=R) (C':=C) (by have:=gg.r;have:=gx.r;have:=hsh.1;omega) (by have:=gg.c;have:=gx.c;have:=hsh.2;omega)
 have hE:backE l x g=0:=backE_of h hfg hsh.1 hsh.2 (by omega)
 rw[show backX l x g=reluB x g by unfold backX backG;rw[if_pos hE,if_neg (by omega),if_pos hk],show gradW l x g=noMx by unfold gradW;rw[if_pos hE,if_neg (by omega),if_neg (by omega)],show gradB l x g=noMx by unfold gradB;rw[if_pos hE,if_neg (by omega)],hE]
 exact back_relu l x g vx vg w R C gx gg' hx hg
theorem forth_at_scale(l:Ly){xa:Option Addr}{xn xk:Nat}{ya:Option Addr}{yn yk:Nat}(x:Mx)(vx:Value)(w:World)(hk:l.k=3)(h:goE l x=0)(hs:I_ w (.slice xa xn xk) l.w.cells)(_ht:I_ w (.slice ya yn yk) l.b.cells)(hx:M_ w vx x):
  Calls Try.prog 123 #[.agg #[.int .i64 l.w.rows,.int .i64 l.w.cols,.slice xa xn xk,.int .i64 l.b.rows,.int .i64 l.b.cols,.slice ya yn yk],vx] w (MxErr w (goX l x) (goE l x)):=by
 obtain ⟨hl,hfx,_⟩:=goE_zero h
 obtain ⟨R,C,gx⟩:=o__ hfx
 cases lyG_of hl using LyG.el with
 |lin _ _ hk' _ _ _ _ _=>omega
 |relu hk' _ _=>omega
 |scale _ gw _=>
  rw[show goX l x=timesX x (A_ l.w 0) by unfold goX goG;rw[if_pos h,if_neg (by omega),if_neg (by omega),if_pos hk],h]
  exact forth_scale l x vx w R C gx gw hs hx
 |shift _ hk' _ _ _=>omega
theorem back_at_scale(l:Ly){xa:Option Addr}{xn xk:Nat}{ya:Option Addr}{yn yk:Nat}(x g:Mx)(vx vg:Value)(w:World)(hk:l.k=3)(h:goE l x=0)(hfg:q_ g=0)(hsh:g.rows=x.rows∧g.cols=g_ l x.cols)(hs:I_ w (.slice xa xn xk) l.w.cells)(hx:M_ w vx x)(hg:M_ w vg g):
  Calls Try.prog 121 #[.agg #[.int .i64 l.w.rows,.int .i64 l.w.cols,.slice xa xn xk,.int .i64 l.b.rows,.int .i64 l.b.cols,.slice ya yn yk],vx,vg] w (BackErr w (backX l x g) (gradW l x g) (gradB l x g) (backE l x g)):=by
 obtain ⟨hl,hfx,_⟩:=goE_zero h
 obtain ⟨R,C,gx⟩:=o__ hfx
 obtain ⟨Rg,Cg,gg⟩:=o__ hfg
 cases lyG_of hl using LyG.el with
 |lin _ _ hk' _ _ _ _ _=>omega
 |relu hk' _ _=>omega
 |scale _ gw _=>
  have ec:g_ l x.cols=x.cols:=by unfold g_;rw[if_neg (by omega)]
  have gg':=gg.same (R':=R) (C':=C) (by have:=gg.r;have:=gx.r;have:=hsh.1;omega) (by have:=gg.c;have:=gx.c;have:=hsh.2;omega)
  have hE:backE l x g=0:=backE_of h hfg hsh.1 hsh.2 (by omega)
  rw[show backX l x g=timesX g (A_ l.w 0) by unfold backX backG;rw[if_pos hE,if_neg (by omega),if_neg (by omega),if_pos hk],show gradW l x g=⟨1,1,[sumP x g x.cells.length]⟩ by unfold gradW;rw[if_pos hE,if_neg (by omega),if_pos hk],show gradB l x g=noMx by unfold gradB;rw[if_pos hE,if_neg (by omega)],hE]
  exact back_scale l x g vx vg w R C gx gg' gw hs hx hg
 |shift _ hk' _ _ _=>omega
theorem forth_at_shift(l:Ly){xa:Option Addr}{xn xk:Nat}{ya:Option Addr}{yn yk:Nat}(x:Mx)(vx:Value)(w:World)(hk:l.k=4)(h:goE l x=0)(_hs:I_ w (.slice xa xn xk) l.w.cells)(ht:I_ w (.slice ya yn yk) l.b.cells)(hx:M_ w vx x):
  Calls Try.prog 128 #[.agg #[.int .i64 l.w.rows,.int .i64 l.w.cols,.slice xa xn xk,.int .i64 l.b.rows,.int .i64 l.b.cols,.slice ya yn yk],vx] w (MxErr w (goX l x) (goE l x)):=by
 obtain ⟨hl,hfx,htk⟩:=goE_zero h
 obtain ⟨R,C,gx⟩:=o__ hfx
 cases lyG_of hl using LyG.el with
 |lin _ _ hk' _ _ _ _ _=>omega
 |relu hk' _ _=>omega
 |scale hk' _ _=>omega
 |shift Cb _ _ gb h1=>
  have e:=takes_shift hk htk
  rw[show goX l x=addRows x l.b by unfold goX goG;rw[if_pos h,if_neg (by omega),if_neg (by omega),if_neg (by omega)],h]
  exact forth_shift l x vx w R C gx (gb.same rfl (by have:=gx.c;have:=gb.c;omega)) (by have:=gx.c;have:=gb.c;omega) ht hx
theorem back_at_shift(l:Ly){xa:Option Addr}{xn xk:Nat}{ya:Option Addr}{yn yk:Nat}(x g:Mx)(vx vg:Value)(w:World)(hk:l.k=4)(h:goE l x=0)(hfg:q_ g=0)(hsh:g.rows=x.rows∧g.cols=g_ l x.cols)(_hs:I_ w (.slice xa xn xk) l.w.cells)(hx:M_ w vx x)(hg:M_ w vg g):
  Calls Try.prog 126 #[.agg #[.int .i64 l.w.rows,.int .i64 l.w.cols,.slice xa xn xk,.int .i64 l.b.rows,.int .i64 l.b.cols,.slice ya yn yk],vx,vg] w (BackErr w (backX l x g) (gradW l x g) (gradB l x g) (backE l x g)):=by
 obtain ⟨Rg,Cg,gg⟩:=o__ hfg
 have hE:backE l x g=0:=backE_of h hfg hsh.1 hsh.2 (by omega)
 rw[show backX l x g=eachX g (A_ g) by unfold backX backG;rw[if_pos hE,if_neg (by omega),if_neg (by omega),if_neg (by omega)],show gradW l x g=noMx by unfold gradW;rw[if_pos hE,if_neg (by omega),if_neg (by omega)],show gradB l x g=sumsX g by unfold gradB;rw[if_pos hE,if_pos (.inr hk)],hE]
 exact back_shift l x g vx vg w Rg Cg gg hx hg
end Go.Proofs.Ytniloklglpchfaf
