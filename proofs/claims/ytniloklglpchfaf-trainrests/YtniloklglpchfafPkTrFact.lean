/- What trainFact of the laws comes to: a scale of 1 that ought to double learns. -/
import Derived.Test.YtniloklglpchfafTrC5
import Derived.Test.YtniloklglpchfafTrC2
import Derived.Test.YtniloklglpchfafPkMLaw
import Derived.Test.YtniloklglpchfafPlain
import Derived.Deep.RegionHeld3
import Derived.Test.YtniloklglpchfafPkLBox
namespace Go.Proofs.Ytniloklglpchfaf
open Go.RowKit
def tfL:List Ly:=[⟨3,⟨1,1,[256]⟩,noMx⟩]
def tfB:Mx×Mx:=(⟨1,1,[256]⟩,⟨1,1,[512]⟩)
theorem tf_E:oneE tfL (zeroD tfL) 0 tfB 1 128 0=0:=by kernel_rfl
theorem tf_S:(stepS ⟨tfL,zeroD tfL,0⟩ tfB 1 128 0).net=[⟨3,⟨1,1,[384]⟩,noMx⟩]:=by kernel_rfl
theorem tf_n:(stepS ⟨tfL,zeroD tfL,0⟩ tfB 1 128 0).n=1:=by kernel_rfl
theorem tf_K:stepK ⟨tfL,zeroD tfL,0⟩ tfB 1 128 0=128:=by kernel_rfl
theorem tf_made(w:World):Y_ ((w.alloc (.cells #[.int .i64 256] 3)).alloc (.cells #[.int .i64 3,.int .i64 1,.int .i64 1,.slice (some ⟨w.heap.size,0,none⟩) 1 1,.int .i64 0,.int .i64 0,.slice none 0 0] 52)) (.slice (some ⟨w.heap.size+1,0,none⟩) 1 1) tfL:=by
 have h:=Owns.made (lo:=0) (base:=0) (w:=w.alloc (.cells #[.int .i64 256] 3)) (e:=52) (size:=7) (n:=1) (cs:=[.int .i64 3,.int .i64 1,.int .i64 1,.slice (some ⟨w.heap.size,0,none⟩) 1 1,.int .i64 0,.int .i64 0,.slice none 0 0]) (sp:=lyS ⟨3,⟨1,1,[256]⟩,noMx⟩) (Nat.zero_le _) (by unfold maxLen;omega) rfl
  (enc_ly2 (l:=⟨3,⟨1,1,[256]⟩,noMx⟩) ⟨ints_new w [256] (by decide) 3,.inr fun b _ hb=>by omega⟩ ⟨I_.nil _,.inl rfl⟩)
 rw[World.size_alloc]at h
 exact h.reads
set_option maxHeartbeats 8000000 in
set_option maxRecDepth 100000 in
theorem tfact_any(w:World):Calls Try.prog 5 #[] w fun e w'=>e=.returned (.bool true)∧Below w.heap.size w w':=by
 obtain ⟨V,hV⟩:=gM ((w.alloc (.cells #[.int .i64 256] 3)).alloc (.cells #[.int .i64 3,.int .i64 1,.int .i64 1,.slice (some ⟨w.heap.size,0,none⟩) 1 1,.int .i64 0,.int .i64 0,.slice none 0 0] 52))
 have HV:=h_ hV
 have HWV:Hid (Below w.heap.size w V):=by rw[hV];exact h_ (a_ (o_ _ _))
 have HL:Hid (Y_ V (.slice (some ⟨w.heap.size+1,0,none⟩) 1 1) tfL):=by rw[hV];exact h_ (tf_made w)
 have HC:=h_ (trbegin_any _ tfL V HL.out (by decide) (fun l hl=>by
  have e:l=⟨3,⟨1,1,[256]⟩,noMx⟩:=by simpa [tfL] using hl
  subst e;exact ⟨by decide,by decide⟩))
 clear hV
 go_enter Try.func5,Try.ntmps5
 go_wp2_with fail
 rw[←HV.out]
 refine HC.out.mono ?_
 rintro e w1 ⟨u,t,rfl,ho1,ho2,hb1⟩
 have H1:=h_ (show Y_ w1 u tfL from ho1.reads)
 have H2:=h_ (show D_ w1 t (zeroD tfL) from ho2.reads)
 obtain ⟨ua,uk,rfl,_,_⟩:=H1.out.shape
 obtain ⟨va,vk,rfl,_,_⟩:=H2.out.shape
 have HW1:=h_ (b_ HWV.out hb1)
 obtain ⟨un,eun⟩:=gN (tfL.length)
 obtain ⟨vn,evn⟩:=gN ((zeroD tfL).length)
 rw[eun]at H1 ⊢
 rw[evn]at H2 ⊢
 clear ho1 ho2 hb1 eun evn HC
 obtain ⟨Z,hZ⟩:=gM ((((w1.alloc (.cells #[.slice ua un uk,.slice va vn vk,.int .i64 0] 37)).alloc (.cells #[.int .i64 256] 3)).alloc (.cells #[.int .i64 512] 3)).alloc (.cells #[.int .i64 1,.int .i64 1,.slice (some ⟨w1.heap.size+1,0,none⟩) 1 1,.int .i64 1,.int .i64 1,.slice (some ⟨w1.heap.size+1+1,0,none⟩) 1 1] 42))
 have HZ:=h_ hZ
 have H1Z:Hid (Below w1.heap.size w1 Z):=by rw[hZ];exact h_ (a_ (a_ (a_ (o_ _ _))))
 have J1:Hid (I_ Z (.slice (some ⟨w1.heap.size+1,0,none⟩) 1 1) tfB.1.cells):=by
  rw[hZ];exact h_ ((ints_newB (w1.alloc (.cells #[.slice ua un uk,.slice va vn vk,.int .i64 0] 37)) [256] (by decide) 3 (B:=w1.heap.size+1) (by simp)).u_ (a_ (o_ _ _)))
 have J2:Hid (I_ Z (.slice (some ⟨w1.heap.size+1+1,0,none⟩) 1 1) tfB.2.cells):=by
  rw[hZ];exact h_ ((ints_newB ((w1.alloc (.cells #[.slice ua un uk,.slice va vn vk,.int .i64 0] 37)).alloc (.cells #[.int .i64 256] 3)) [512] (by decide) 3 (B:=w1.heap.size+1+1) (by simp)).u_ (o_ _ _))
 have HO:=h_ (trone_any (.slice ua un uk) (.slice va vn vk) tfL (zeroD tfL) 0 tfB 1 128 0 (some ⟨w1.heap.size+1,0,none⟩) 1 1 (some ⟨w1.heap.size+1+1,0,none⟩) 1 1 Z (H1.out.u_ H1Z.out) (H2.out.u_ H1Z.out) J1.out J2.out)
 rw[tf_E,tf_S,tf_n,tf_K,e_ rfl]at HO
 clear hZ
 go_wp2_with fail
 rw[←HZ.out]
 refine HO.out.mono ?_
 rintro e w2 ⟨hb2,u2,t2,rfl,ho1,ho2⟩
 have H3:=h_ (show Y_ w2 u2 [⟨3,⟨1,1,[384]⟩,noMx⟩] from ho1.reads)
 obtain ⟨va2,vk2,rfl,_,_,_⟩:=ho2.reads
 obtain ⟨vn2,evn2⟩:=gN ((stepS ⟨tfL,zeroD tfL,0⟩ tfB 1 128 0).spd.length)
 rw[evn2]
 obtain ⟨b,off,cp,sa,sn,sk,ta,tn,tk,rfl,_,_,_,c3,_,_,_,hly⟩:=H3.out.at (i:=0) (l:=⟨3,⟨1,1,[384]⟩,noMx⟩) rfl
 have hi:=(Y_.ints hly).1
 obtain ⟨a',cap',ei,_,_,h4⟩:=hi
 obtain ⟨ib,io,rfl,hic⟩:=h4.resolve_left (by decide)
 obtain ⟨ea,en,ek⟩:=Value.slice.inj ei
 subst ea en ek
 have hbx:=o_ w2 (.cells #[.slice (some ⟨b,off,none⟩) 1 cp,.slice va2 vn2 vk2,.int .i64 1] 37)
 have i0:=c_ hbx (show w2.cell? ⟨ib,io,none⟩=some (.int .i64 384) by simpa using hic 0 384 rfl)
 have c3':=c_ hbx (show w2.cell? ⟨b,off+1+2,none⟩=some (.slice (some ⟨ib,io,none⟩) 1 sk) by simpa using c3)
 have HW2:=h_ (b_ (b_ HW1.out H1Z.out) hb2)
 clear hb2 ho1 ho2 evn2 c3 hly ei h4 hic HO hbx
 go_wp2
 go_ret
 exact ⟨rfl,a_ HW2.out⟩
end Go.Proofs.Ytniloklglpchfaf
/- Plain facts on rows taken apart and stacked, and on products taken row by row. -/
namespace Go.Proofs.Ytniloklglpchfaf
theorem Good.rows0{a:Mx}{R C:Nat}(g:Good a R C){f t:Nat}(h1:f≤t)(h2:t≤R):rowsE a (f:Int) (t:Int)=0:=by
 unfold rowsE;rw[g.fault,if_neg (by simp),if_neg (by rw[g.r];omega)]
theorem Good.rowsEq{a:Mx}{R C:Nat}(g:Good a R C){f t:Nat}(h1:f≤t)(h2:t≤R):rowsX a (f:Int) (t:Int)=⟨((t - f:Nat):Int),C,tab ((t - f)*C) (fun q=>(a.cells[f*C+q]?).getD 0)⟩:=by
 unfold rowsX
 rw[if_pos (g.rows0 h1 h2),g.c]
 have e1:(t:Int) - (f:Int)=((t - f:Nat):Int):=by omega
 rw[e1];simp
theorem Good.rows{a:Mx}{R C:Nat}(g:Good a R C){f t:Nat}(h1:f≤t)(h2:t≤R):Good (rowsX a (f:Int) (t:Int)) (t - f) C:=by
 rw[g.rowsEq h1 h2]
 exact ⟨rfl,rfl,by have:=g.hR;omega,g.hC,tab_len _ _,tab_ends (fun q _=>getD_ends g.e _)⟩
theorem rows_cell{a:Mx}{R C:Nat}(g:Good a R C){f t i j:Nat}(h1:f≤t)(h2:t≤R)(hi:i<t - f)(hj:j<C):((rowsX a (f:Int) (t:Int)).cells[i*C+j]?).getD 0=(a.cells[(f+i)*C+j]?).getD 0:=by
 rw[g.rowsEq h1 h2]
 show ((tab _ _)[_]?).getD 0=_
 rw[tab_get (idx_lt hi hj),Nat.add_mul,Nat.add_assoc]
theorem dot_rows{a b:Mx}{R C Cb:Nat}(g:Good a R C){f t i j:Nat}(h1:f≤t)(h2:t≤R)(hi:i<t - f):∀k,k≤C→dot (rowsX a (f:Int) (t:Int)).cells b.cells C Cb i j k=dot a.cells b.cells C Cb (f+i) j k
 |0,_=>rfl
 |k+1,hk=>by
  unfold dot
  rw[dot_rows g h1 h2 hi k (by omega),rows_cell g h1 h2 hi (by omega)]
theorem rows_mul{a b:Mx}{R C Cb:Nat}(ga:Good a R C)(gb:Good b C Cb){f t:Nat}(h1:f≤t)(h2:t≤R):mulX (rowsX a (f:Int) (t:Int)) b=rowsX (mulX a b) (f:Int) (t:Int):=by
 have gx:=ga.rows h1 h2
 have gp:=ga.mul gb
 rw[mulX_yes (gx.mul0 gb) gx.r gx.c gb.c,gp.rowsEq h1 h2]
 congr 1
 refine tab_congr (fun q hq=>?_)
 have hC0:0<Cb:=by rcases Nat.eq_zero_or_pos Cb with h|h;(subst h;simp at hq);exact h
 have hj:=Nat.mod_lt q hC0
 have hi:q / Cb<t - f:=Nat.div_lt_of_lt_mul (by rw[Nat.mul_comm];exact hq)
 rw[dot_rows ga h1 h2 hi C (Nat.le_refl _),←row_col (f:=f) (C:=Cb) (q:=q),mul_cell ga gb (by omega) hj]
end Go.Proofs.Ytniloklglpchfaf
/- Plain facts on what layers give: rows do not mind one another. No program in sight. -/
namespace Go.Proofs.Ytniloklglpchfaf
theorem cellAt_rows{a:Mx}{R C:Nat}(g:Good a R C){f t q:Nat}(h1:f≤t)(h2:t≤R)(hq:q<(t - f)*C):A_ (rowsX a (f:Int) (t:Int)) q=A_ a (f*C+q):=by
 unfold A_
 rw[g.rowsEq h1 h2]
 show ((tab _ _)[_]?).getD 0=_
 rw[tab_get hq]
theorem rows_lt{R C f t q:Nat}(h1:f≤t)(h2:t≤R)(hq:q<(t - f)*C):f*C+q<R*C:=by
 have e:f*C+(t - f)*C=t*C:=by rw[←Nat.add_mul];congr 1;omega
 have:=Nat.mul_le_mul_right C h2
 omega
theorem rows_each{a:Mx}{R C:Nat}(g:Good a R C){f h:Nat→Int}(he:Good (eachX a h) R C){f0 t:Nat}(h1:f0≤t)(h2:t≤R)(e:∀q,q<(t - f0)*C→f q=h (f0*C+q)):
  eachX (rowsX a (f0:Int) (t:Int)) f=rowsX (eachX a h) (f0:Int) (t:Int):=by
 rw[each_eq (g.rows h1 h2),he.rowsEq h1 h2,each_eq g]
 congr 1
 refine tab_congr (fun q hq=>?_)
 rw[e q hq]
 show _=((tab (R*C) h)[_]?).getD 0
 rw[tab_get (rows_lt h1 h2 hq)]
theorem rows_addRows{a b:Mx}{R C f t:Nat}(g:Good a R C)(gb:Good b 1 C)(h1:f≤t)(h2:t≤R):Go.Proofs.Ytniloklglpchfaf.addRows (rowsX a (f:Int) (t:Int)) b=rowsX (Go.Proofs.Ytniloklglpchfaf.addRows a b) (f:Int) (t:Int):=by
 refine rows_each g g.addRows h1 h2 (fun q hq=>?_)
 rw[cellAt_rows g h1 h2 hq,gb.c,Int.toNat_natCast,Nat.mul_comm f C,Nat.mul_add_mod]
theorem rows_relu{a:Mx}{R C f t:Nat}(g:Good a R C)(h1:f≤t)(h2:t≤R):reluX (rowsX a (f:Int) (t:Int))=rowsX (reluX a) (f:Int) (t:Int):=
 rows_each g g.relu h1 h2 (fun q hq=>by rw[cellAt_rows g h1 h2 hq])
theorem rows_times{a:Mx}{R C f t:Nat}(g:Good a R C)(x:Int)(h1:f≤t)(h2:t≤R):timesX (rowsX a (f:Int) (t:Int)) x=rowsX (timesX a x) (f:Int) (t:Int):=by
 rw[times_each (g.rows h1 h2),times_each g]
 refine rows_each g ?_ h1 h2 (fun q hq=>by rw[cellAt_rows g h1 h2 hq])
 rw[←times_each g];exact g.times x
theorem rows_go{l:Ly}{x:Mx}{R C f t:Nat}(gx:Good x R C)(h:goE l x=0)(h1:f≤t)(h2:t≤R):goE l (rowsX x (f:Int) (t:Int))=0∧goX l (rowsX x (f:Int) (t:Int))=rowsX (goX l x) (f:Int) (t:Int):=by
 obtain ⟨hl,_,ht⟩:=goE_zero h
 have gr:=gx.rows h1 h2
 have h':goE l (rowsX x (f:Int) (t:Int))=0:=goE_of hl gr.fault (by rw[gr.c,←gx.c];exact ht)
 refine ⟨h',?_⟩
 unfold goX
 rw[if_pos h,if_pos h']
 unfold goG
 cases lyG_of hl using LyG.el with
 |lin Rw Cw hk gw gb _ _ _=>
  have e:=takes_lin hk ht
  rw[if_pos hk,if_pos hk]
  have gx':=gx.same (R':=R) (C':=Rw) rfl (by have:=gx.c;have:=gw.r;omega)
  rw[rows_mul gx' gw h1 h2,rows_addRows (gx'.mul gw) gb h1 h2]
 |relu hk gw gb=>rw[if_neg (by omega),if_pos hk,if_neg (by omega),if_pos hk];exact rows_relu gx h1 h2
 |scale hk gw gb=>rw[if_neg (by omega),if_neg (by omega),if_pos hk,if_neg (by omega),if_neg (by omega),if_pos hk];exact rows_times gx _ h1 h2
 |shift Cb hk gw gb _=>
  have e:=takes_shift hk ht
  rw[if_neg (by omega),if_neg (by omega),if_neg (by omega),if_neg (by omega),if_neg (by omega),if_neg (by omega)]
  exact rows_addRows gx (gb.same rfl (by have:=gx.c;have:=gb.c;omega)) h1 h2
end Go.Proofs.Ytniloklglpchfaf
