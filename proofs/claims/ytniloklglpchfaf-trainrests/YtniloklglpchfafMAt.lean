/- What at of package mat and the closures that read one matrix come to. -/
import Derived.Test.YtniloklglpchfafPkMCheckAll
import Derived.Test.YtniloklglpchfafPlain
import Derived.Deep.RegionHeld3
namespace Go.Proofs.Ytniloklglpchfaf
open Go.RowKit
theorem idx_cell{m:Mx}{R C i j:Nat}(hl:m.cells.length=R*C)(hi:i<R)(hj:j<C):m.cells[i*C+j]?=some ((m.cells[i*C+j]?).getD 0):=by
 have:=idx_lt hi hj
 rw[List.getElem?_eq_getElem (by omega)];rfl
set_option maxHeartbeats 400000 in
theorem at_any(v:Value)(m:Mx)(R C i j:Nat)(xi xj:Int)(w:World)(hv:M_ w v m)(hc:m.cols=(C:Int))(hR:R≤24)(hC:C≤24)(hl:m.cells.length=R*C)(hxi:xi=(i:Int))(hxj:xj=(j:Int))(hi:i<R)(hj:j<C):
  Calls Try.prog 51 #[v,.int .i64 xi,.int .i64 xj] w fun e w'=>e=.returned (.int .i64 ((m.cells[i*C+j]?).getD 0))∧Below w.heap.size w w':=by
 obtain ⟨s,rfl,hs⟩:=hv
 have hx:=idx_cell hl hi hj
 have hidx:=idx_lt hi hj
 obtain ⟨x,ex⟩:=gN ((m.cells[i*C+j]?).getD 0)
 rw[ex]at hx ⊢
 have hn576:=Nat.mul_le_mul hR hC
 obtain ⟨aa,cap,rfl,h2,h3,h4⟩:=hs
 obtain ⟨b,off,rfl,hcl⟩:=h4.resolve_left (fun e=>by rw[e]at hx;simp at hx)
 obtain ⟨c,ec⟩:=gN (m.cols)
 obtain ⟨r,er⟩:=gN (m.rows)
 rw[ec]at hc
 rw[ec,er]
 have cx:∀o,(w.alloc o).cell? ⟨b,off+(xi*c+xj).toNat,none⟩=some (.int .i64 x):=fun o=>by
  rw[idx_nat hxi hxj hc];exact p_ (hcl _ _ hx) o
 obtain ⟨N,hN⟩:=gN (m.cells.length)
 have t3:xi*c+xj<(N:Int):=by rw[mul_cast_idx hxi hxj hc];omega
 have t1:=mul_bds hxi hc (by omega) hC
 have u1:=wrap_in (x:=xi*c) (by omega) (by omega)
 have u2:=wrap_in (x:=xi*c+xj) (by omega) (by omega)
 have g1:0≤xi*c+xj:=by omega
 rw[hN]at h2 ⊢
 have hN':N≤576:=by omega
 clear hx ex hcl h4 hl hxi hxj hc hidx hN hn576 ec er
 go_enter Try.func51,Try.ntmps51
 go_wp2
 go_ret
 exact ⟨rfl,o_ _ _⟩
def BoxMx (w:World) (B:Nat) (m:Mx):Prop:=∃s,w.cell? ⟨B,0,none⟩=some (.int .i64 m.rows)∧w.cell? ⟨B,1,none⟩=some (.int .i64 m.cols)∧w.cell? ⟨B,2,none⟩=some s∧I_ w s m.cells
theorem BoxMx.u_{w w':World}{B:Nat}{m:Mx}(h:BoxMx w B m)(hb:Below w.heap.size w w'):BoxMx w' B m:=by
 obtain ⟨s,h0,h1,h2,h3⟩:=h
 exact ⟨s,c_ hb h0,c_ hb h1,c_ hb h2,h3.u_ hb⟩
set_option maxHeartbeats 400000 in
theorem turn_gives(B:Nat)(m:Mx)(R C:Nat)(w:World)(hB:BoxMx w B m)(hc:m.cols=(C:Int))(hR:R≤24)(hC:C≤24)(hl:m.cells.length=R*C):
  Gives 112 #[.pointer (some ⟨B,0,none⟩)] C R (fun i j=>(m.cells[j*C+i]?).getD 0) w:=by
 intro W i j xi xj hxi hxj hi hj hb
 obtain ⟨s,d0,d1,d2,hs⟩:=hB.u_ hb
 obtain ⟨sa,sn,sc,rfl⟩:=hs.shape
 have hm:M_ W (.agg #[.int .i64 m.rows,.int .i64 m.cols,.slice sa sn sc]) m:=⟨_,rfl,hs⟩
 have HC:=h_ (at_any _ m R C j i xj xi W hm hc hR hC hl hxj hxi hj hi)
 clear hs hm hb hB hl hc hxi hxj
 go_enter Try.func112,Try.ntmps112
 go_wp2_with (go_at_call 51;refine HC.out.mono ?_;rintro e w1 ⟨rfl,hb1⟩)
 go_ret
 exact ⟨rfl,hb1⟩
set_option maxHeartbeats 400000 in
theorem rows_gives(B F:Nat)(m:Mx)(R C f n:Nat)(xf:Int)(w:World)(hB:BoxMx w B m)(hF:w.cell? ⟨F,0,none⟩=some (.int .i64 xf))(hxf:xf=(f:Int))(hc:m.cols=(C:Int))(hR:R≤24)(hC:C≤24)(hl:m.cells.length=R*C)(hfn:f+n≤R):
  Gives 50 #[.pointer (some ⟨B,0,none⟩),.pointer (some ⟨F,0,none⟩)] n C (fun i j=>(m.cells[(f+i)*C+j]?).getD 0) w:=by
 intro W i j xi xj hxi hxj hi hj hb
 obtain ⟨s,d0,d1,d2,hs⟩:=hB.u_ hb
 have d3:=c_ hb hF
 obtain ⟨sa,sn,sc,rfl⟩:=hs.shape
 have hm:M_ W (.agg #[.int .i64 m.rows,.int .i64 m.cols,.slice sa sn sc]) m:=⟨_,rfl,hs⟩
 have HC:=h_ (at_any _ m R C (f+i) j (xf+xi) xj W hm hc hR hC hl (by omega) hxj (by omega) hj)
 have u1:=wrap_in (x:=xf+xi) (by omega) (by omega)
 have b0:0≤xf∧xf≤24:=by omega
 have b1:0≤xi∧xi≤24:=by omega
 clear hs hm hb hB hl hc hxi hxj hF hxf
 go_enter Try.func50,Try.ntmps50
 go_wp2_with (go_at_call 51;refine HC.out.mono ?_;rintro e w1 ⟨rfl,hb1⟩)
 go_ret
 exact ⟨rfl,hb1⟩
set_option maxHeartbeats 800000 in
set_option maxRecDepth 100000 in
theorem mul_gives(A B:Nat)(m k:Mx)(Ra Ca Cb:Nat)(w:World)(hA:BoxMx w A m)(hB:BoxMx w B k)(hc:m.cols=(Ca:Int))(hc':k.cols=(Cb:Int))(hRa:Ra≤24)(hCa:Ca≤24)(hCb:Cb≤24)(hl:m.cells.length=Ra*Ca)(hl':k.cells.length=Ca*Cb):
  Gives 109 #[.pointer (some ⟨A,0,none⟩),.pointer (some ⟨B,0,none⟩)] Ra Cb (fun i j=>dot m.cells k.cells Ca Cb i j Ca) w:=by
 intro W i j xi xj hxi hxj hi hj hb
 have hA1:=hA.u_ hb
 have hB1:=hB.u_ hb
 obtain ⟨s,d0,d1,d2,hs⟩:=hA1
 obtain ⟨sa,sn,sc,rfl⟩:=hs.shape
 have hm:M_ W (.agg #[.int .i64 m.rows,.int .i64 m.cols,.slice sa sn sc]) m:=⟨_,rfl,hs⟩
 obtain ⟨t,e0,e1,e2,ht⟩:=hB1
 obtain ⟨ta,tn,tc,rfl⟩:=ht.shape
 have hk:M_ W (.agg #[.int .i64 k.rows,.int .i64 k.cols,.slice ta tn tc]) k:=⟨_,rfl,ht⟩
 have HC:=h_ (fun W' (h:Below W.heap.size W W') (l:Nat) (xl:Int) (hxl:xl=(l:Int)) (hlt:l<Ca)=>at_any _ m Ra Ca i l xi xl W' (hm.u_ h) hc hRa hCa hl hxi hxl hi hlt)
 have HD:=h_ (fun W' (h:Below W.heap.size W W') (l:Nat) (xl:Int) (hxl:xl=(l:Int)) (hlt:l<Ca)=>at_any _ k Ca Cb l j xl xj W' (hk.u_ h) hc' hCa hCb hl' hxl hxj hlt hj)
 have HA:=h_ (And.intro d0 (And.intro d1 d2))
 have HB:=h_ (And.intro e0 (And.intro e1 e2))
 obtain ⟨c,ec⟩:=gN (m.cols)
 have hcc:c=(Ca:Int):=by rw[←ec];exact hc
 have HCC:=h_ hcc
 rw[ec]at HC HA d1
 clear hs hm hb hA hB hl hc hxi hxj hk ht hl' hc' ec hcc
 go_enter Try.func109,Try.ntmps109
 go_wp2
 go_loopw [7,11] (fun v a wr=>∃(l:Nat) (xl:Int),l≤Ca∧xl=(l:Int)∧a=.int .i64 xl∧v=.int .i64 (dot m.cells k.cells Ca Cb i j l)∧Below W.heap.size W wr) (fun _ a _=>Ca - (intOf a).toNat)
 case atStart=>exact ⟨0,0,Nat.zero_le _,rfl,rfl,rfl,Below.refl _ _⟩
 case round=>
  obtain ⟨l,xl,hl,hxl,rfl,rfl,hbw⟩:=hrel
  have HBW:=h_ hbw
  have HXL:=h_ hxl
  have hxl0:0≤xl:=by omega
  have hxl1:xl≤24:=by omega
  have a0:=c_ hbw HA.out.1
  have a1:=c_ hbw HA.out.2.1
  have a2:=c_ hbw HA.out.2.2
  have b0:=c_ hbw HB.out.1
  have b1:=c_ hbw HB.out.2.1
  have b2:=c_ hbw HB.out.2.2
  clear hbw hxl d0 d1 d2 e0 e1 e2
  by_cases hlt:xl<c
  ·have hlC:l<Ca:=by have:=HXL.out;have:=HCC.out;omega
   have HB0:=h_ (show Below W.heap.size W wr.drew from ⟨HBW.out.os,HBW.out.tape,HBW.out.output,HBW.out.size,HBW.out.block⟩)
   go_wp2
   go_region_held3 (fun W'=>W'.cell? ⟨A,0,none⟩=some (.int .i64 m.rows)∧W'.cell? ⟨A,1,none⟩=some (.int .i64 c)∧W'.cell? ⟨A,2,none⟩=some (.slice sa sn sc)∧W'.cell? ⟨B,0,none⟩=some (.int .i64 k.rows)∧W'.cell? ⟨B,1,none⟩=some (.int .i64 k.cols)∧W'.cell? ⟨B,2,none⟩=some (.slice ta tn tc)) (go_keep)
    (first
     |(go_at_call 51;refine (HD.out _ HB1.out l xl HXL.out hlC).mono ?_;rintro e w2 ⟨rfl,hb2⟩;have HB2:=h_ (HB1.out.trans (hb2.mono HB1.out.size));have h0:=c_ HB2.out HA.out.1;have h1:=c_ HB2.out HA.out.2.1;have h2:=c_ HB2.out HA.out.2.2;have i0:=c_ HB2.out HB.out.1;have i1:=c_ HB2.out HB.out.2.1;have i2:=c_ HB2.out HB.out.2.2;clear hb2)
     |(go_at_call 51;refine (HC.out _ HB0.out l xl HXL.out hlC).mono ?_;rintro e w1 ⟨rfl,hb1⟩;have HB1:=h_ (HB0.out.trans (hb1.mono HB0.out.size));have f0:=c_ HB1.out HA.out.1;have f1:=c_ HB1.out HA.out.2.1;have f2:=c_ HB1.out HA.out.2.2;have g0:=c_ HB1.out HB.out.1;have g1:=c_ HB1.out HB.out.2.1;have g2:=c_ HB1.out HB.out.2.2;clear hb1)
     |(go_at_call 40;refine (add_any _ _ _).mono ?_;rintro e w3 ⟨rfl,rfl⟩)
     |(go_at_call 65;refine (mul_any _ _ _).mono ?_;rintro e w3 ⟨rfl,rfl⟩))
   go_wp2
   go_roundw
   case rel=>exact ⟨l+1,_,by omega,by have:=HXL.out;omega,rfl,rfl,HB2.out⟩
   case measure=>have:=HXL.out;simp[intOf];omega
  ·go_wp2
   go_ret
   exact ⟨i_ (by rw[show l=Ca by have:=HXL.out;have:=HCC.out;omega]),HBW.out⟩
end Go.Proofs.Ytniloklglpchfaf
