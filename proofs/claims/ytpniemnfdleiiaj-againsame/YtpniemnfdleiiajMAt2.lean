/- What the closures of Add, Times and Sums of package mat come to. -/
import Derived.Test.YtpniemnfdleiiajMAt
import Derived.Test.YtpniemnfdleiiajPlain
namespace Go.Proofs.Ytpniemnfdleiiaj
open Go.RowKit
set_option maxHeartbeats 400000 in
theorem times_gives(A X:Nat)(m:Mx)(x:Int)(R C:Nat)(w:World)(hA:BoxMx w A m)(hX:w.cell? ⟨X,0,none⟩=some (.int .i64 x))(hc:m.cols=(C:Int))(hR:R≤24)(hC:C≤24)(hl:m.cells.length=R*C):
  Gives 89 #[.pointer (some ⟨A,0,none⟩),.pointer (some ⟨X,0,none⟩)] R C (fun i j=>ml ((m.cells[i*C+j]?).getD 0) x) w:=by
 intro W i j xi xj hxi hxj hi hj hb
 obtain ⟨s,d0,d1,d2,hs⟩:=hA.u_ hb
 have d3:=c_ hb hX
 obtain ⟨sa,sn,sc,rfl⟩:=hs.shape
 have hm:M_ W (.agg #[.int .i64 m.rows,.int .i64 m.cols,.slice sa sn sc]) m:=⟨_,rfl,hs⟩
 have HC:=h_ (fun W' (h:Below W.heap.size W W')=>at_any _ m R C i j xi xj W' (hm.u_ h) hc hR hC hl hxi hxj hi hj)
 have HA:=h_ (And.intro d0 (And.intro d1 (And.intro d2 d3)))
 have HB0:=h_ (show Below W.heap.size W W.drew from ⟨rfl,rfl,rfl,Nat.le_refl _,fun _ _=>rfl⟩)
 clear hs hm hb hl hc hxi hxj hA hX
 go_enter Try.func89,Try.ntmps89
 go_wp2_with fail
 go_region_held3 (fun W'=>W'.cell? ⟨A,0,none⟩=some (.int .i64 m.rows)∧W'.cell? ⟨A,1,none⟩=some (.int .i64 m.cols)∧W'.cell? ⟨A,2,none⟩=some (.slice sa sn sc)∧W'.cell? ⟨X,0,none⟩=some (.int .i64 x)) (go_keep)
  (first
   |(go_at_call 41;refine (HC.out _ HB0.out).mono ?_;rintro e w1 ⟨rfl,hb1⟩;have HB1:=h_ (HB0.out.trans (hb1.mono HB0.out.size));have f0:=c_ HB1.out HA.out.1;have f1:=c_ HB1.out HA.out.2.1;have f2:=c_ HB1.out HA.out.2.2.1;have f3:=c_ HB1.out HA.out.2.2.2;clear hb1)
   |(go_at_call 36;refine (mul_any _ _ _).mono ?_;rintro e w3 ⟨rfl,rfl⟩))
 go_wp2
 go_ret
 exact ⟨rfl,HB1.out⟩
set_option maxHeartbeats 800000 in
set_option maxRecDepth 100000 in
theorem sums_gives(A:Nat)(m:Mx)(R C:Nat)(w:World)(hA:BoxMx w A m)(hr:m.rows=(R:Int))(hc:m.cols=(C:Int))(hR:R≤24)(hC:C≤24)(hl:m.cells.length=R*C):
  Gives 77 #[.pointer (some ⟨A,0,none⟩)] 1 C (fun _ j=>colS m.cells C j R) w:=by
 intro W i j xi xj hxi hxj hi hj hb
 have hA1:=hA.u_ hb
 obtain ⟨s,d0,d1,d2,hs⟩:=hA1
 obtain ⟨sa,sn,sc,rfl⟩:=hs.shape
 have hm:M_ W (.agg #[.int .i64 m.rows,.int .i64 m.cols,.slice sa sn sc]) m:=⟨_,rfl,hs⟩
 have HC:=h_ (fun W' (h:Below W.heap.size W W') (l:Nat) (xl:Int) (hxl:xl=(l:Int)) (hlt:l<R)=>at_any _ m R C l j xl xj W' (hm.u_ h) hc hR hC hl hxl hxj hlt hj)
 have HA:=h_ (And.intro d0 (And.intro d1 d2))
 obtain ⟨r,er⟩:=gN (m.rows)
 have hrr:r=(R:Int):=by rw[←er];exact hr
 have HRR:=h_ hrr
 rw[er]at HC HA d0
 clear hs hm hb hA hl hc hxi hxj hr er hrr
 go_enter Try.func77,Try.ntmps77
 go_wp2
 go_loopw [6,10] (fun v a wr=>∃(l:Nat) (xl:Int),l≤R∧xl=(l:Int)∧a=.int .i64 xl∧v=.int .i64 (colS m.cells C j l)∧Below W.heap.size W wr) (fun _ a _=>R - (intOf a).toNat)
 case atStart=>exact ⟨0,0,Nat.zero_le _,rfl,rfl,rfl,Below.refl _ _⟩
 case round=>
  obtain ⟨l,xl,hl,hxl,rfl,rfl,hbw⟩:=hrel
  have HBW:=h_ hbw
  have HXL:=h_ hxl
  have hxl0:0≤xl:=by omega
  have hxl1:xl≤24:=by omega
  have a0:=c_ hbw HA.out.1
  have a1:=c_ hbw HA.out.2.1
  have a2:=c_ hbw HA.out.2.2
  clear hbw hxl d0 d1 d2
  by_cases hlt:xl<r
  ·have hlR:l<R:=by have:=HXL.out;have:=HRR.out;omega
   go_wp2_with fail
   refine (HC.out _ HBW.out l xl HXL.out hlR).mono ?_
   rintro e w1 ⟨rfl,hb1⟩
   have HB1:=h_ (HBW.out.trans (hb1.mono HBW.out.size))
   clear hb1
   go_wp2_with (go_at_call 35;refine (add_any _ _ _).mono ?_;rintro e w3 ⟨rfl,rfl⟩)
   go_roundw
   case rel=>exact ⟨l+1,_,by omega,by have:=HXL.out;omega,rfl,rfl,HB1.out⟩
   case measure=>have:=HXL.out;simp[intOf];omega
  ·go_wp2
   go_ret
   exact ⟨i_ (by rw[show l=R by have:=HXL.out;have:=HRR.out;omega]),HBW.out⟩
end Go.Proofs.Ytpniemnfdleiiaj
