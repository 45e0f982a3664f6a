/- What the comparing of two lists that hold the same comes to: lists of matrices, of Grads, of layers. -/
import Derived.Test.YtaajlggpjholeajDoorLists
import Derived.Test.YtaajlggpjholeajDoorPkLForth
namespace Go.Proofs.YtaajlggpjholeajDoor
open Go.RowKit
set_option maxHeartbeats 4000000 in
set_option maxRecDepth 100000 in
theorem gds_same(v v':Value)(xs:List (Mx×Mx))(w:World)(h0:D_ w v xs)(h1:D_ w v' xs):
  Calls Tryd.prog 29 #[v,v'] w fun e w'=>e=.returned (.bool true)∧Below w.heap.size w w':=by
 obtain ⟨a,cap,rfl,hlc,hcm⟩:=h0.shape
 obtain ⟨a',cap',rfl,_,_⟩:=h1.shape
 have H0:=h_ h0
 have H1:=h_ h1
 obtain ⟨N,hN⟩:=gN (xs.length)
 have HN:=h_ hN
 have hNm:N≤9223372036854775807:=by unfold maxLen at hcm;omega
 rw[hN]at H0 H1 ⊢
 clear h0 h1 hlc hcm hN
 go_enter Tryd.func29,Tryd.ntmps29
 go_wp2
 go_loopw [5] (fun x wr=>∃(i:Nat) (xi:Int),i≤N∧xi=(i:Int)∧x=.int .i64 xi∧Below w.heap.size w wr) (fun x _=>N - (intOf x).toNat)
 case atStart=>exact ⟨0,0,Nat.zero_le _,rfl,rfl,Below.refl _ _⟩
 case round=>
  obtain ⟨i,xi,hi,hxi,rfl,hbw⟩:=hrel
  have HB:=h_ hbw
  have HXI:=h_ hxi
  have hxi0:0≤xi:=by omega
  have hxi1:xi≤9223372036854775807:=by omega
  clear hbw hxi
  by_cases hlt:xi<(N:Int)
  ·have hin:i<N:=by have:=HXI.out;omega
   have hxn:xi.toNat=i:=by have:=HXI.out;omega
   obtain ⟨x,hx⟩:∃x,xs[i]?=some x:=⟨xs[i]'(by have:=HN.out;omega),List.getElem?_eq_getElem _⟩
   obtain ⟨b,off,cp,s0a,s0n,s0k,s1a,s1n,s1k,ev,k0,k1,k2,k3,k4,k5,hs0,hs1⟩:=H0.out.at hx
   injection ev with ev1 ev2 ev3
   clear ev2 ev3
   subst ev1
   obtain ⟨b',off',cp',s0'a,s0'n,s0'k,s1'a,s1'n,s1'k,ev,y0,y1,y2,y3,y4,y5,hs0',hs1'⟩:=H1.out.at hx
   injection ev with ev1 ev2 ev3
   clear ev2 ev3
   subst ev1
   rw[←hxn]at k0 k1 k2 k3 k4 k5 y0 y1 y2 y3 y4 y5
   have HK:=h_ (fun W (h:Below w.heap.size w W)=>(And.intro (c_ h k0) (And.intro (c_ h k1) (And.intro (c_ h k2) (And.intro (c_ h k3) (And.intro (c_ h k4) (And.intro (c_ h k5) (And.intro (c_ h y0) (And.intro (c_ h y1) (And.intro (c_ h y2) (And.intro (c_ h y3) (And.intro (c_ h y4) (c_ h y5)))))))))))))
   have HM0:=h_ (fun W (h:Below w.heap.size w W)=>matrices_any _ _ x.1 x.1 W ⟨_,rfl,hs0.u_ h⟩ ⟨_,rfl,hs0'.u_ h⟩)
   rw[sameM_refl]at HM0
   have HM1:=h_ (fun W (h:Below w.heap.size w W)=>matrices_any _ _ x.2 x.2 W ⟨_,rfl,hs1.u_ h⟩ ⟨_,rfl,hs1'.u_ h⟩)
   rw[sameM_refl]at HM1
   clear k0 k1 k2 k3 k4 k5 y0 y1 y2 y3 y4 y5 hs0 hs0' hs1 hs1' hx hxn
   obtain ⟨k0,k1,k2,k3,k4,k5,y0,y1,y2,y3,y4,y5⟩:=HK.out wr HB.out
   go_wp2
   refine region_tail 10 (by kernel_rfl) (by kernel_rfl) ?_
   simp only[List.take_succ_cons,List.take_zero,List.drop_succ_cons,List.drop_zero]
   repeat still_step
   refine wpStill_nil ?_
   go_wp2_with fail
   refine (HM0.out _ (r_ HB.out)).mono ?_
   rintro e w1 ⟨rfl,hb1⟩
   have HB1:=h_ (b_ (r_ HB.out) hb1)
   clear hb1 k0 k1 k2 k3 k4 k5 y0 y1 y2 y3 y4 y5
   obtain ⟨k0,k1,k2,k3,k4,k5,y0,y1,y2,y3,y4,y5⟩:=HK.out w1 HB1.out
   have kz1:=k4
   have kz2:=k5
   have yz1:=y4
   have yz2:=y5
   go_wp2
   refine region_tail 10 (by kernel_rfl) (by kernel_rfl) ?_
   simp only[List.take_succ_cons,List.take_zero,List.drop_succ_cons,List.drop_zero]
   repeat still_step
   refine wpStill_nil ?_
   go_wp2_with fail
   refine (HM1.out _ (r_ HB1.out)).mono ?_
   rintro e w2 ⟨rfl,hb2⟩
   have HB2:=h_ (b_ (r_ HB1.out) hb2)
   clear hb2 k0 k1 k2 k3 k4 k5 y0 y1 y2 y3 y4 y5 kz1 kz2 yz1 yz2
   go_wp2
   go_roundw
   case rel=>exact ⟨i+1,_,by omega,by have:=HXI.out;omega,rfl,HB2.out⟩
   case measure=>have:=HXI.out;simp[intOf];omega
  ·go_wp2
   go_ret
   exact ⟨rfl,HB.out⟩
set_option maxHeartbeats 4000000 in
set_option maxRecDepth 100000 in
theorem lys_same(v v':Value)(xs:List Ly)(w:World)(h0:Y_ w v xs)(h1:Y_ w v' xs):
  Calls Tryd.prog 28 #[v,v'] w fun e w'=>e=.returned (.bool true)∧Below w.heap.size w w':=by
 obtain ⟨a,cap,rfl,hlc,hcm⟩:=h0.shape
 obtain ⟨a',cap',rfl,_,_⟩:=h1.shape
 have H0:=h_ h0
 have H1:=h_ h1
 obtain ⟨N,hN⟩:=gN (xs.length)
 have HN:=h_ hN
 have hNm:N≤9223372036854775807:=by unfold maxLen at hcm;omega
 rw[hN]at H0 H1 ⊢
 clear h0 h1 hlc hcm hN
 go_enter Tryd.func28,Tryd.ntmps28
 go_wp2
 go_loopw [5] (fun x wr=>∃(i:Nat) (xi:Int),i≤N∧xi=(i:Int)∧x=.int .i64 xi∧Below w.heap.size w wr) (fun x _=>N - (intOf x).toNat)
 case atStart=>exact ⟨0,0,Nat.zero_le _,rfl,rfl,Below.refl _ _⟩
 case round=>
  obtain ⟨i,xi,hi,hxi,rfl,hbw⟩:=hrel
  have HB:=h_ hbw
  have HXI:=h_ hxi
  have hxi0:0≤xi:=by omega
  have hxi1:xi≤9223372036854775807:=by omega
  clear hbw hxi
  by_cases hlt:xi<(N:Int)
  ·have hin:i<N:=by have:=HXI.out;omega
   have hxn:xi.toNat=i:=by have:=HXI.out;omega
   obtain ⟨x,hx⟩:∃x,xs[i]?=some x:=⟨xs[i]'(by have:=HN.out;omega),List.getElem?_eq_getElem _⟩
   obtain ⟨b,off,cp,s0a,s0n,s0k,s1a,s1n,s1k,ev,k0,k1,k2,k3,k4,k5,k6,hly⟩:=H0.out.at hx
   obtain ⟨hs0,hs1⟩:=Y_.ints hly
   clear hly
   injection ev with ev1 ev2 ev3
   clear ev2 ev3
   subst ev1
   obtain ⟨b',off',cp',s0'a,s0'n,s0'k,s1'a,s1'n,s1'k,ev,y0,y1,y2,y3,y4,y5,y6,hly'⟩:=H1.out.at hx
   obtain ⟨hs0',hs1'⟩:=Y_.ints hly'
   clear hly'
   injection ev with ev1 ev2 ev3
   clear ev2 ev3
   subst ev1
   rw[←hxn]at k0 k1 k2 k3 k4 k5 k6 y0 y1 y2 y3 y4 y5 y6
   have HK:=h_ (fun W (h:Below w.heap.size w W)=>(And.intro (c_ h k0) (And.intro (c_ h k1) (And.intro (c_ h k2) (And.intro (c_ h k3) (And.intro (c_ h k4) (And.intro (c_ h k5) (And.intro (c_ h k6) (And.intro (c_ h y0) (And.intro (c_ h y1) (And.intro (c_ h y2) (And.intro (c_ h y3) (And.intro (c_ h y4) (And.intro (c_ h y5) (c_ h y6)))))))))))))))
   have HM0:=h_ (fun W (h:Below w.heap.size w W)=>matrices_any _ _ x.w x.w W ⟨_,rfl,hs0.u_ h⟩ ⟨_,rfl,hs0'.u_ h⟩)
   rw[sameM_refl]at HM0
   have HM1:=h_ (fun W (h:Below w.heap.size w W)=>matrices_any _ _ x.b x.b W ⟨_,rfl,hs1.u_ h⟩ ⟨_,rfl,hs1'.u_ h⟩)
   rw[sameM_refl]at HM1
   clear k0 k1 k2 k3 k4 k5 k6 y0 y1 y2 y3 y4 y5 y6 hs0 hs0' hs1 hs1' hx hxn
   obtain ⟨k0,k1,k2,k3,k4,k5,k6,y0,y1,y2,y3,y4,y5,y6⟩:=HK.out wr HB.out
   have kz1:=k2
   have kz2:=k3
   have yz1:=y2
   have yz2:=y3
   go_wp2
   refine region_tail 10 (by kernel_rfl) (by kernel_rfl) ?_
   simp only[List.take_succ_cons,List.take_zero,List.drop_succ_cons,List.drop_zero]
   repeat still_step
   refine wpStill_nil ?_
   go_wp2_with fail
   refine (HM0.out _ (r_ HB.out)).mono ?_
   rintro e w1 ⟨rfl,hb1⟩
   have HB1:=h_ (b_ (r_ HB.out) hb1)
   clear hb1 k0 k1 k2 k3 k4 k5 k6 y0 y1 y2 y3 y4 y5 y6 kz1 kz2 yz1 yz2
   obtain ⟨k0,k1,k2,k3,k4,k5,k6,y0,y1,y2,y3,y4,y5,y6⟩:=HK.out w1 HB1.out
   have kz1:=k5
   have kz2:=k6
   have yz1:=y5
   have yz2:=y6
   go_wp2
   refine region_tail 10 (by kernel_rfl) (by kernel_rfl) ?_
   simp only[List.take_succ_cons,List.take_zero,List.drop_succ_cons,List.drop_zero]
   repeat still_step
   refine wpStill_nil ?_
   go_wp2_with fail
   refine (HM1.out _ (r_ HB1.out)).mono ?_
   rintro e w2 ⟨rfl,hb2⟩
   have HB2:=h_ (b_ (r_ HB1.out) hb2)
   clear hb2 k0 k1 k2 k3 k4 k5 k6 y0 y1 y2 y3 y4 y5 y6 kz1 kz2 yz1 yz2
   obtain ⟨k0,k1,k2,k3,k4,k5,k6,y0,y1,y2,y3,y4,y5,y6⟩:=HK.out w2 HB2.out
   clear k1 k2 k3 k4 k5 k6 y1 y2 y3 y4 y5 y6
   go_wp2
   go_region
   all_goals go_wp2
   all_goals go_roundw
   case rel=>exact ⟨i+1,_,by omega,by have:=HXI.out;omega,rfl,r_ HB2.out⟩
   case measure=>have:=HXI.out;simp[intOf];omega
  ·go_wp2
   go_ret
   exact ⟨rfl,HB.out⟩
end Go.Proofs.YtaajlggpjholeajDoor
