/- What the comparing of two lists that hold the same comes to: lists of matrices, of Grads, of layers. -/
import Derived.Test.YtpniemnfdleiialGreatLists
import Derived.Test.YtpniemnfdleiialGreatLBack
import Derived.Test.YtpniemnfdleiialGreatPkLyGood
import Derived.Test.YtpniemnfdleiialGreatPkReg
import Derived.Test.YtpniemnfdleiialGreatPkTrainR
namespace Go.Proofs.YtpniemnfdleiialGreat
open Go.RowKit
set_option maxHeartbeats 4000000 in
set_option maxRecDepth 100000 in
theorem gds_same(v v':Value)(xs:List (Mx×Mx))(w:World)(h0:D_ w v xs)(h1:D_ w v' xs):
  Calls Tryz.prog 31 #[v,v'] w fun e w'=>e=.returned (.bool true)∧Below w.heap.size w w':=by
 obtain ⟨a,cap,rfl,hlc,hcm⟩:=h0.shape
 obtain ⟨a',cap',rfl,_,_⟩:=h1.shape
 have H0:=h_ h0
 have H1:=h_ h1
 obtain ⟨N,hN⟩:=gN (xs.length)
 have HN:=h_ hN
 have hNm:N≤9223372036854775807:=by unfold maxLen at hcm;omega
 rw[hN]at H0 H1 ⊢
 clear h0 h1 hlc hcm hN
 go_enter Tryz.func31,Tryz.ntmps31
 go_wp2
 go_loopw [5] (fun x wr=>∃(i:Nat) (xi:Int),i≤N∧xi=(i:Int)∧x=.int .i64 xi∧Below w.heap.size w wr) (fun x _=>N - (intOf x).toNat)
 case atStart=>exact ⟨0,0,Nat.zero_le _,rfl,rfl,Below.refl _ _⟩
 case round=>
  obtain ⟨i,xi,hi,hxi,rfl,hbw⟩:=hrel
  have HB:=h_ hbw
  have HXI:=h_ hxi
  have hxi0:0≤xi:=by omega
  have hxi1:xi≤9223372036854775807:=by omega
  clear hbw hxi
  by_cases hlt:xi<(N:Int)
  ·have hin:i<N:=by have:=HXI.out;omega
   have hxn:xi.toNat=i:=by have:=HXI.out;omega
   obtain ⟨x,hx⟩:∃x,xs[i]?=some x:=⟨xs[i]'(by have:=HN.out;omega),List.getElem?_eq_getElem _⟩
   obtain ⟨b,off,cp,s0a,s0n,s0k,s1a,s1n,s1k,ev,k0,k1,k2,k3,k4,k5,hs0,hs1⟩:=H0.out.at hx
   injection ev with ev1 ev2 ev3
   clear ev2 ev3
   subst ev1
   obtain ⟨b',off',cp',s0'a,s0'n,s0'k,s1'a,s1'n,s1'k,ev,y0,y1,y2,y3,y4,y5,hs0',hs1'⟩:=H1.out.at hx
   injection ev with ev1 ev2 ev3
   clear ev2 ev3
   subst ev1
   rw[←hxn]at k0 k1 k2 k3 k4 k5 y0 y1 y2 y3 y4 y5
   have HK:=h_ (fun W (h:Below w.heap.size w W)=>(And.intro (c_ h k0) (And.intro (c_ h k1) (And.intro (c_ h k2) (And.intro (c_ h k3) (And.intro (c_ h k4) (And.intro (c_ h k5) (And.intro (c_ h y0) (And.intro (c_ h y1) (And.intro (c_ h y2) (And.intro (c_ h y3) (And.intro (c_ h y4) (c_ h y5)))))))))))))
   have HM0:=h_ (fun W (h:Below w.heap.size w W)=>matrices_any _ _ x.1 x.1 W ⟨_,rfl,hs0.u_ h⟩ ⟨_,rfl,hs0'.u_ h⟩)
   rw[sameM_refl]at HM0
   have HM1:=h_ (fun W (h:Below w.heap.size w W)=>matrices_any _ _ x.2 x.2 W ⟨_,rfl,hs1.u_ h⟩ ⟨_,rfl,hs1'.u_ h⟩)
   rw[sameM_refl]at HM1
   clear k0 k1 k2 k3 k4 k5 y0 y1 y2 y3 y4 y5 hs0 hs0' hs1 hs1' hx hxn
   obtain ⟨k0,k1,k2,k3,k4,k5,y0,y1,y2,y3,y4,y5⟩:=HK.out wr HB.out
   go_wp2
   refine region_tail 10 (by kernel_rfl) (by kernel_rfl) ?_
   simp only[List.take_succ_cons,List.take_zero,List.drop_succ_cons,List.drop_zero]
   repeat still_step
   refine wpStill_nil ?_
   go_wp2_with fail
   refine (HM0.out _ (r_ HB.out)).mono ?_
   rintro e w1 ⟨rfl,hb1⟩
   have HB1:=h_ (b_ (r_ HB.out) hb1)
   clear hb1 k0 k1 k2 k3 k4 k5 y0 y1 y2 y3 y4 y5
   obtain ⟨k0,k1,k2,k3,k4,k5,y0,y1,y2,y3,y4,y5⟩:=HK.out w1 HB1.out
   have kz1:=k4
   have kz2:=k5
   have yz1:=y4
   have yz2:=y5
   go_wp2
   refine region_tail 10 (by kernel_rfl) (by kernel_rfl) ?_
   simp only[List.take_succ_cons,List.take_zero,List.drop_succ_cons,List.drop_zero]
   repeat still_step
   refine wpStill_nil ?_
   go_wp2_with fail
   refine (HM1.out _ (r_ HB1.out)).mono ?_
   rintro e w2 ⟨rfl,hb2⟩
   have HB2:=h_ (b_ (r_ HB1.out) hb2)
   clear hb2 k0 k1 k2 k3 k4 k5 y0 y1 y2 y3 y4 y5 kz1 kz2 yz1 yz2
   go_wp2
   go_roundw
   case rel=>exact ⟨i+1,_,by omega,by have:=HXI.out;omega,rfl,HB2.out⟩
   case measure=>have:=HXI.out;simp[intOf];omega
  ·go_wp2
   go_ret
   exact ⟨rfl,HB.out⟩
set_option maxHeartbeats 4000000 in
set_option maxRecDepth 100000 in
theorem lys_same(v v':Value)(xs:List Ly)(w:World)(h0:Y_ w v xs)(h1:Y_ w v' xs):
  Calls Tryz.prog 30 #[v,v'] w fun e w'=>e=.returned (.bool true)∧Below w.heap.size w w':=by
 obtain ⟨a,cap,rfl,hlc,hcm⟩:=h0.shape
 obtain ⟨a',cap',rfl,_,_⟩:=h1.shape
 have H0:=h_ h0
 have H1:=h_ h1
 obtain ⟨N,hN⟩:=gN (xs.length)
 have HN:=h_ hN
 have hNm:N≤9223372036854775807:=by unfold maxLen at hcm;omega
 rw[hN]at H0 H1 ⊢
 clear h0 h1 hlc hcm hN
 go_enter Tryz.func30,Tryz.ntmps30
 go_wp2
 go_loopw [5] (fun x wr=>∃(i:Nat) (xi:Int),i≤N∧xi=(i:Int)∧x=.int .i64 xi∧Below w.heap.size w wr) (fun x _=>N - (intOf x).toNat)
 case atStart=>exact ⟨0,0,Nat.zero_le _,rfl,rfl,Below.refl _ _⟩
 case round=>
  obtain ⟨i,xi,hi,hxi,rfl,hbw⟩:=hrel
  have HB:=h_ hbw
  have HXI:=h_ hxi
  have hxi0:0≤xi:=by omega
  have hxi1:xi≤9223372036854775807:=by omega
  clear hbw hxi
  by_cases hlt:xi<(N:Int)
  ·have hin:i<N:=by have:=HXI.out;omega
   have hxn:xi.toNat=i:=by have:=HXI.out;omega
   obtain ⟨x,hx⟩:∃x,xs[i]?=some x:=⟨xs[i]'(by have:=HN.out;omega),List.getElem?_eq_getElem _⟩
   obtain ⟨b,off,cp,s0a,s0n,s0k,s1a,s1n,s1k,ev,k0,k1,k2,k3,k4,k5,k6,hly⟩:=H0.out.at hx
   obtain ⟨hs0,hs1⟩:=Y_.ints hly
   clear hly
   injection ev with ev1 ev2 ev3
   clear ev2 ev3
   subst ev1
   obtain ⟨b',off',cp',s0'a,s0'n,s0'k,s1'a,s1'n,s1'k,ev,y0,y1,y2,y3,y4,y5,y6,hly'⟩:=H1.out.at hx
   obtain ⟨hs0',hs1'⟩:=Y_.ints hly'
   clear hly'
   injection ev with ev1 ev2 ev3
   clear ev2 ev3
   subst ev1
   rw[←hxn]at k0 k1 k2 k3 k4 k5 k6 y0 y1 y2 y3 y4 y5 y6
   have HK:=h_ (fun W (h:Below w.heap.size w W)=>(And.intro (c_ h k0) (And.intro (c_ h k1) (And.intro (c_ h k2) (And.intro (c_ h k3) (And.intro (c_ h k4) (And.intro (c_ h k5) (And.intro (c_ h k6) (And.intro (c_ h y0) (And.intro (c_ h y1) (And.intro (c_ h y2) (And.intro (c_ h y3) (And.intro (c_ h y4) (And.intro (c_ h y5) (c_ h y6)))))))))))))))
   have HM0:=h_ (fun W (h:Below w.heap.size w W)=>matrices_any _ _ x.w x.w W ⟨_,rfl,hs0.u_ h⟩ ⟨_,rfl,hs0'.u_ h⟩)
   rw[sameM_refl]at HM0
   have HM1:=h_ (fun W (h:Below w.heap.size w W)=>matrices_any _ _ x.b x.b W ⟨_,rfl,hs1.u_ h⟩ ⟨_,rfl,hs1'.u_ h⟩)
   rw[sameM_refl]at HM1
   clear k0 k1 k2 k3 k4 k5 k6 y0 y1 y2 y3 y4 y5 y6 hs0 hs0' hs1 hs1' hx hxn
   obtain ⟨k0,k1,k2,k3,k4,k5,k6,y0,y1,y2,y3,y4,y5,y6⟩:=HK.out wr HB.out
   have kz1:=k2
   have kz2:=k3
   have yz1:=y2
   have yz2:=y3
   go_wp2
   refine region_tail 10 (by kernel_rfl) (by kernel_rfl) ?_
   simp only[List.take_succ_cons,List.take_zero,List.drop_succ_cons,List.drop_zero]
   repeat still_step
   refine wpStill_nil ?_
   go_wp2_with fail
   refine (HM0.out _ (r_ HB.out)).mono ?_
   rintro e w1 ⟨rfl,hb1⟩
   have HB1:=h_ (b_ (r_ HB.out) hb1)
   clear hb1 k0 k1 k2 k3 k4 k5 k6 y0 y1 y2 y3 y4 y5 y6 kz1 kz2 yz1 yz2
   obtain ⟨k0,k1,k2,k3,k4,k5,k6,y0,y1,y2,y3,y4,y5,y6⟩:=HK.out w1 HB1.out
   have kz1:=k5
   have kz2:=k6
   have yz1:=y5
   have yz2:=y6
   go_wp2
   refine region_tail 10 (by kernel_rfl) (by kernel_rfl) ?_
   simp only[List.take_succ_cons,List.take_zero,List.drop_succ_cons,List.drop_zero]
   repeat still_step
   refine wpStill_nil ?_
   go_wp2_with fail
   refine (HM1.out _ (r_ HB1.out)).mono ?_
   rintro e w2 ⟨rfl,hb2⟩
   have HB2:=h_ (b_ (r_ HB1.out) hb2)
   clear hb2 k0 k1 k2 k3 k4 k5 k6 y0 y1 y2 y3 y4 y5 y6 kz1 kz2 yz1 yz2
   obtain ⟨k0,k1,k2,k3,k4,k5,k6,y0,y1,y2,y3,y4,y5,y6⟩:=HK.out w2 HB2.out
   clear k1 k2 k3 k4 k5 k6 y1 y2 y3 y4 y5 y6
   go_wp2
   go_region
   all_goals go_wp2
   all_goals go_roundw
   case rel=>exact ⟨i+1,_,by omega,by have:=HXI.out;omega,rfl,r_ HB2.out⟩
   case measure=>have:=HXI.out;simp[intOf];omega
  ·go_wp2
   go_ret
   exact ⟨rfl,HB.out⟩
set_option maxHeartbeats 4000000 in
set_option maxRecDepth 100000 in
theorem hstate_any(va:Option Addr)(vn vk:Nat)(xa:Option Addr)(xn xk:Nat)(n:Int)(w:World):Calls Tryz.prog 6 #[.agg #[.slice va vn vk,.slice xa xn xk,.int .i64 n]] w fun e w'=>e=.returned (.agg #[.slice va vn vk,.slice xa xn xk,.int .i64 n])∧Below w.heap.size w w':=by
 have HB0:=h_ (o_ w (.cells #[.slice va vn vk,.slice xa xn xk,.int .i64 n] 25))
 obtain ⟨W,hW⟩:=gM (w.alloc (.cells #[.slice va vn vk,.slice xa xn xk,.int .i64 n] 25))
 go_enter Tryz.func6,Tryz.ntmps6
 go_wp2
 refine bodyPost_ret (v:=.agg #[.slice va vn vk,.slice xa xn xk,.int .i64 n]) (by simp[results,Tryz.results6,go_sem]) rfl ⟨rfl,?_⟩
 exact a_ HB0.out
set_option maxHeartbeats 4000000 in
set_option maxRecDepth 100000 in
theorem hstates_any(u t u' t':Value)(ls:List Ly)(ds:List (Mx×Mx))(n:Int)(w:World)(h0:Y_ w u ls)(h1:Y_ w u' ls)(h2:D_ w t ds)(h3:D_ w t' ds):Calls Tryz.prog 11 #[.agg #[u,t,.int .i64 n],.agg #[u',t',.int .i64 n]] w fun e w'=>e=.returned (.bool true)∧Below w.heap.size w w':=by
 obtain ⟨ua,uk,rfl,_,_⟩:=h0.shape
 obtain ⟨ya,yk,rfl,_,_⟩:=h1.shape
 obtain ⟨ta,tk,rfl,_,_⟩:=h2.shape
 obtain ⟨za,zk,rfl,_,_⟩:=h3.shape
 obtain ⟨N,hN⟩:=gN (ls.length)
 obtain ⟨M,hM⟩:=gN (ds.length)
 rw[hN]at h0 h1 ⊢
 rw[hM]at h2 h3 ⊢
 have HB1:=h_ (o_ w (.cells #[.slice ua N uk,.slice ta M tk,.int .i64 n] 34))
 obtain ⟨W,hW⟩:=gM ((w.alloc (.cells #[.slice ua N uk,.slice ta M tk,.int .i64 n] 34)).alloc (.cells #[.slice ya N yk,.slice za M zk,.int .i64 n] 34))
 have HW:=h_ hW
 have HBW:=h_ (show Below w.heap.size w W by rw[hW];exact a_ HB1.out)
 have HK0:=h_ (show Blk W w.heap.size #[.slice ua N uk,.slice ta M tk,.int .i64 n] 34 by rw[hW];exact (Blk.new w _ _ rfl).alloc _)
 have HK1:=h_ (show Blk W (w.heap.size+1) #[.slice ya N yk,.slice za M zk,.int .i64 n] 34 by
  rw[hW]
  exact Blk.new _ _ _ (by simp))
 have HL:=h_ (lys_same _ _ ls W (h0.u_ HBW.out) (h1.u_ HBW.out))
 have HG:=h_ (fun (U:World) (hb:Below W.heap.size W U)=>gds_same (.slice ta M tk) (.slice za M zk) ds U ((h2.u_ HBW.out).u_ hb) ((h3.u_ HBW.out).u_ hb))
 clear h0 h1 h2 h3 hW hN hM
 go_enter Tryz.func11,Tryz.ntmps11
 go_wp2_with fail
 rw[←HW.out]
 refine HL.out.mono ?_
 rintro e w1 ⟨rfl,hb1⟩
 have c0:=(HK0.out.u_ hb1).cell (j:=1) rfl
 have c1:=(HK1.out.u_ hb1).cell (j:=1) rfl
 have HB1:=h_ hb1
 clear hb1
 go_wp2_with fail
 refine (HG.out w1 HB1.out).mono ?_
 rintro e w2 ⟨rfl,hb2⟩
 have c2:=(HK0.out.u_ (b_ HB1.out hb2)).cell (j:=2) rfl
 have c3:=(HK1.out.u_ (b_ HB1.out hb2)).cell (j:=2) rfl
 have HB2:=h_ (b_ HBW.out (b_ HB1.out hb2))
 clear hb2
 go_wp2
 go_ret
 exact ⟨rfl,HB2.out⟩
structure St where
 net:List Ly
 spd:List (Mx×Mx)
 n:Int
def noSt:St:=⟨[],[],0⟩
def nextE (s:St) (b:Mx×Mx) (parts le ke:Int):Int:=oneE s.net s.spd s.n b parts le ke
def nextS (s:St) (b:Mx×Mx) (parts le ke:Int):St:=⟨oneN s.net s.spd b parts le ke,oneV s.net s.spd b parts ke,s.n+1⟩
def nextK (s:St) (b:Mx×Mx) (parts:Int):Int:=sumAt s.net (splX b parts)
def stepS (s:St) (b:Mx×Mx) (parts le ke:Int):St:=if nextE s b parts le ke=0 then nextS s b parts le ke else noSt
def stepK (s:St) (b:Mx×Mx) (parts le ke:Int):Int:=if nextE s b parts le ke=0 then nextK s b parts else 0
end Go.Proofs.YtpniemnfdleiialGreat
