/- How far two matrices are off, the one way and the other way round: plain facts. No program in sight. -/
import Derived.Test.YtpniemnfdleiiajPkLoss
import Derived.Test.YtpniemnfdleiiajAgC6
import Derived.Test.YtpniemnfdleiiajLists
import Derived.Test.YtpniemnfdleiiajLBack
import Derived.Test.YtpniemnfdleiiajRows
import Derived.Test.YtpniemnfdleiiajPlain
namespace Go.Proofs.Ytpniemnfdleiiaj
theorem off_at{a b:Mx}{R C i:Nat}(ga:Good a R C)(h:addE a b=0)(hi:i<R*C):(offX a b).cells[i]?=some (offAt a b i):=by
 unfold offX;rw[if_pos h,ga.l];exact tab_at hi
theorem off_len{a b:Mx}{R C:Nat}(ga:Good a R C)(h:addE a b=0):(offX a b).cells.length=R*C:=by
 unfold offX;rw[if_pos h,ga.l];simp[tab]
end Go.Proofs.Ytpniemnfdleiiaj
/- What goes back of a net of which little is kept is what goes back of one of which all is kept. No program in sight. -/
namespace Go.Proofs.Ytpniemnfdleiiaj
theorem ev_of{e:Int}(h:1≤e)(h':e≤12):evB e=true:=by unfold evB;rw[decide_eq_true_iff];exact ⟨h,h'⟩
theorem ev_in{e:Int}(h:evB e=true):1≤e∧e≤12:=by unfold evB at h;exact of_decide_eq_true h
theorem ag_same{ls:List Ly}{x y:Mx}{e e':Int}(h:evB e=true)(h':evB e'=true):agE ls x y e=agE ls x y e'∧agO ls x y e=agO ls x y e'∧agD ls x y e=agD ls x y e':=by
 have hE:agE ls x y e=agE ls x y e':=by unfold agE;rw[h,h']
 refine ⟨hE,?_,?_⟩
 ·unfold agO;rw[hE]
 ·unfold agD;rw[hE]
theorem ag_ok{ls:List Ly}{x y:Mx}{e:Int}(h:agE ls x y e=0):evB e=true∧ngE ls x=0∧addE (endX ls x) y=0∧agB ls x y=0:=by
 unfold agE at h
 by_cases h1:evB e=false
 ·rw[if_pos h1]at h;simp at h
 rw[if_neg h1]at h
 by_cases h2:ngE ls x=0
 ·rw[if_neg (by simp[h2])]at h
  by_cases h3:addE (endX ls x) y=0
  ·rw[if_neg (by simp[h3])]at h
   exact ⟨by simpa using h1,h2,h3,h⟩
  ·rw[if_pos h3]at h;exact absurd h h3
 ·rw[if_pos h2]at h;exact absurd h h2
theorem ag_most{ls:List Ly}{x y:Mx}{e:Int}(h:agE ls x y e=0):1≤agM ls x y e∧agM ls x y e≤(ls.length:Int)+1:=by
 obtain ⟨h1,h2,_,_⟩:=ag_ok h
 obtain ⟨h3,h4⟩:=ev_in h1
 have h5:=((ngE_iff ls x).1 h2).1
 obtain ⟨h6,h7⟩:=most_le e.toNat (by omega) ls.length (by omega) (by omega)
 unfold agM
 rw[if_pos h]
 omega
theorem off_good{a b:Mx}(h:addE a b=0):q_ (offX a b)=0:=by
 obtain ⟨R,C,ga,gb⟩:=addE_good h
 have hl:=off_len ga h
 have hr:(offX a b).rows=a.rows:=by unfold offX;rw[if_pos h]
 have hc:(offX a b).cols=a.cols:=by unfold offX;rw[if_pos h]
 have hg:Good (offX a b) R C:=by
  refine ⟨hr.trans ga.r,hc.trans ga.c,ga.hR,ga.hC,hl,?_⟩
  rw[List.all_eq_true]
  intro z hz
  obtain ⟨i,hi⟩:=List.getElem?_of_mem hz
  have hlt:i<R*C:=by rw[←hl];exact (List.getElem?_eq_some_iff.1 hi).1
  rw[off_at ga h hlt]at hi
  rw[←Option.some.inj hi,ends_iff]
  unfold offAt sb
  exact cl_bd _
 exact hg.fault
theorem ag_net{ls:List Ly}{x y:Mx}{e:Int}(h:agE ls x y e=0):nbE ls (ngX ls x) (offX (endX ls x) y)=0∧nbD ls (ngX ls x) (offX (endX ls x) y)=agD ls x y e:=by
 obtain ⟨_,h2,h3,h4⟩:=ag_ok h
 have hn:ngX ls x=x::runT ls x:=by unfold ngX;rw[if_pos h2]
 have h5:=((ngE_iff ls x).1 h2).1
 have hE:nbE ls (ngX ls x) (offX (endX ls x) y)=0:=by
  rw[hn]
  unfold nbE
  rw[if_neg h5,if_neg (by simp[runT_len])]
  by_cases hl:ls=[]
  ·rw[if_pos hl];exact off_good h3
  ·rw[if_neg hl];exact h4
 refine ⟨hE,?_⟩
 unfold nbD agD
 rw[if_pos hE,if_pos h,hn]
end Go.Proofs.Ytpniemnfdleiiaj
/- What the comparing of two lists that hold the same comes to: lists of matrices, of Grads, of layers. -/
namespace Go.Proofs.Ytpniemnfdleiiaj
open Go.RowKit
set_option maxHeartbeats 4000000 in
set_option maxRecDepth 100000 in
theorem gds_same(v v':Value)(xs:List (Mx×Mx))(w:World)(h0:D_ w v xs)(h1:D_ w v' xs):
  Calls Try.prog 7 #[v,v'] w fun e w'=>e=.returned (.bool true)∧Below w.heap.size w w':=by
 obtain ⟨a,cap,rfl,hlc,hcm⟩:=h0.shape
 obtain ⟨a',cap',rfl,_,_⟩:=h1.shape
 have H0:=h_ h0
 have H1:=h_ h1
 obtain ⟨N,hN⟩:=gN (xs.length)
 have HN:=h_ hN
 have hNm:N≤9223372036854775807:=by unfold maxLen at hcm;omega
 rw[hN]at H0 H1 ⊢
 clear h0 h1 hlc hcm hN
 go_enter Try.func7,Try.ntmps7
 go_wp2
 go_loopw [5] (fun x wr=>∃(i:Nat) (xi:Int),i≤N∧xi=(i:Int)∧x=.int .i64 xi∧Below w.heap.size w wr) (fun x _=>N - (intOf x).toNat)
 case atStart=>exact ⟨0,0,Nat.zero_le _,rfl,rfl,Below.refl _ _⟩
 case round=>
  obtain ⟨i,xi,hi,hxi,rfl,hbw⟩:=hrel
  have HB:=h_ hbw
  have HXI:=h_ hxi
  have hxi0:0≤xi:=by omega
  have hxi1:xi≤9223372036854775807:=by omega
  clear hbw hxi
  by_cases hlt:xi<(N:Int)
  ·have hin:i<N:=by have:=HXI.out;omega
   have hxn:xi.toNat=i:=by have:=HXI.out;omega
   obtain ⟨x,hx⟩:∃x,xs[i]?=some x:=⟨xs[i]'(by have:=HN.out;omega),List.getElem?_eq_getElem _⟩
   obtain ⟨b,off,cp,s0a,s0n,s0k,s1a,s1n,s1k,ev,k0,k1,k2,k3,k4,k5,hs0,hs1⟩:=H0.out.at hx
   injection ev with ev1 ev2 ev3
   clear ev2 ev3
   subst ev1
   obtain ⟨b',off',cp',s0'a,s0'n,s0'k,s1'a,s1'n,s1'k,ev,y0,y1,y2,y3,y4,y5,hs0',hs1'⟩:=H1.out.at hx
   injection ev with ev1 ev2 ev3
   clear ev2 ev3
   subst ev1
   rw[←hxn]at k0 k1 k2 k3 k4 k5 y0 y1 y2 y3 y4 y5
   have HK:=h_ (fun W (h:Below w.heap.size w W)=>(And.intro (c_ h k0) (And.intro (c_ h k1) (And.intro (c_ h k2) (And.intro (c_ h k3) (And.intro (c_ h k4) (And.intro (c_ h k5) (And.intro (c_ h y0) (And.intro (c_ h y1) (And.intro (c_ h y2) (And.intro (c_ h y3) (And.intro (c_ h y4) (c_ h y5)))))))))))))
   have HM0:=h_ (fun W (h:Below w.heap.size w W)=>matrices_any _ _ x.1 x.1 W ⟨_,rfl,hs0.u_ h⟩ ⟨_,rfl,hs0'.u_ h⟩)
   rw[sameM_refl]at HM0
   have HM1:=h_ (fun W (h:Below w.heap.size w W)=>matrices_any _ _ x.2 x.2 W ⟨_,rfl,hs1.u_ h⟩ ⟨_,rfl,hs1'.u_ h⟩)
   rw[sameM_refl]at HM1
   clear k0 k1 k2 k3 k4 k5 y0 y1 y2 y3 y4 y5 hs0 hs0' hs1 hs1' hx hxn
   obtain ⟨k0,k1,k2,k3,k4,k5,y0,y1,y2,y3,y4,y5⟩:=HK.out wr HB.out
   go_wp2
   refine region_tail 10 (by kernel_rfl) (by kernel_rfl) ?_
   simp only[List.take_succ_cons,List.take_zero,List.drop_succ_cons,List.drop_zero]
   repeat still_step
   refine wpStill_nil ?_
   go_wp2_with fail
   refine (HM0.out _ (r_ HB.out)).mono ?_
   rintro e w1 ⟨rfl,hb1⟩
   have HB1:=h_ (b_ (r_ HB.out) hb1)
   clear hb1 k0 k1 k2 k3 k4 k5 y0 y1 y2 y3 y4 y5
   obtain ⟨k0,k1,k2,k3,k4,k5,y0,y1,y2,y3,y4,y5⟩:=HK.out w1 HB1.out
   have kz1:=k4
   have kz2:=k5
   have yz1:=y4
   have yz2:=y5
   go_wp2
   refine region_tail 10 (by kernel_rfl) (by kernel_rfl) ?_
   simp only[List.take_succ_cons,List.take_zero,List.drop_succ_cons,List.drop_zero]
   repeat still_step
   refine wpStill_nil ?_
   go_wp2_with fail
   refine (HM1.out _ (r_ HB1.out)).mono ?_
   rintro e w2 ⟨rfl,hb2⟩
   have HB2:=h_ (b_ (r_ HB1.out) hb2)
   clear hb2 k0 k1 k2 k3 k4 k5 y0 y1 y2 y3 y4 y5 kz1 kz2 yz1 yz2
   go_wp2
   go_roundw
   case rel=>exact ⟨i+1,_,by omega,by have:=HXI.out;omega,rfl,HB2.out⟩
   case measure=>have:=HXI.out;simp[intOf];omega
  ·go_wp2
   go_ret
   exact ⟨rfl,HB.out⟩
set_option maxHeartbeats 400000 in
theorem pick_any(c n:Int)(w:World)(h0:-9223372036854775808≤c)(h1:c≤9223372036854775807)(hn:0<n)(hn1:n≤1000000):Calls Try.prog 6 #[.int .i64 c,.int .i64 n] w fun e w'=>∃k:Nat,e=.returned (.int .i64 (k:Int))∧(k:Int)<n∧w'=w:=by
 have hz:¬n=0:=by omega
 by_cases hc:c<0
 ·have hm0:=Int.emod_nonneg (-(c+1)) hz
  have hm1:=Int.emod_lt_of_pos (-(c+1)) hn
  have hm:(-(c+1)).tmod n=(-(c+1)) % n:=Int.tmod_eq_emod_of_nonneg (by omega)
  have HM:=h_ (And.intro hm0 (And.intro hm1 hm))
  clear hm0 hm1 hm
  go_enter Try.func6,Try.ntmps6
  go_wp2
  go_ret
  refine ⟨((-(c+1)) % n).toNat,?_,?_,rfl⟩
  ·refine i_ ?_
   have:=HM.out.1
   rw[Int.toNat_of_nonneg this,←HM.out.2.2]
   first|rfl|rw[Int.neg_tmod]
  ·have:=HM.out.1;have:=HM.out.2.1;omega
 ·have hm0:=Int.emod_nonneg c hz
  have hm1:=Int.emod_lt_of_pos c hn
  have hm:c.tmod n=c % n:=Int.tmod_eq_emod_of_nonneg (by omega)
  have HM:=h_ (And.intro hm0 (And.intro hm1 hm))
  clear hm0 hm1 hm
  go_enter Try.func6,Try.ntmps6
  go_wp2
  go_ret
  refine ⟨(c % n).toNat,?_,?_,rfl⟩
  ·refine i_ ?_
   have:=HM.out.1
   rw[Int.toNat_of_nonneg this,←HM.out.2.2]
  ·have:=HM.out.1;have:=HM.out.2.1;omega
end Go.Proofs.Ytpniemnfdleiiaj
