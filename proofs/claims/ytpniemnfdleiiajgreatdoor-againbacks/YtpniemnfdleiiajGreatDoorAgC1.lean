/- The small functions of package again: mayBe, Most, put. -/
import Derived.Test.YtpniemnfdleiiajGreatDoorAgM
namespace Go.Proofs.YtpniemnfdleiiajGreatDoor
open Go.RowKit
def evB (e:Int):Bool:=decide (1≤e∧e≤12)
set_option maxHeartbeats 1600000 in
set_option maxRecDepth 100000 in
theorem maybe_any(e:Int)(w:World):Calls Tryz.prog 13 #[.int .i64 e] w fun x w'=>x=.returned (.bool (evB e))∧w'=w:=by
 by_cases c1:e<1
 ·have HE:=h_ (show false=evB e by unfold evB;rw[eq_comm,decide_eq_false_iff_not];omega)
  go_enter Tryz.func13,Tryz.ntmps13
  go_wp2
  go_ret
  exact ⟨ret_bool HE.out,rfl⟩
 ·by_cases c2:12<e
  ·have HE:=h_ (show false=evB e by unfold evB;rw[eq_comm,decide_eq_false_iff_not];omega)
   go_enter Tryz.func13,Tryz.ntmps13
   go_wp2
   go_ret
   exact ⟨ret_bool (by rw[←HE.out,decide_eq_false_iff_not];omega),rfl⟩
  ·have HE:=h_ (show true=evB e by unfold evB;rw[eq_comm,decide_eq_true_iff];omega)
   go_enter Tryz.func13,Tryz.ntmps13
   go_wp2
   go_ret
   exact ⟨ret_bool (by rw[←HE.out]),rfl⟩
set_option maxHeartbeats 4000000 in
set_option maxRecDepth 100000 in
theorem agput_any(A:Nat→Prop)(S M:Nat)(ms:List Mx)(K:List Nat)(q k:Nat)(m:Mx)(v:Value)(w:World)(h:Shelf A w S M ms K q)(hk:k ∉ K)(hm:ms[k]?=some m)(hv:MxA A w v m):
  Calls Tryz.prog 29 #[.pointer (some ⟨S,0,none⟩),.int .i64 (k:Int),v] w fun e w'=>e=.returned (.tuple #[])∧Shelf A w' S M ms (K++[k]) (max q (K.length+1))∧Kept (fun b=>b=S∨b=M) w w':=by
 have hSM:=h.ne
 have hkk:(k:Int)<100:=by have:=(List.getElem?_eq_some_iff.1 hm).1;have:=h.lm;omega
 obtain ⟨s,rfl,hs⟩:=hv
 obtain ⟨xa,xn,xk,rfl⟩:=hs.1.shape
 obtain ⟨W0,hW0⟩:=gM ((w.alloc (.cells #[.int .i64 m.rows,.int .i64 m.cols,.slice xa xn xk] 25)).drew)
 have HB0:Hid (Below w.heap.size w W0):=by rw[hW0];exact h_ (d_ (o_ w _))
 have h1:=h.u_ HB0.out
 have hs1:=hs.u_ HB0.out
 obtain ⟨w2,hrun,h2,hK,hsz⟩:=h1.add hk hm ⟨_,rfl,hs1⟩
 have h3:=h2.u_ (r_ (Below.refl w2.heap.size w2))
 have hlen:=h3.len 3
 rw[List.length_append,List.length_singleton]at hlen
 obtain ⟨L,hL⟩:=gN (K.length+1)
 have hL13:L≤13:=by have:=h2.few;rw[List.length_append,List.length_singleton]at this;omega
 rw[hL]at hlen ⊢
 have s0:W0.cell? ⟨S,0,none⟩=some (.map (some M)):=h1.st.cell (j:=0) rfl
 have t0:w2.drew.cell? ⟨S,0,none⟩=some (.map (some M)):=h3.st.cell (j:=0) rfl
 have t1:w2.drew.cell? ⟨S,1,none⟩=some (.int .i64 (q:Int)):=h3.st.cell (j:=1) rfl
 have tf:w2.drew.frozen? ⟨S,1,none⟩=false:=h3.st.frozen 1
 obtain ⟨r,hr⟩:=gN (m.rows)
 obtain ⟨c,hc⟩:=gN (m.cols)
 rw[hr,hc]at hrun hW0 ⊢
 obtain ⟨ki,hki⟩:=gN ((k:Int))
 rw[hki]at hrun hkk ⊢
 have x0:W0.cell? ⟨w.heap.size,0,none⟩=some (.int .i64 r):=by rw[hW0];exact (Box.new w [.int .i64 r,.int .i64 c,.slice xa xn xk] 25 rfl) 0 _ rfl
 have x1:W0.cell? ⟨w.heap.size,1,none⟩=some (.int .i64 c):=by rw[hW0];exact (Box.new w [.int .i64 r,.int .i64 c,.slice xa xn xk] 25 rfl) 1 _ rfl
 have x2:W0.cell? ⟨w.heap.size,2,none⟩=some (.slice xa xn xk):=by rw[hW0];exact (Box.new w [.int .i64 r,.int .i64 c,.slice xa xn xk] 25 rfl) 2 _ rfl
 obtain ⟨mx,hmx⟩:=gN (max q L)
 have HK:=h_ ((Kept.of (X:=fun b=>b=M) HB0.out).trans hK (fun _ _ e=>e))
 have HF:=h_ (And.intro (((h2.most mx).u_ (r_ (Below.refl _ _)))) (((HK.out.mono (Y:=fun b=>b=S∨b=M) (fun _ _ e=>.inr e)).trans (Kept.set (X:=fun b=>b=S∨b=M) w2 (.inl rfl) 1 (.int .i64 (mx:Int))) (fun _ _ e=>e)).trans (Kept.of (X:=fun _=>False) (r_ (Below.refl (w2.setCell ⟨S,1,none⟩ (.int .i64 (mx:Int))).heap.size _))) (fun _ _ e=>e.elim)))
 have HMX:=h_ hmx
 rw[hmx]
 rw[hW0]at s0 x0 x1 x2 hrun
 clear h h1 hs hs1 h2 h3 hK hm hk hr hc hL hki hsz hW0 hmx
 by_cases hq:(q:Int)<(L:Int)
 ·obtain rfl:mx=L:=by have:=HMX.out;omega
  go_enter Tryz.func29,Tryz.ntmps29
  go_wp2_with fail
  go_region
  go_wp2_with fail
  refine region_tail 13 (by kernel_rfl) (by kernel_rfl) ?_
  simp only[List.take_succ_cons,List.take_zero,List.drop_succ_cons,List.drop_zero]
  repeat still_step
  refine wpStill_nil ?_
  go_wp2
  go_end0
  exact ⟨rfl,HF.out.1,HF.out.2⟩
 ·obtain rfl:mx=q:=by have:=HMX.out;omega
  go_enter Tryz.func29,Tryz.ntmps29
  go_wp2_with fail
  go_region
  go_wp2_with fail
  refine region_tail 13 (by kernel_rfl) (by kernel_rfl) ?_
  simp only[List.take_succ_cons,List.take_zero,List.drop_succ_cons,List.drop_zero]
  repeat still_step
  refine wpStill_nil ?_
  go_wp2
  go_end0
  exact ⟨rfl,HF.out.1,HF.out.2⟩
def mostE (n e:Int):Int:=if n<0∨12<n∨evB e=false then 1 else 0
def mostX (n e:Int):Int:=if mostE n e=0 then (mostN e.toNat n.toNat:Int) else 0
theorem most_step{f m E N:Nat}(hE:1≤E)(h12:E≤12)(hf:f<N)(hN:N≤12):
  (if (m:Int)<wrap64 (wrap64 (wrap64 ((f:Int) / (E:Int)+1)+((if (N:Int) - (f:Int)<(E:Int) then (N:Int) - (f:Int) else (E:Int)) - 1))+1) then wrap64 (wrap64 (wrap64 ((f:Int) / (E:Int)+1)+((if (N:Int) - (f:Int)<(E:Int) then (N:Int) - (f:Int) else (E:Int)) - 1))+1) else (m:Int))=((max m (f / E+1+(min E (N - f) - 1)+1):Nat):Int):=by
 have hq:f / E≤12:=Nat.le_trans (Nat.div_le_self _ _) (by omega)
 rw[←Int.natCast_ediv]
 obtain ⟨q,hqq⟩:=gN (f / E)
 rw[hqq]at hq ⊢
 by_cases h1:(N:Int) - (f:Int)<(E:Int)
 ·rw[if_pos h1]
  unfold wrap64
  split<;>omega
 ·rw[if_neg h1]
  unfold wrap64
  split<;>omega
set_option maxHeartbeats 4000000 in
set_option maxRecDepth 100000 in
theorem agmost_any(n e:Int)(w:World):Calls Tryz.prog 12 #[.int .i64 n,.int .i64 e] w fun x w'=>x=.returned (.tuple #[.int .i64 (mostX n e),errV (mostE n e)])∧w'=w:=by
 have HM:=h_ (fun W=>maybe_any e W)
 by_cases c1:n<0
 ·have hE:mostE n e=1:=by unfold mostE;rw[if_pos (.inl c1)]
  have hX:mostX n e=0:=by unfold mostX;rw[hE];rfl
  rw[hE,hX]
  clear hE hX
  go_enter Tryz.func12,Tryz.ntmps12
  go_wp2
  exact bodyPost_ret (v:=.tuple #[.int .i64 0,.iface 31 (.int .i64 1)]) (by simp[results,Tryz.results12,go_sem]) rfl ⟨rfl,rfl⟩
 by_cases c2:12<n
 ·have hE:mostE n e=1:=by unfold mostE;rw[if_pos (.inr (.inl c2))]
  have hX:mostX n e=0:=by unfold mostX;rw[hE];rfl
  rw[hE,hX]
  clear hE hX
  go_enter Tryz.func12,Tryz.ntmps12
  go_wp2
  exact bodyPost_ret (v:=.tuple #[.int .i64 0,.iface 31 (.int .i64 1)]) (by simp[results,Tryz.results12,go_sem]) rfl ⟨rfl,rfl⟩
 cases he:evB e with
 |false=>
  have hE:mostE n e=1:=by unfold mostE;rw[if_pos (.inr (.inr he))]
  have hX:mostX n e=0:=by unfold mostX;rw[hE];rfl
  rw[hE,hX]
  rw[he]at HM
  clear hE hX he
  go_enter Tryz.func12,Tryz.ntmps12
  go_wp2_with (go_at_call 13;refine (HM.out _).mono ?_;rintro x w' ⟨rfl,rfl⟩)
  exact bodyPost_ret (v:=.tuple #[.int .i64 0,.iface 31 (.int .i64 1)]) (by simp[results,Tryz.results12,go_sem]) rfl ⟨rfl,rfl⟩
 |true=>
  have hE:mostE n e=0:=by unfold mostE;rw[if_neg];rintro (h|h|h);exact c1 h;exact c2 h;rw[he]at h;cases h
  have hX:mostX n e=(mostN e.toNat n.toNat:Int):=by unfold mostX;rw[if_pos hE]
  obtain ⟨h1,h12⟩:1≤e∧e≤12:=by unfold evB at he;exact of_decide_eq_true he
  rw[hE,hX]
  rw[he]at HM
  obtain ⟨R,hR⟩:=gN (mostN e.toNat n.toNat)
  have HR:=h_ hR
  rw[hR]
  clear hE hX he hR
  go_enter Tryz.func12,Tryz.ntmps12
  go_wp2_with (go_at_call 13;refine (HM.out _).mono ?_;rintro x w' ⟨rfl,rfl⟩)
  go_loopw [6,7,8,9] (fun mv fv _ _ wr=>∃(fu f m:Nat) (xf xm:Int),xf=(f:Int)∧xm=(m:Int)∧fv=.int .i64 xf∧mv=.int .i64 xm∧f≤24∧m≤40∧n.toNat≤f+fu∧mostL e.toNat n.toNat fu f m=R∧wr=w') (fun _ fv _ _ _=>30 - (intOf fv).toNat)
  case atStart=>exact ⟨13,0,1,0,1,rfl,rfl,rfl,rfl,by omega,by omega,by omega,HR.out,rfl⟩
  case round=>
   obtain ⟨fu,f,m,xf,xm,e1,e2,rfl,rfl,g1,g2,g3,g4,rfl⟩:=hrel
   have HL:=h_ g4
   have HG:=h_ g3
   have HF:=h_ (And.intro e1 e2)
   have b0:0≤xf:=by omega
   have b1:xf≤24:=by omega
   have b2:0≤xm:=by omega
   have b3:xm≤40:=by omega
   by_cases hfn:xf<n
   ·obtain ⟨fv,rfl⟩:∃x,fu=x+1:=⟨fu - 1,by omega⟩
    have HM2:=h_ (show f+e.toNat≤24∧(max m (f / e.toNat+1+(min e.toNat (n.toNat - f) - 1)+1))≤40∧n.toNat≤f+e.toNat+fv from by
     have:f / e.toNat≤12:=Nat.le_trans (Nat.div_le_self _ _) (by omega)
     omega)
    have HS:=h_ (most_step (f:=f) (m:=m) (E:=e.toNat) (N:=n.toNat) (by omega) (by omega) (by omega) (by omega))
    have HN:=h_ (show mostL e.toNat n.toNat fv (f+e.toNat) (max m (f / e.toNat+1+(min e.toNat (n.toNat - f) - 1)+1))=R by rw[←HL.out];show _=(if n.toNat≤f then m else _);rw[if_neg (by omega)])
    clear g3 g4 g1 g2 e1 e2
    go_wp2
    refine ⟨⟨fv,f+e.toNat,_,xf+e,_,?_,?_,rfl,rfl,HM2.out.1,HM2.out.2.1,HM2.out.2.2,HN.out,trivial⟩,?_⟩
    ·have:=HF.out.1;omega
    ·have h:=HS.out
     rw[←HF.out.1,←HF.out.2,Int.toNat_of_nonneg (by omega),Int.toNat_of_nonneg (by omega)]at h
     exact h
    ·simp[intOf];omega
   ·have hR:m=R:=by
     rw[←HL.out]
     cases fu with
     |zero=>rfl
     |succ fu=>show m=(if n.toNat≤f then m else _);rw[if_pos (by omega)]
    clear g3 g4 g1 g2 e1 e2
    go_wp2
    exact bodyPost_ret (v:=.tuple #[.int .i64 xm,.nilIface]) (by simp[results,Tryz.results12,go_sem]) rfl ⟨by rw[HF.out.2,hR];rfl,rfl⟩
end Go.Proofs.YtpniemnfdleiiajGreatDoor
