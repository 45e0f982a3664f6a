/- What Best of package cut comes to: the first cuts whose dearest stage is cheapest, and what that one costs. -/
import Derived.Test.YtpniemnfdleiialGreatPkCtC2
import Derived.Laws.AppendOwnNone
import Derived.Test.YtpniemnfdleiialGreatPkOwZ
namespace Go.Proofs.YtpniemnfdleiialGreat
open Go.RowKit
def bestE (cs:List Int) (r:Int):Int:=if r<1∨6<r∨(cs.length:Int)<1∨12<(cs.length:Int) then 1 else if costsE cs=0 then (if (cs.length:Int)<r then 2 else 0) else 1
def BestP (cs:List Int) (r:Int) (zs:List Int) (m:Int):Prop:=
 (bestE cs r=0∧∃t,zs=ctI t∧Least (preS cs) cs.length r.toNat 0 0 m∧First (preS cs) cs.length m r.toNat 0 t)∨(bestE cs r≠0∧zs=[]∧m=0)
theorem bestE_in{cs:List Int}{r:Int}(h:bestE cs r=0):(1≤r∧r≤6)∧(1≤cs.length∧cs.length≤12)∧costsE cs=0∧r≤(cs.length:Int):=by
 unfold bestE at h
 by_cases c1:r<1∨6<r∨(cs.length:Int)<1∨12<(cs.length:Int)
 ·rw[if_pos c1]at h;cases h
 ·rw[if_neg c1]at h
  by_cases c2:costsE cs=0
  ·rw[if_pos c2]at h
   by_cases c3:(cs.length:Int)<r
   ·rw[if_pos c3]at h;cases h
   ·exact ⟨by omega,by omega,c2,by omega⟩
  ·rw[if_neg c2]at h;cases h
theorem bestE_far{cs:List Int}{r:Int}(h:r<1∨6<r∨(cs.length:Int)<1∨12<(cs.length:Int)):bestE cs r=1:=by unfold bestE;rw[if_pos h]
theorem bestE_cost{cs:List Int}{r:Int}(h:¬(r<1∨6<r∨(cs.length:Int)<1∨12<(cs.length:Int)))(h1:costsE cs=1):bestE cs r=1:=by unfold bestE;rw[if_neg h,if_neg (by rw[h1];decide)]
theorem bestE_more{cs:List Int}{r:Int}(h:¬(r<1∨6<r∨(cs.length:Int)<1∨12<(cs.length:Int)))(h1:costsE cs=0)(h2:(cs.length:Int)<r):bestE cs r=2:=by unfold bestE;rw[if_neg h,if_pos h1,if_pos h2]
theorem bestE_ok{cs:List Int}{r:Int}(h:¬(r<1∨6<r∨(cs.length:Int)<1∨12<(cs.length:Int)))(h1:costsE cs=0)(h2:¬(cs.length:Int)<r):bestE cs r=0:=by unfold bestE;rw[if_neg h,if_pos h1,if_neg h2]
theorem BestP.bad{cs:List Int}{r k:Int}(h:bestE cs r=k)(hk:k≠0):BestP cs r [] 0:=.inr ⟨by rw[h];exact hk,rfl,rfl⟩
set_option maxHeartbeats 8000000 in
set_option maxRecDepth 100000 in
theorem best_any(v:Value)(cs:List Int)(r:Int)(w:World)(hv:I_ w v cs):Calls Tryz.prog 12 #[v,.int .i64 r] w fun e w'=>∃s m,e=.returned (.tuple #[s,.int .i64 m,errV (bestE cs r)])∧(∃zs,I_ w' s zs∧BestP cs r zs m)∧Below w.heap.size w w':=by
 obtain ⟨a,cap,hve,g2,g3,g4⟩:=id hv
 have hlen:=hv.len
 unfold maxLen at hlen
 subst hve
 clear g4
 have HV:=h_ hv
 obtain ⟨n,hn⟩:=gN (cs.length)
 have HN:=h_ hn
 have HF:=h_ (layers_any (n:Int) w)
 have HG:=h_ (costs_any _ cs w hv)
 rw[hn]at g2 hlen HV HG ⊢
 clear hv hn
 by_cases c1:r<1
 ·have HE:=h_ (bestE_far (cs:=cs) (.inl c1))
  rw[HE.out,n_ (by decide)]
  go_enter Tryz.func12,Tryz.ntmps12
  go_wp2
  exact bodyPost_ret (v:=.tuple #[.slice none 0 0,.int .i64 0,.iface 66 (.int .i64 1)]) (by simp[results,Tryz.results12,go_sem]) rfl ⟨_,_,rfl,⟨[],I_.nil _,BestP.bad HE.out (by decide)⟩,Below.refl _ _⟩
 by_cases c2:6<r
 ·have HE:=h_ (bestE_far (cs:=cs) (.inr (.inl c2)))
  rw[HE.out,n_ (by decide)]
  go_enter Tryz.func12,Tryz.ntmps12
  go_wp2
  exact bodyPost_ret (v:=.tuple #[.slice none 0 0,.int .i64 0,.iface 66 (.int .i64 1)]) (by simp[results,Tryz.results12,go_sem]) rfl ⟨_,_,rfl,⟨[],I_.nil _,BestP.bad HE.out (by decide)⟩,Below.refl _ _⟩
 by_cases c3:(n:Int)<1∨12<(n:Int)
 ·have HE:=h_ (bestE_far (cs:=cs) (r:=r) (.inr (.inr (by rw[HN.out];exact c3))))
  rw[←layE_bad c3,n_ (by decide)]at HF
  rw[HE.out,n_ (by decide)]
  clear c3
  go_enter Tryz.func12,Tryz.ntmps12
  go_wp2_with (go_at_call 32;refine HF.out.mono ?_;rintro e w' ⟨rfl,rfl⟩)
  exact bodyPost_ret (v:=.tuple #[.slice none 0 0,.int .i64 0,.iface 66 (.int .i64 1)]) (by simp[results,Tryz.results12,go_sem]) rfl ⟨_,_,rfl,⟨[],I_.nil _,BestP.bad HE.out (by decide)⟩,Below.refl _ _⟩
 have HF0:=h_ (show ¬(r<1∨6<r∨(cs.length:Int)<1∨12<(cs.length:Int)) by rw[HN.out];omega)
 rw[←layE_ok c3,e_ rfl]at HF
 have h12:n≤12:=by omega
 have h1n:1≤n:=by omega
 clear c3
 rcases costsE_two cs with c4|c4
 ·rw[c4,e_ rfl]at HG
  by_cases c5:(n:Int)<r
  ·have HE:=h_ (bestE_more HF0.out c4 (by rw[HN.out];exact c5))
   rw[HE.out,n_ (by decide)]
   clear c4
   go_enter Tryz.func12,Tryz.ntmps12
   go_wp2_with (first|(go_at_call 32;refine HF.out.mono ?_;rintro e w' ⟨rfl,rfl⟩)|(go_at_call 33;refine HG.out.mono ?_;rintro e w' ⟨rfl,rfl⟩))
   exact bodyPost_ret (v:=.tuple #[.slice none 0 0,.int .i64 0,.iface 66 (.int .i64 2)]) (by simp[results,Tryz.results12,go_sem]) rfl ⟨_,_,rfl,⟨[],I_.nil _,BestP.bad HE.out (by decide)⟩,Below.refl _ _⟩
  ·have HE:=h_ (bestE_ok HF0.out c4 (by rw[HN.out];exact c5))
   rw[HE.out,e_ rfl]
   have HC:=h_ (costsE_in c4)
   obtain ⟨R,hR⟩:∃R:Nat,r=(R:Int):=⟨r.toNat,by omega⟩
   have HR:=h_ hR
   have HLI:=h_ (limit_any _ cs R r w HV.out HC.out (by have:=HN.out;omega) hR (by omega) (by have:=HN.out;omega))
   have HWI:=h_ (fun (W:World) (L:Int) (hW:Below w.heap.size w W) (hx:Fx (preS cs) cs.length R 0 L)=>within_any _ cs R r L W (HV.out.u_ hW) HC.out (by have:=HN.out;omega) hR (by omega) hx)
   clear c4 hR
   go_enter Tryz.func12,Tryz.ntmps12
   go_wp2_with (first|(go_at_call 32;refine HF.out.mono ?_;rintro e w' ⟨rfl,rfl⟩)|(go_at_call 33;refine HG.out.mono ?_;rintro e w' ⟨rfl,rfl⟩)|fail)
   refine HLI.out.mono ?_
   rintro e w1 ⟨m,rfl,hle,hm,hb1⟩
   have HLE:=h_ hle
   have HB1:=h_ hb1
   have HW2:=h_ (HWI.out w1 m hb1 hle.2.1)
   clear hle hm hb1
   go_wp2_with fail
   refine HW2.out.mono ?_
   rintro e w2 ⟨s,rfl,t,hi,hfi,hb2⟩
   have HI:=h_ hi
   have HFI:=h_ hfi
   have HB2:=h_ (bel_nx HB1.out hb2)
   obtain ⟨sa,sn,sk,hse⟩:=hi.shape
   subst hse
   clear hi hfi hb2
   have HP:=h_ (show BestP cs r (ctI t) m from .inl ⟨HE.out,t,rfl,by rw[HR.out,Int.toNat_natCast];exact HLE.out,by rw[HR.out,Int.toNat_natCast];exact HFI.out⟩)
   go_wp2
   exact bodyPost_ret (v:=.tuple #[.slice sa sn sk,.int .i64 m,.nilIface]) (by simp[results,Tryz.results12,go_sem]) rfl ⟨_,_,rfl,⟨_,HI.out,HP.out⟩,HB2.out⟩
 ·have HE:=h_ (bestE_cost HF0.out c4)
  rw[c4,n_ (by decide)]at HG
  rw[HE.out,n_ (by decide)]
  clear c4
  go_enter Tryz.func12,Tryz.ntmps12
  go_wp2_with (first|(go_at_call 32;refine HF.out.mono ?_;rintro e w' ⟨rfl,rfl⟩)|(go_at_call 33;refine HG.out.mono ?_;rintro e w' ⟨rfl,rfl⟩))
  exact bodyPost_ret (v:=.tuple #[.slice none 0 0,.int .i64 0,.iface 66 (.int .i64 1)]) (by simp[results,Tryz.results12,go_sem]) rfl ⟨_,_,rfl,⟨[],I_.nil _,BestP.bad HE.out (by decide)⟩,Below.refl _ _⟩
def topF (f:Nat→Int):Nat→Int
 |0=>0
 |k+1=>max (topF f k) (f k)
theorem topF_nonneg(f:Nat→Int)(k:Nat):0≤topF f k:=by
 induction k with
 |zero=>exact Int.le_refl _
 |succ k ih=>unfold topF;omega
theorem topF_le{f:Nat→Int}{k:Nat}{L:Int}(h0:0≤L)(h:∀i,i<k→f i≤L):topF f k≤L:=by
 induction k with
 |zero=>exact h0
 |succ k ih=>unfold topF;have:=ih (fun i hi=>h i (by omega));have:=h k (by omega);omega
theorem topF_ge{f:Nat→Int}{k i:Nat}(h:i<k):f i≤topF f k:=by
 induction k with
 |zero=>omega
 |succ k ih=>
  unfold topF
  rcases Nat.lt_or_ge i k with q|q
  ·have:=ih q;omega
  ·obtain rfl:i=k:=by omega
   omega
theorem ctI_at{ts:List Nat}{i e:Nat}(h:ts[i]?=some e):(ctI ts)[i]?=some (e:Int):=by simp[ctI,h]
end Go.Proofs.YtpniemnfdleiialGreat
/- Plain facts for the law CutBest: no cut is better. No program in sight. -/
namespace Go.Proofs.YtpniemnfdleiialGreat
def prvN (a:Nat) (ts:List Nat):Nat→Nat
 |0=>a
 |i+1=>(ts[i]?).getD 0
theorem prvN_cons(a e:Nat)(t:List Nat)(i:Nat):prvN a (e::t) (i+1)=prvN e t i:=by
 cases i<;>simp[prvN]
theorem prv_N(ts:List Nat){i:Nat}(h:i≤ts.length):prv (ctI ts) i=(prvN 0 ts i:Int):=by
 cases i with
 |zero=>rfl
 |succ i=>
  have hi:i<ts.length:=by omega
  rw[prv_at (ctI_at (List.getElem?_eq_getElem hi))]
  simp[prvN,hi]
theorem tl_iff(n:Nat):∀(a:Nat) (ts:List Nat),Tl n a ts↔(∀i,i<ts.length→prvN a ts i<prvN a ts (i+1))∧prvN a ts ts.length=n
 |a,[]=>by simp[Tl,prvN]
 |a,e::t=>by
  have ih:=tl_iff n e t
  unfold Tl
  rw[ih,List.length_cons,prvN_cons]
  constructor
  ·rintro ⟨h1,h2,h3⟩
   refine ⟨fun i hi=>?_,h3⟩
   cases i with
   |zero=>rw[prvN_cons];exact h1
   |succ i=>rw[prvN_cons,prvN_cons];exact h2 i (by omega)
  ·rintro ⟨h1,h2⟩
   refine ⟨?_,fun i hi=>?_,h2⟩
   ·have:=h1 0 (by omega);rw[prvN_cons]at this;exact this
   ·have:=h1 (i+1) (by omega);rw[prvN_cons,prvN_cons]at this;exact this
theorem un_iff(pre:Nat→Int)(L:Int):∀(a:Nat) (ts:List Nat),Un pre L a ts↔∀i,i<ts.length→pre (prvN a ts (i+1)) - pre (prvN a ts i)≤L
 |a,[]=>by simp[Un]
 |a,e::t=>by
  have ih:=un_iff pre L e t
  unfold Un
  rw[ih,List.length_cons]
  constructor
  ·rintro ⟨h1,h2⟩ i hi
   cases i with
   |zero=>rw[prvN_cons];exact h1
   |succ i=>rw[prvN_cons,prvN_cons];exact h2 i (by omega)
  ·intro h
   refine ⟨?_,fun i hi=>?_⟩
   ·have:=h 0 (by omega);rw[prvN_cons]at this;exact this
   ·have:=h (i+1) (by omega);rw[prvN_cons,prvN_cons]at this;exact this
theorem stg_N(cs:List Int)(ts:List Nat){i:Nat}(h:i<ts.length):stg cs (ctI ts) i=preS cs (prvN 0 ts (i+1)) - preS cs (prvN 0 ts i):=by
 unfold stg;rw[prv_N ts (by omega),prv_N ts (by omega),Int.toNat_natCast,Int.toNat_natCast]
theorem ends_tl{ts:List Nat}{n:Nat}:(rising (ctI ts)∧prv (ctI ts) (ctI ts).length=(n:Int))↔Tl n 0 ts:=by
 rw[tl_iff,ctI_len,prv_N ts (Nat.le_refl _)]
 unfold rising
 rw[ctI_len]
 constructor
 ·rintro ⟨h1,h2⟩
  refine ⟨fun i hi=>?_,by omega⟩
  have:=h1 i hi
  rw[prv_N ts (by omega),prv_N ts (by omega)]at this
  omega
 ·rintro ⟨h1,h2⟩
  refine ⟨fun i hi=>?_,by omega⟩
  have:=h1 i hi
  rw[prv_N ts (by omega),prv_N ts (by omega)]
  omega
theorem ends_nat{es:List Int}(h:rising es):∃ts,es=ctI ts:=by
 refine ⟨es.map Int.toNat,?_⟩
 unfold ctI
 rw[List.map_map]
 apply List.ext_getElem?
 intro i
 rw[List.getElem?_map]
 cases hx:es[i]? with
 |none=>rfl
 |some x=>
  have hi:=(List.getElem?_eq_some_iff.1 hx).1
  have:=rising_le h (Nat.zero_le (i+1)) (by omega)
  rw[prv_at hx]at this
  have h0:0≤x:=this
  simp
  omega
def sumF (f:Nat→Int):Nat→Int
 |0=>0
 |k+1=>sumF f k+f k
theorem sumF_le{f:Nat→Int}{m:Int}{k:Nat}(h:∀i,i<k→f i≤m):sumF f k≤(k:Int)*m:=by
 induction k with
 |zero=>simp[sumF]
 |succ k ih=>
  have h1:=ih (fun i hi=>h i (by omega))
  have h2:=h k (by omega)
  have e:((k+1:Nat):Int)*m=(k:Int)*m+m:=by rw[Int.natCast_add,Int.add_mul];simp
  unfold sumF
  omega
structure Facts (cs:List Int) (r:Int) (zs:List Int) (m:Int) (R:Nat):Prop where
 rr:r=(R:Int)
 one:1≤R
 six:R≤6
 n:cs.length≤12
 cost:costsE cs=0
 ends:endsE zs (cs.length:Int)=0
 len:zs.length=R
 m0:0≤m
 m1:m≤12000000
 lo:∀i,i<R→0≤stg cs zs i
 hi:∀i,i<R→stg cs zs i≤m
 top:topF (stg cs zs) R=m
 all:sumF (stg cs zs) R≤m*r
 each:∀c∈cs,c≤m
 best:∀es,endsE es (cs.length:Int)=0→es.length=R→m≤topF (stg cs es) R
theorem best_facts{cs:List Int}{r:Int}{zs:List Int}{m:Int}(h:BestP cs r zs m)(h0:bestE cs r=0):∃R,Facts cs r zs m R:=by
 rcases h with ⟨_,t,rfl,hle,hfi⟩|⟨h,_⟩
 ·obtain ⟨h1,h2,h3,h4⟩:=bestE_in h0
  have hc:=costsE_in h3
  have hc0:∀c∈cs,0≤c:=fun c q=>(hc c q).1
  have hp:=preS_mono hc0
  obtain ⟨R,hR⟩:∃R:Nat,r=(R:Int):=⟨r.toNat,by omega⟩
  rw[show r.toNat=R by omega]at hle hfi
  obtain ⟨a1,a2,a3⟩:=hfi.tl hp hle.2.1
  have hun:=(un_iff _ _ _ _).1 a3
  have hrise:=((tl_iff _ _ _).1 a2).1
  have hhi:∀i,i<R→stg cs (ctI t) i≤m:=fun i hi=>by rw[stg_N cs t (by omega)];exact hun i (by omega)
  have hlo:∀i,i<R→0≤stg cs (ctI t) i:=fun i hi=>by
   rw[stg_N cs t (by omega)]
   have:=hp _ _ (Nat.le_of_lt (hrise i (by omega)))
   omega
  have hall:=sumF_le hhi
  rw[Int.mul_comm,←hR]at hall
  have hbest:∀es,endsE es (cs.length:Int)=0→es.length=R→m≤topF (stg cs es) R:=fun es q1 q2=>by
   obtain ⟨b1,b2,b3,b4⟩:=endsE_in q1
   obtain ⟨ts,rfl⟩:=ends_nat b3
   rw[ctI_len]at q2
   refine hle.2.2 _ (topF_nonneg _ _) ⟨ts,q2,ends_tl.1 ⟨b3,b4⟩,(un_iff _ _ _ _).2 (fun i hi=>?_)⟩
   rw[←stg_N cs ts hi]
   exact topF_ge (by omega)
  have hm1:m≤12000000:=by
   have:=hle.2.2 (preS cs cs.length) (by have:=hp 0 cs.length (Nat.zero_le _);rw[preS_zero]at this;exact this) ((preS_whole (R:=R) (by omega) (by omega)).fx hp (by omega))
   have:=preS_bound hc cs.length
   omega
  have hends:endsE (ctI t) (cs.length:Int)=0:=(endsE_ok (by omega) (by rw[ctI_len];omega) (ends_tl.2 a2)).symm
  have htop:topF (stg cs (ctI t)) R=m:=by
   have g1:=topF_le hle.1 hhi
   have g2:=hbest _ hends (by rw[ctI_len];exact a1)
   omega
  exact ⟨R,⟨hR,by omega,by omega,h2.2,h3,hends,by rw[ctI_len];exact a1,hle.1,hm1,hlo,hhi,htop,hall,fun c q=>by
   obtain ⟨p,hp1,hp2⟩:=List.getElem_of_mem q
   exact un_each hc0 a2 a3 p c (Nat.zero_le _) (by rw[List.getElem?_eq_getElem hp1,hp2]),hbest⟩⟩
 ·exact absurd h0 h
end Go.Proofs.YtpniemnfdleiialGreat
/- Waves and turns by cuts: no shorter than the dearest stage needs, no longer than if all stages were as dear. No program in sight. -/
namespace Go.Proofs.YtpniemnfdleiialGreat
theorem pace{R M:Nat}(hR:1≤R)(hR6:R≤6)(hM:1≤M)(hM12:M≤12)(wave:Bool){m:Int}{C:List Int}(hl:C.length=R)(hc:∀c∈C,1≤c∧c≤m)(hm:∃s:Nat,s<R∧C[s]?=some m){T:List (List (Int×Int))}(h:IsTm (planX R M wave) C C T):
  PlanOK (planX R M wave) M∧2*(M:Int)*m≤mxT 0 T∧mxT 0 T≤2*((M:Int)+R - 1)*m:=by
 have hp:=plan_okay (plan_ok hR hR6 hM hM12 wave).1
 obtain ⟨s0,hs0,hs1⟩:=hm
 have hm1:1≤m:=(hc m (List.mem_of_getElem? hs1)).1
 refine ⟨hp,?_,?_⟩
 ·have:=tm_low hp h (s:=s0) (by rw[planX_ln];exact hs0)
  rw[hs1,show ((some m).getD (0:Int))=m from rfl,Int.mul_add]at this
  rw[show (2:Int)*(M:Int)=(M:Int)+M by omega,Int.add_mul]
  exact this
 ·obtain ⟨hsy,_⟩:=sym_ok hR hR6 hM hM12 wave
  have htm:=bub_tm hsy hp.all (x:=m) (y:=m) (by omega) (by omega)
  have hl0:(stageX R M wave 0).length=2*M:=by
   have:=hp.len 0 (by rw[planX_ln];omega)
   rw[planX_st (by omega)]at this
   exact this
  obtain ⟨b1,_⟩:=bub_long (wave:=wave) (x:=m) (y:=m) hR hR6 hM hM12 (by omega) (by omega) hl0
  have e:2*((M:Int)+R - 1)*m=((M:Int)+R - 1)*(m+m):=by
   rw[Int.mul_add,show (2:Int)*((M:Int)+R - 1)=((M:Int)+R - 1)+((M:Int)+R - 1) by omega,Int.add_mul]
  rw[e]
  refine mxT_le T 0 _ (Int.mul_nonneg (by omega) (by omega)) (fun l hl' x hx=>?_)
  obtain ⟨s,i,hs,hi⟩:=mem_stA hl' hx
  have hsR:s<R:=by rw[h.1.1,planX_ln]at hs;exact hs
  have hsp:s<(planX R M wave).length:=by rw[planX_ln];exact hsR
  have hil:i<(stA (planX R M wave) s).length:=by rw[←h.1.2 s hsp];exact (List.getElem?_eq_some_iff.1 hi).1
  obtain ⟨a0,ha⟩:∃a0,(stA (planX R M wave) s)[i]?=some a0:=⟨_,List.getElem?_eq_getElem hil⟩
  have h1:=tm_mono hp.all hp.done h htm (fun t ht a=>by
   rw[planX_ln]at ht
   have hC:C[t]?=some C[t]:=List.getElem?_eq_getElem (by omega)
   have h2:=(hc C[t] (List.getElem_mem _)).2
   unfold lngA
   rw[rep_at ht,hC]
   split<;>exact h2) hsp ha
  rw[planX_st hsR]at ha
  have h2:=b1 s i _ hsR ha
  have h3:toT T s i=x.2:=by unfold toT;rw[hi];rfl
  omega
theorem topF_hit{f:Nat→Int}:∀{k:Nat},0<topF f k→∃i,i<k∧f i=topF f k
 |0,h=>by simp[topF]at h
 |k+1,h=>by
  unfold topF at h ⊢
  rcases Int.le_total (topF f k) (f k) with q|q
  ·exact ⟨k,by omega,by omega⟩
  ·obtain ⟨i,hi,e⟩:=topF_hit (f:=f) (k:=k) (by omega)
   exact ⟨i,by omega,by omega⟩
theorem fact_costs{cs:List Int}{r:Int}{zs:List Int}{m:Int}{R:Nat}(h:Facts cs r zs m R):costE cs (endsE zs (cs.length:Int))=0∧costX cs zs=tab R (stg cs zs):=by
 have e:costE cs (endsE zs (cs.length:Int))=0:=by unfold costE;rw[if_pos h.cost];exact h.ends
 refine ⟨e,?_⟩
 unfold costX
 rw[if_pos e,h.len]
theorem fact_hit{cs:List Int}{r:Int}{zs:List Int}{m:Int}{R:Nat}(h:Facts cs r zs m R)(hc:∀c∈tab R (stg cs zs),1≤c∧c≤1000000):(∀c∈tab R (stg cs zs),1≤c∧c≤m)∧(∃s:Nat,s<R∧(tab R (stg cs zs))[s]?=some m)∧m≤1000000:=by
 have hle:∀c∈tab R (stg cs zs),c≤m:=fun c q=>by
  obtain ⟨i,hi,e⟩:=List.getElem_of_mem q
  rw[tab_len]at hi
  have:=tab_at (f:=stg cs zs) hi
  rw[List.getElem?_eq_getElem (by rw[tab_len];exact hi),e]at this
  rw[Option.some.inj this]
  exact h.hi i hi
 have hm:1≤m:=by
  have h0:0<R:=by have:=h.one;omega
  have q:=List.mem_of_getElem? (tab_at (f:=stg cs zs) h0)
  have:=(hc _ q).1
  have:=hle _ q
  omega
 obtain ⟨i,hi,e⟩:=topF_hit (f:=stg cs zs) (k:=R) (by rw[h.top];omega)
 rw[h.top]at e
 have hat:(tab R (stg cs zs))[i]?=some m:=by rw[←e];exact tab_at hi
 exact ⟨fun c q=>⟨(hc c q).1,hle c q⟩,⟨i,hi,hat⟩,(hc m (List.mem_of_getElem? hat)).2⟩
end Go.Proofs.YtpniemnfdleiialGreat
