/- What isReady of package plan comes to. Written by tools/gen_pnr.py. -/
import Derived.Test.YtpniemnfdleiialGreatPkPnF
import Derived.Deep.RegionHeld3
import Derived.BigQuiet
import Derived.ScopeJumps
import Derived.WalkMore
namespace Go.Proofs.YtpniemnfdleiialGreat
open Go.RowKit
def rdy (L:List (Int×Int×Int)) (n s k m:Int):Bool:=if k=1 then decide (s=0)||decide ((s - 1,1,m)∈L) else decide ((s,1,m)∈L)&&(decide (s=n - 1)||decide ((s+1,2,m)∈L))
set_option maxHeartbeats 16000000 in
set_option maxRecDepth 100000 in
theorem ready_any(s k m n:Int)(b:Nat)(L:List (Int×Int×Int))(w:World)(hd:Deeds w b L)(hk:k=1∨k=2)(hs:0≤s∧s<n∧n≤6)(hm:0≤m∧m<12):Calls Tryz.prog 111 #[.agg #[.int .i64 s,.int .i64 k,.int .i64 m],.int .i64 n,.map (some b)] w fun e w'=>e=.returned (.bool (rdy L n s k m))∧Below w.heap.size w w':=by
 obtain ⟨hs0,hs1,hs2⟩:=hs
 have HM:=h_ hm
 have HB1:=h_ (o_ w (.cells #[.int .i64 s,.int .i64 k,.int .i64 m] 184))
 have HD:=h_ (hd.u_ HB1.out)
 have HSB:=h_ (show ∀W',Below (w.alloc (.cells #[.int .i64 s,.int .i64 k,.int .i64 m] 184)).heap.size (w.alloc (.cells #[.int .i64 s,.int .i64 k,.int .i64 m] 184)) W'→W'.cell? ⟨w.heap.size,0,none⟩=some (.int .i64 s) from fun W' hW=>cell_bel hW (by simp))
 have w1:IntKind.i64.wrap (s - 1)=s - 1:=wrap_in (by omega) (by omega)
 have w2:IntKind.i64.wrap (s+1)=s+1:=wrap_in (by omega) (by omega)
 have w3:IntKind.i64.wrap (n - 1)=n - 1:=wrap_in (by omega) (by omega)
 clear hd hm
 rcases hk with e1|e1
 ·have nk:(k==1)=true:=by simp[e1]
  by_cases c1:s=0
  ·have HA:=h_ (show true=rdy L n s k m by unfold rdy;rw[if_pos e1];simp[c1])
   have HNS:=h_ c1
   clear e1 c1
   go_enter Tryz.func111,Tryz.ntmps111
   go_wp2
   have ns:(s==0)=true:=by simp[HNS.out]
   go_quiet (fail)
   all_goals go_wp2
   go_ret
   exact ⟨ret_bool HA.out,by refine below_go HB1.out ?_;repeat' (first|with_reducible exact Below.refl _ _|with_reducible refine pn_drew ?_|with_reducible refine pn_drewN ?_|with_reducible refine below_go ?_ hbF|with_reducible refine below_go ?_ hbH|with_reducible refine below_go ?_ hbG|with_reducible refine below_go ?_ hbI)⟩
  ·have HNS:=h_ c1
   obtain ⟨q,hq⟩:=gN (decide ((s - 1,(1:Int),m)∈L))
   have HA:=h_ (show q=rdy L n s k m by unfold rdy;rw[if_pos e1,←hq];simp[c1])
   have HH:=h_ (show ∀W',Below (w.alloc (.cells #[.int .i64 s,.int .i64 k,.int .i64 m] 184)).heap.size (w.alloc (.cells #[.int .i64 s,.int .i64 k,.int .i64 m] 184)) W'→Calls Tryz.prog 109 #[.map (some b),.agg #[.int .i64 (s - 1),.int .i64 1,.int .i64 m]] W' (fun e w'=>e=.returned (.bool q)∧Below W'.heap.size W' w') from fun W' hW=>by
    rw[←hq]
    obtain ⟨r1,r2⟩:=HM.out
    exact has_any b (s - 1) 1 m L W' (HD.out.u_ hW) ⟨by show 0≤s - 1;omega,by show s - 1≤100;omega,by show (0:Int)≤1;decide,by show (1:Int)≤100;decide,r1,by show m≤100;omega⟩)
   clear e1 c1 hq
   go_enter Tryz.func111,Tryz.ntmps111
   go_wp2
   have ns:(s==0)=false:=by simpa using HNS.out
   go_region_held3 (fun W'=>W'.cell? ⟨w.heap.size,0,none⟩=some (.int .i64 s)) ((refine HSB.out _ ?_;repeat' (first|with_reducible exact Below.refl _ _|with_reducible refine pn_drew ?_|with_reducible refine pn_drewN ?_|with_reducible refine below_go ?_ hbF|with_reducible refine below_go ?_ hbH|with_reducible refine below_go ?_ hbG|with_reducible refine below_go ?_ hbI)))
    (first|(go_at_call 93;refine (fwd_any _ _).mono ?_;rintro e wF ⟨rfl,hbF⟩)|(go_at_call 109;refine (HH.out _ (by repeat' (first|with_reducible exact Below.refl _ _|with_reducible refine pn_drew ?_|with_reducible refine pn_drewN ?_|with_reducible refine below_go ?_ hbF|with_reducible refine below_go ?_ hbH|with_reducible refine below_go ?_ hbG|with_reducible refine below_go ?_ hbI))).mono ?_;rintro e wH ⟨rfl,hbH⟩))
   all_goals go_wp2
   go_ret
   exact ⟨ret_bool HA.out,by refine below_go HB1.out ?_;repeat' (first|with_reducible exact Below.refl _ _|with_reducible refine pn_drew ?_|with_reducible refine pn_drewN ?_|with_reducible refine below_go ?_ hbF|with_reducible refine below_go ?_ hbH|with_reducible refine below_go ?_ hbG|with_reducible refine below_go ?_ hbI)⟩
 ·have nk:(k==1)=false:=by simp[e1]
  have e1':¬k=1:=by omega
  obtain ⟨q,hq⟩:=gN (decide ((s,(1:Int),m)∈L))
  have HH:=h_ (show ∀W',Below (w.alloc (.cells #[.int .i64 s,.int .i64 k,.int .i64 m] 184)).heap.size (w.alloc (.cells #[.int .i64 s,.int .i64 k,.int .i64 m] 184)) W'→Calls Tryz.prog 109 #[.map (some b),.agg #[.int .i64 s,.int .i64 1,.int .i64 m]] W' (fun e w'=>e=.returned (.bool q)∧Below W'.heap.size W' w') from fun W' hW=>by
   rw[←hq]
   obtain ⟨r1,r2⟩:=HM.out
   exact has_any b s 1 m L W' (HD.out.u_ hW) ⟨hs0,by show s≤100;omega,by show (0:Int)≤1;decide,by show (1:Int)≤100;decide,r1,by show m≤100;omega⟩)
  cases q
  ·have HA:=h_ (show false=rdy L n s k m by unfold rdy;rw[if_neg e1',hq];rfl)
   clear e1 e1' hq
   go_enter Tryz.func111,Tryz.ntmps111
   go_wp2
   go_region_held3 (fun W'=>W'.cell? ⟨w.heap.size,0,none⟩=some (.int .i64 s)) ((refine HSB.out _ ?_;repeat' (first|with_reducible exact Below.refl _ _|with_reducible refine pn_drew ?_|with_reducible refine pn_drewN ?_|with_reducible refine below_go ?_ hbF|with_reducible refine below_go ?_ hbH|with_reducible refine below_go ?_ hbG|with_reducible refine below_go ?_ hbI)))
    (first|(go_at_call 93;refine (fwd_any _ _).mono ?_;rintro e wF ⟨rfl,hbF⟩)|(go_at_call 109;refine (HH.out _ (by repeat' (first|with_reducible exact Below.refl _ _|with_reducible refine pn_drew ?_|with_reducible refine pn_drewN ?_|with_reducible refine below_go ?_ hbF|with_reducible refine below_go ?_ hbH|with_reducible refine below_go ?_ hbG|with_reducible refine below_go ?_ hbI))).mono ?_;rintro e wH ⟨rfl,hbH⟩))
   all_goals go_wp2
   go_ret
   exact ⟨ret_bool HA.out,by refine below_go HB1.out ?_;repeat' (first|with_reducible exact Below.refl _ _|with_reducible refine pn_drew ?_|with_reducible refine pn_drewN ?_|with_reducible refine below_go ?_ hbF|with_reducible refine below_go ?_ hbH|with_reducible refine below_go ?_ hbG|with_reducible refine below_go ?_ hbI)⟩
  ·by_cases c1:s=n - 1
   ·have HA:=h_ (show true=rdy L n s k m by unfold rdy;rw[if_neg e1',hq];simp[c1])
    have HNS:=h_ c1
    clear e1 e1' hq c1
    go_enter Tryz.func111,Tryz.ntmps111
    go_wp2
    go_region_held3 (fun W'=>W'.cell? ⟨w.heap.size,0,none⟩=some (.int .i64 s)) ((refine HSB.out _ ?_;repeat' (first|with_reducible exact Below.refl _ _|with_reducible refine pn_drew ?_|with_reducible refine pn_drewN ?_|with_reducible refine below_go ?_ hbF|with_reducible refine below_go ?_ hbH|with_reducible refine below_go ?_ hbG|with_reducible refine below_go ?_ hbI)))
     (first|(go_at_call 93;refine (fwd_any _ _).mono ?_;rintro e wF ⟨rfl,hbF⟩)|(go_at_call 109;refine (HH.out _ (by repeat' (first|with_reducible exact Below.refl _ _|with_reducible refine pn_drew ?_|with_reducible refine pn_drewN ?_|with_reducible refine below_go ?_ hbF|with_reducible refine below_go ?_ hbH|with_reducible refine below_go ?_ hbG|with_reducible refine below_go ?_ hbI))).mono ?_;rintro e wH ⟨rfl,hbH⟩))
    all_goals go_wp2
    have ns:(s==n - 1)=true:=by simp[HNS.out]
    go_quiet (fail)
    all_goals go_wp2
    go_ret
    exact ⟨ret_bool HA.out,by refine below_go HB1.out ?_;repeat' (first|with_reducible exact Below.refl _ _|with_reducible refine pn_drew ?_|with_reducible refine pn_drewN ?_|with_reducible refine below_go ?_ hbF|with_reducible refine below_go ?_ hbH|with_reducible refine below_go ?_ hbG|with_reducible refine below_go ?_ hbI)⟩
   ·have HNS:=h_ c1
    obtain ⟨q,hq2⟩:=gN (decide ((s+1,(2:Int),m)∈L))
    have HA:=h_ (show q=rdy L n s k m by unfold rdy;rw[if_neg e1',hq,←hq2];simp[c1])
    have HI:=h_ (show ∀W',Below (w.alloc (.cells #[.int .i64 s,.int .i64 k,.int .i64 m] 184)).heap.size (w.alloc (.cells #[.int .i64 s,.int .i64 k,.int .i64 m] 184)) W'→Calls Tryz.prog 109 #[.map (some b),.agg #[.int .i64 (s+1),.int .i64 2,.int .i64 m]] W' (fun e w'=>e=.returned (.bool q)∧Below W'.heap.size W' w') from fun W' hW=>by
     rw[←hq2]
     obtain ⟨r1,r2⟩:=HM.out
     exact has_any b (s+1) 2 m L W' (HD.out.u_ hW) ⟨by show 0≤s+1;omega,by show s+1≤100;omega,by show (0:Int)≤2;decide,by show (2:Int)≤100;decide,r1,by show m≤100;omega⟩)
    clear e1 e1' hq c1 hq2
    go_enter Tryz.func111,Tryz.ntmps111
    go_wp2
    go_region_held3 (fun W'=>W'.cell? ⟨w.heap.size,0,none⟩=some (.int .i64 s)) ((refine HSB.out _ ?_;repeat' (first|with_reducible exact Below.refl _ _|with_reducible refine pn_drew ?_|with_reducible refine pn_drewN ?_|with_reducible refine below_go ?_ hbF|with_reducible refine below_go ?_ hbH|with_reducible refine below_go ?_ hbG|with_reducible refine below_go ?_ hbI)))
     (first|(go_at_call 93;refine (fwd_any _ _).mono ?_;rintro e wF ⟨rfl,hbF⟩)|(go_at_call 109;refine (HH.out _ (by repeat' (first|with_reducible exact Below.refl _ _|with_reducible refine pn_drew ?_|with_reducible refine pn_drewN ?_|with_reducible refine below_go ?_ hbF|with_reducible refine below_go ?_ hbH|with_reducible refine below_go ?_ hbG|with_reducible refine below_go ?_ hbI))).mono ?_;rintro e wH ⟨rfl,hbH⟩))
    all_goals go_wp2
    have ns:(s==n - 1)=false:=by simpa using HNS.out
    go_region_held3 (fun W'=>W'.cell? ⟨w.heap.size,0,none⟩=some (.int .i64 s)) ((refine HSB.out _ ?_;repeat' (first|with_reducible exact Below.refl _ _|with_reducible refine pn_drew ?_|with_reducible refine pn_drewN ?_|with_reducible refine below_go ?_ hbF|with_reducible refine below_go ?_ hbH|with_reducible refine below_go ?_ hbG|with_reducible refine below_go ?_ hbI)))
     (first|(go_at_call 94;refine (bwd_any _ _).mono ?_;rintro e wG ⟨rfl,hbG⟩)|(go_at_call 109;refine (HI.out _ (by repeat' (first|with_reducible exact Below.refl _ _|with_reducible refine pn_drew ?_|with_reducible refine pn_drewN ?_|with_reducible refine below_go ?_ hbF|with_reducible refine below_go ?_ hbH|with_reducible refine below_go ?_ hbG|with_reducible refine below_go ?_ hbI))).mono ?_;rintro e wI ⟨rfl,hbI⟩))
    all_goals go_wp2
    go_ret
    exact ⟨ret_bool HA.out,by refine below_go HB1.out ?_;repeat' (first|with_reducible exact Below.refl _ _|with_reducible refine pn_drew ?_|with_reducible refine pn_drewN ?_|with_reducible refine below_go ?_ hbF|with_reducible refine below_go ?_ hbH|with_reducible refine below_go ?_ hbG|with_reducible refine below_go ?_ hbI)⟩
def Known (p:List (List (Int×Int))) (f:List Nat) (L:List (Int×Int×Int)):Prop:=∀(s:Nat) (a:Int×Int),s<p.length→(((s:Int),a)∈L↔a∈(stA p s).take (atN f s))
theorem known_zero(p:List (List (Int×Int))):Known p (zeroN p) []:=fun s a _=>by rw[zeroN_at];simp
theorem known_step{p:List (List (Int×Int))}{f:List Nat}{L:List (Int×Int×Int)}(h:Known p f L)(hl:f.length=p.length){s:Nat}{a:Int×Int}(hs:s<p.length)(ha:(stA p s)[atN f s]?=some a):Known p (bump f s) (L++[((s:Int),a)]):=by
 intro t x ht
 rw[List.mem_append,h t x ht,atN_bump (by omega)]
 by_cases e:t=s
 ·subst e
  rw[if_pos rfl,take_snoc ha,List.mem_append]
  simp
 ·rw[if_neg e]
  constructor
  ·rintro (q|q)
   ·exact q
   ·have:=(Prod.mk.inj (List.mem_singleton.1 q)).1
    exact absurd (by omega) e
  ·exact fun q=>.inl q
theorem known_new{p:List (List (Int×Int))}{f:List Nat}{L:List (Int×Int×Int)}(h:Known p f L){s:Nat}{a:Int×Int}(hs:s<p.length)(hap:apart (stA p s))(ha:(stA p s)[atN f s]?=some a):((s:Int),a) ∉ L:=by
 rw[h s a hs,take_iff hap ha]
 omega
theorem known_whr{p:List (List (Int×Int))}{f:List Nat}{L:List (Int×Int×Int)}(h:Known p f L){k:Nat}(hk:k<p.length){a:Int×Int}(hap:apart (stA p k))(hm:a∈stA p k):((k:Int),a)∈L↔whr a (stA p k)<(atN f k:Int):=by
 obtain ⟨i,hi⟩:=List.getElem?_of_mem hm
 rw[h k a hk,take_iff hap hi,whr_idx hap hi]
 omega
theorem rdy_iff{p:List (List (Int×Int))}{f:List Nat}{L:List (Int×Int×Int)}{m:Nat}(hp:stagesE (m:Int) p=0)(h:Known p f L){s:Nat}(hs:s<p.length){a:Int×Int}(ha:(stA p s)[atN f s]?=some a):rdy L (p.length:Int) (s:Int) a.1 a.2=true↔Can p f s:=by
 have hst:∀k,k<p.length→actsE (stA p k) (m:Int)=0:=fun k hk=>by
  obtain ⟨l,hl⟩:=stage_at hk
  rw[stA_at hl]
  exact stagesE_in hp k l hl
 obtain ⟨ok1,ap1,ln1,ah1⟩:=actsE_in (hst s hs)
 have hoka:=ok1 a (List.mem_of_getElem? ha)
 have hin:∀k,k<p.length→∀x,okA (m:Int) x→x∈stA p k:=fun k hk x hx=>by
  obtain ⟨q1,q2,q3,_⟩:=actsE_in (hst k hk)
  exact act_in q1 q2 q3 hx
 have hdone:∀k,k<p.length→(((k:Int),a)∈L↔whr a (stA p k)<(atN f k:Int)):=fun k hk=>known_whr h hk (actsE_in (hst k hk)).2.1 (hin k hk a hoka)
 obtain ⟨ak,am⟩:=a
 obtain ⟨o1,o2,o3,o4⟩:=hoka
 dsimp only at o1 o2 o3 o4 ⊢
 have hk12:ak=1∨ak=2:=by omega
 rcases hk12 with e|e
 ·subst e
  unfold rdy
  rw[if_pos rfl]
  by_cases c:s=0
  ·subst c
   constructor
   ·exact fun _=>⟨_,ha,fun k hk hn=>by
     rcases hn with ⟨q,_⟩|⟨_,q⟩
     ·exact absurd (show (1:Int)=2 from q) (by decide)
     ·omega⟩
   ·exact fun _=>by simp
  ·obtain ⟨j,rfl⟩:∃j,s=j+1:=⟨s - 1,by omega⟩
   have hj:j<p.length:=by omega
   have e1:(((j+1:Nat):Int) - 1,(1:Int),am)=((j:Int),1,am):=by rw[show ((j+1:Nat):Int) - 1=(j:Int) by omega]
   rw[e1]
   have e2:decide (((j+1:Nat):Int)=0)=false:=by simp;omega
   rw[e2,Bool.false_or,decide_eq_true_iff,hdone j hj]
   constructor
   ·intro q
    refine ⟨_,ha,fun k hk hn=>?_⟩
    rcases hn with ⟨r,_⟩|⟨_,r⟩
    ·exact absurd (show (1:Int)=2 from r) (by decide)
    ·obtain rfl:k=j:=by omega
     exact q
   ·rintro ⟨b,hb,q⟩
    rw[ha]at hb
    obtain rfl:=Option.some.inj hb
    exact q j hj (.inr ⟨show (1:Int)≠2 by decide,rfl⟩)
 ·subst e
  unfold rdy
  rw[if_neg (by decide)]
  have hf:((s:Int),(1:Int),am)∈L:=by
   rw[h s (1,am) hs]
   obtain ⟨i,hi⟩:=List.getElem?_of_mem (hin s hs (1,am) ⟨Int.le_refl 1,show (1:Int)≤2 by decide,o3,o4⟩)
   rw[take_iff ap1 hi]
   rcases Nat.lt_trichotomy i (atN f s) with q|q|q
   ·exact q
   ·rw[q,ha]at hi
    exact absurd (Prod.mk.inj (Option.some.inj hi)).1 (by decide)
   ·exact absurd ⟨rfl,rfl⟩ (ah1 i (atN f s) _ _ q hi ha)
  have e1:decide (((s:Int),(1:Int),am)∈L)=true:=by simpa using hf
  rw[e1,Bool.true_and]
  by_cases c:s+1=p.length
  ·constructor
   ·exact fun _=>⟨_,ha,fun k hk hn=>by
     rcases hn with ⟨_,q⟩|⟨q,_⟩
     ·omega
     ·exact absurd rfl q⟩
   ·intro _
    have:decide ((s:Int)=(p.length:Int) - 1)=true:=by simp;omega
    rw[this];rfl
  ·have hj:s+1<p.length:=by omega
   have e2:decide ((s:Int)=(p.length:Int) - 1)=false:=by simp;omega
   have e3:((s:Int)+1,(2:Int),am)=(((s+1:Nat):Int),2,am):=by rw[show ((s+1:Nat):Int)=(s:Int)+1 by omega]
   rw[e2,Bool.false_or,decide_eq_true_iff,e3,hdone (s+1) hj]
   constructor
   ·intro q
    refine ⟨_,ha,fun k hk hn=>?_⟩
    rcases hn with ⟨_,r⟩|⟨r,_⟩
    ·subst r;exact q
    ·exact absurd rfl r
   ·rintro ⟨b,hb,q⟩
    rw[ha]at hb
    obtain rfl:=Option.some.inj hb
    exact q (s+1) hj (.inl ⟨rfl,rfl⟩)
def mapSize (w:World) (b:Nat):Nat:=match w.heap[b]? with
 |some (.map es _)=>es.size
 |_=>0
theorem Deeds.size{w:World}{b:Nat}{L:List (Int×Int×Int)}(h:Deeds w b L):mapSize w b=L.length:=by
 obtain ⟨es,clock,hb,_,_,h4,_⟩:=h
 unfold mapSize;rw[hb];exact h4
theorem wp_scope_from{P:Program}{a:Act}{w:World}{Q:Exit→Act→World→Prop}{x rest:Code}(l:Nat)(J:Act→World→Prop)(μ:Act→World→Nat)(hf:findLabel x l=none)
  (first:x.wp P (Exit.then J (fun _ _ _=>False)) a w)
  (pass:∀a w,J a w→rest.wp P (Exit.jump l (fun a' w'=>J a' w'∧μ a' w'<μ a w) Q) a w):(Code.scope (Code.seq x (Code.seq (Code.label l) rest))).wp P Q a w:=by
 refine wp_scope_jumps l J μ (rest:=Code.seq Code.skip rest) (by simp[findLabel,hf]) ?_ (fun a w h=>wp_seq (wp_skip (pass a w h)))
 refine wp_seq ?_
 refine Code.wp_mono ?_ first
 intro e a2 w2 h2
 cases e with
 |normal=>
  refine wp_seq (wp_label ?_)
  refine Code.wp_mono ?_ (pass a2 w2 h2)
  intro e a3 w3 h3
  cases e with
  |goto l'=>exact ⟨h3.1,h3.2.1⟩
  |_=>exact h3
 |_=>exact h2.elim
end Go.Proofs.YtpniemnfdleiialGreat
