/- What isReady of package plan comes to. Written by tools/gen_pnr.py. -/
import Derived.Test.YtniloklglpchfakGreatPkPnF
import Derived.Deep.RegionHeld3
import Derived.BigQuiet
import Derived.ScopeJumps
import Derived.WalkMore
import Derived.Test.YtniloklglpchfakGreatPkFix
namespace Go.Proofs.YtniloklglpchfakGreat
open Go.RowKit
def rdy (L:List (Int×Int×Int)) (n s k m:Int):Bool:=if k=1 then decide (s=0)||decide ((s - 1,1,m)∈L) else decide ((s,1,m)∈L)&&(decide (s=n - 1)||decide ((s+1,2,m)∈L))
set_option maxHeartbeats 16000000 in
set_option maxRecDepth 100000 in
theorem ready_any(s k m n:Int)(b:Nat)(L:List (Int×Int×Int))(w:World)(hd:Deeds w b L)(hk:k=1∨k=2)(hs:0≤s∧s<n∧n≤6)(hm:0≤m∧m<12):Calls Tryz.prog 92 #[.agg #[.int .i64 s,.int .i64 k,.int .i64 m],.int .i64 n,.map (some b)] w fun e w'=>e=.returned (.bool (rdy L n s k m))∧Below w.heap.size w w':=by
 obtain ⟨hs0,hs1,hs2⟩:=hs
 have HM:=h_ hm
 have HB1:=h_ (o_ w (.cells #[.int .i64 s,.int .i64 k,.int .i64 m] 177))
 have HD:=h_ (hd.u_ HB1.out)
 have HSB:=h_ (show ∀W',Below (w.alloc (.cells #[.int .i64 s,.int .i64 k,.int .i64 m] 177)).heap.size (w.alloc (.cells #[.int .i64 s,.int .i64 k,.int .i64 m] 177)) W'→W'.cell? ⟨w.heap.size,0,none⟩=some (.int .i64 s) from fun W' hW=>cell_bel hW (by simp))
 have w1:IntKind.i64.wrap (s - 1)=s - 1:=wrap_in (by omega) (by omega)
 have w2:IntKind.i64.wrap (s+1)=s+1:=wrap_in (by omega) (by omega)
 have w3:IntKind.i64.wrap (n - 1)=n - 1:=wrap_in (by omega) (by omega)
 clear hd hm
 rcases hk with e1|e1
 ·have nk:(k==1)=true:=by simp[e1]
  by_cases c1:s=0
  ·have HA:=h_ (show true=rdy L n s k m by unfold rdy;rw[if_pos e1];simp[c1])
   have HNS:=h_ c1
   clear e1 c1
   go_enter Tryz.func92,Tryz.ntmps92
   go_wp2
   have ns:(s==0)=true:=by simp[HNS.out]
   go_quiet (fail)
   all_goals go_wp2
   go_ret
   exact ⟨ret_bool HA.out,by refine below_go HB1.out ?_;repeat' (first|with_reducible exact Below.refl _ _|with_reducible refine pn_drew ?_|with_reducible refine pn_drewN ?_|with_reducible refine below_go ?_ hbF|with_reducible refine below_go ?_ hbH|with_reducible refine below_go ?_ hbG|with_reducible refine below_go ?_ hbI)⟩
  ·have HNS:=h_ c1
   obtain ⟨q,hq⟩:=gN (decide ((s - 1,(1:Int),m)∈L))
   have HA:=h_ (show q=rdy L n s k m by unfold rdy;rw[if_pos e1,←hq];simp[c1])
   have HH:=h_ (show ∀W',Below (w.alloc (.cells #[.int .i64 s,.int .i64 k,.int .i64 m] 177)).heap.size (w.alloc (.cells #[.int .i64 s,.int .i64 k,.int .i64 m] 177)) W'→Calls Tryz.prog 88 #[.map (some b),.agg #[.int .i64 (s - 1),.int .i64 1,.int .i64 m]] W' (fun e w'=>e=.returned (.bool q)∧Below W'.heap.size W' w') from fun W' hW=>by
    rw[←hq]
    obtain ⟨r1,r2⟩:=HM.out
    exact has_any b (s - 1) 1 m L W' (HD.out.u_ hW) ⟨by show 0≤s - 1;omega,by show s - 1≤100;omega,by show (0:Int)≤1;decide,by show (1:Int)≤100;decide,r1,by show m≤100;omega⟩)
   clear e1 c1 hq
   go_enter Tryz.func92,Tryz.ntmps92
   go_wp2
   have ns:(s==0)=false:=by simpa using HNS.out
   go_region_held3 (fun W'=>W'.cell? ⟨w.heap.size,0,none⟩=some (.int .i64 s)) ((refine HSB.out _ ?_;repeat' (first|with_reducible exact Below.refl _ _|with_reducible refine pn_drew ?_|with_reducible refine pn_drewN ?_|with_reducible refine below_go ?_ hbF|with_reducible refine below_go ?_ hbH|with_reducible refine below_go ?_ hbG|with_reducible refine below_go ?_ hbI)))
    (first|(go_at_call 91;refine (fwd_any _ _).mono ?_;rintro e wF ⟨rfl,hbF⟩)|(go_at_call 88;refine (HH.out _ (by repeat' (first|with_reducible exact Below.refl _ _|with_reducible refine pn_drew ?_|with_reducible refine pn_drewN ?_|with_reducible refine below_go ?_ hbF|with_reducible refine below_go ?_ hbH|with_reducible refine below_go ?_ hbG|with_reducible refine below_go ?_ hbI))).mono ?_;rintro e wH ⟨rfl,hbH⟩))
   all_goals go_wp2
   go_ret
   exact ⟨ret_bool HA.out,by refine below_go HB1.out ?_;repeat' (first|with_reducible exact Below.refl _ _|with_reducible refine pn_drew ?_|with_reducible refine pn_drewN ?_|with_reducible refine below_go ?_ hbF|with_reducible refine below_go ?_ hbH|with_reducible refine below_go ?_ hbG|with_reducible refine below_go ?_ hbI)⟩
 ·have nk:(k==1)=false:=by simp[e1]
  have e1':¬k=1:=by omega
  obtain ⟨q,hq⟩:=gN (decide ((s,(1:Int),m)∈L))
  have HH:=h_ (show ∀W',Below (w.alloc (.cells #[.int .i64 s,.int .i64 k,.int .i64 m] 177)).heap.size (w.alloc (.cells #[.int .i64 s,.int .i64 k,.int .i64 m] 177)) W'→Calls Tryz.prog 88 #[.map (some b),.agg #[.int .i64 s,.int .i64 1,.int .i64 m]] W' (fun e w'=>e=.returned (.bool q)∧Below W'.heap.size W' w') from fun W' hW=>by
   rw[←hq]
   obtain ⟨r1,r2⟩:=HM.out
   exact has_any b s 1 m L W' (HD.out.u_ hW) ⟨hs0,by show s≤100;omega,by show (0:Int)≤1;decide,by show (1:Int)≤100;decide,r1,by show m≤100;omega⟩)
  cases q
  ·have HA:=h_ (show false=rdy L n s k m by unfold rdy;rw[if_neg e1',hq];rfl)
   clear e1 e1' hq
   go_enter Tryz.func92,Tryz.ntmps92
   go_wp2
   go_region_held3 (fun W'=>W'.cell? ⟨w.heap.size,0,none⟩=some (.int .i64 s)) ((refine HSB.out _ ?_;repeat' (first|with_reducible exact Below.refl _ _|with_reducible refine pn_drew ?_|with_reducible refine pn_drewN ?_|with_reducible refine below_go ?_ hbF|with_reducible refine below_go ?_ hbH|with_reducible refine below_go ?_ hbG|with_reducible refine below_go ?_ hbI)))
    (first|(go_at_call 91;refine (fwd_any _ _).mono ?_;rintro e wF ⟨rfl,hbF⟩)|(go_at_call 88;refine (HH.out _ (by repeat' (first|with_reducible exact Below.refl _ _|with_reducible refine pn_drew ?_|with_reducible refine pn_drewN ?_|with_reducible refine below_go ?_ hbF|with_reducible refine below_go ?_ hbH|with_reducible refine below_go ?_ hbG|with_reducible refine below_go ?_ hbI))).mono ?_;rintro e wH ⟨rfl,hbH⟩))
   all_goals go_wp2
   go_ret
   exact ⟨ret_bool HA.out,by refine below_go HB1.out ?_;repeat' (first|with_reducible exact Below.refl _ _|with_reducible refine pn_drew ?_|with_reducible refine pn_drewN ?_|with_reducible refine below_go ?_ hbF|with_reducible refine below_go ?_ hbH|with_reducible refine below_go ?_ hbG|with_reducible refine below_go ?_ hbI)⟩
  ·by_cases c1:s=n - 1
   ·have HA:=h_ (show true=rdy L n s k m by unfold rdy;rw[if_neg e1',hq];simp[c1])
    have HNS:=h_ c1
    clear e1 e1' hq c1
    go_enter Tryz.func92,Tryz.ntmps92
    go_wp2
    go_region_held3 (fun W'=>W'.cell? ⟨w.heap.size,0,none⟩=some (.int .i64 s)) ((refine HSB.out _ ?_;repeat' (first|with_reducible exact Below.refl _ _|with_reducible refine pn_drew ?_|with_reducible refine pn_drewN ?_|with_reducible refine below_go ?_ hbF|with_reducible refine below_go ?_ hbH|with_reducible refine below_go ?_ hbG|with_reducible refine below_go ?_ hbI)))
     (first|(go_at_call 91;refine (fwd_any _ _).mono ?_;rintro e wF ⟨rfl,hbF⟩)|(go_at_call 88;refine (HH.out _ (by repeat' (first|with_reducible exact Below.refl _ _|with_reducible refine pn_drew ?_|with_reducible refine pn_drewN ?_|with_reducible refine below_go ?_ hbF|with_reducible refine below_go ?_ hbH|with_reducible refine below_go ?_ hbG|with_reducible refine below_go ?_ hbI))).mono ?_;rintro e wH ⟨rfl,hbH⟩))
    all_goals go_wp2
    have ns:(s==n - 1)=true:=by simp[HNS.out]
    go_quiet (fail)
    all_goals go_wp2
    go_ret
    exact ⟨ret_bool HA.out,by refine below_go HB1.out ?_;repeat' (first|with_reducible exact Below.refl _ _|with_reducible refine pn_drew ?_|with_reducible refine pn_drewN ?_|with_reducible refine below_go ?_ hbF|with_reducible refine below_go ?_ hbH|with_reducible refine below_go ?_ hbG|with_reducible refine below_go ?_ hbI)⟩
   ·have HNS:=h_ c1
    obtain ⟨q,hq2⟩:=gN (decide ((s+1,(2:Int),m)∈L))
    have HA:=h_ (show q=rdy L n s k m by unfold rdy;rw[if_neg e1',hq,←hq2];simp[c1])
    have HI:=h_ (show ∀W',Below (w.alloc (.cells #[.int .i64 s,.int .i64 k,.int .i64 m] 177)).heap.size (w.alloc (.cells #[.int .i64 s,.int .i64 k,.int .i64 m] 177)) W'→Calls Tryz.prog 88 #[.map (some b),.agg #[.int .i64 (s+1),.int .i64 2,.int .i64 m]] W' (fun e w'=>e=.returned (.bool q)∧Below W'.heap.size W' w') from fun W' hW=>by
     rw[←hq2]
     obtain ⟨r1,r2⟩:=HM.out
     exact has_any b (s+1) 2 m L W' (HD.out.u_ hW) ⟨by show 0≤s+1;omega,by show s+1≤100;omega,by show (0:Int)≤2;decide,by show (2:Int)≤100;decide,r1,by show m≤100;omega⟩)
    clear e1 e1' hq c1 hq2
    go_enter Tryz.func92,Tryz.ntmps92
    go_wp2
    go_region_held3 (fun W'=>W'.cell? ⟨w.heap.size,0,none⟩=some (.int .i64 s)) ((refine HSB.out _ ?_;repeat' (first|with_reducible exact Below.refl _ _|with_reducible refine pn_drew ?_|with_reducible refine pn_drewN ?_|with_reducible refine below_go ?_ hbF|with_reducible refine below_go ?_ hbH|with_reducible refine below_go ?_ hbG|with_reducible refine below_go ?_ hbI)))
     (first|(go_at_call 91;refine (fwd_any _ _).mono ?_;rintro e wF ⟨rfl,hbF⟩)|(go_at_call 88;refine (HH.out _ (by repeat' (first|with_reducible exact Below.refl _ _|with_reducible refine pn_drew ?_|with_reducible refine pn_drewN ?_|with_reducible refine below_go ?_ hbF|with_reducible refine below_go ?_ hbH|with_reducible refine below_go ?_ hbG|with_reducible refine below_go ?_ hbI))).mono ?_;rintro e wH ⟨rfl,hbH⟩))
    all_goals go_wp2
    have ns:(s==n - 1)=false:=by simpa using HNS.out
    go_region_held3 (fun W'=>W'.cell? ⟨w.heap.size,0,none⟩=some (.int .i64 s)) ((refine HSB.out _ ?_;repeat' (first|with_reducible exact Below.refl _ _|with_reducible refine pn_drew ?_|with_reducible refine pn_drewN ?_|with_reducible refine below_go ?_ hbF|with_reducible refine below_go ?_ hbH|with_reducible refine below_go ?_ hbG|with_reducible refine below_go ?_ hbI)))
     (first|(go_at_call 90;refine (bwd_any _ _).mono ?_;rintro e wG ⟨rfl,hbG⟩)|(go_at_call 88;refine (HI.out _ (by repeat' (first|with_reducible exact Below.refl _ _|with_reducible refine pn_drew ?_|with_reducible refine pn_drewN ?_|with_reducible refine below_go ?_ hbF|with_reducible refine below_go ?_ hbH|with_reducible refine below_go ?_ hbG|with_reducible refine below_go ?_ hbI))).mono ?_;rintro e wI ⟨rfl,hbI⟩))
    all_goals go_wp2
    go_ret
    exact ⟨ret_bool HA.out,by refine below_go HB1.out ?_;repeat' (first|with_reducible exact Below.refl _ _|with_reducible refine pn_drew ?_|with_reducible refine pn_drewN ?_|with_reducible refine below_go ?_ hbF|with_reducible refine below_go ?_ hbH|with_reducible refine below_go ?_ hbG|with_reducible refine below_go ?_ hbI)⟩
def Known (p:List (List (Int×Int))) (f:List Nat) (L:List (Int×Int×Int)):Prop:=∀(s:Nat) (a:Int×Int),s<p.length→(((s:Int),a)∈L↔a∈(stA p s).take (atN f s))
theorem known_zero(p:List (List (Int×Int))):Known p (zeroN p) []:=fun s a _=>by rw[zeroN_at];simp
theorem known_step{p:List (List (Int×Int))}{f:List Nat}{L:List (Int×Int×Int)}(h:Known p f L)(hl:f.length=p.length){s:Nat}{a:Int×Int}(hs:s<p.length)(ha:(stA p s)[atN f s]?=some a):Known p (bump f s) (L++[((s:Int),a)]):=by
 intro t x ht
 rw[List.mem_append,h t x ht,atN_bump (by omega)]
 by_cases e:t=s
 ·subst e
  rw[if_pos rfl,take_snoc ha,List.mem_append]
  simp
 ·rw[if_neg e]
  constructor
  ·rintro (q|q)
   ·exact q
   ·have:=(Prod.mk.inj (List.mem_singleton.1 q)).1
    exact absurd (by omega) e
  ·exact fun q=>.inl q
theorem known_new{p:List (List (Int×Int))}{f:List Nat}{L:List (Int×Int×Int)}(h:Known p f L){s:Nat}{a:Int×Int}(hs:s<p.length)(hap:apart (stA p s))(ha:(stA p s)[atN f s]?=some a):((s:Int),a) ∉ L:=by
 rw[h s a hs,take_iff hap ha]
 omega
theorem known_whr{p:List (List (Int×Int))}{f:List Nat}{L:List (Int×Int×Int)}(h:Known p f L){k:Nat}(hk:k<p.length){a:Int×Int}(hap:apart (stA p k))(hm:a∈stA p k):((k:Int),a)∈L↔whr a (stA p k)<(atN f k:Int):=by
 obtain ⟨i,hi⟩:=List.getElem?_of_mem hm
 rw[h k a hk,take_iff hap hi,whr_idx hap hi]
 omega
theorem rdy_iff{p:List (List (Int×Int))}{f:List Nat}{L:List (Int×Int×Int)}{m:Nat}(hp:stagesE (m:Int) p=0)(h:Known p f L){s:Nat}(hs:s<p.length){a:Int×Int}(ha:(stA p s)[atN f s]?=some a):rdy L (p.length:Int) (s:Int) a.1 a.2=true↔Can p f s:=by
 have hst:∀k,k<p.length→actsE (stA p k) (m:Int)=0:=fun k hk=>by
  obtain ⟨l,hl⟩:=stage_at hk
  rw[stA_at hl]
  exact stagesE_in hp k l hl
 obtain ⟨ok1,ap1,ln1,ah1⟩:=actsE_in (hst s hs)
 have hoka:=ok1 a (List.mem_of_getElem? ha)
 have hin:∀k,k<p.length→∀x,okA (m:Int) x→x∈stA p k:=fun k hk x hx=>by
  obtain ⟨q1,q2,q3,_⟩:=actsE_in (hst k hk)
  exact act_in q1 q2 q3 hx
 have hdone:∀k,k<p.length→(((k:Int),a)∈L↔whr a (stA p k)<(atN f k:Int)):=fun k hk=>known_whr h hk (actsE_in (hst k hk)).2.1 (hin k hk a hoka)
 obtain ⟨ak,am⟩:=a
 obtain ⟨o1,o2,o3,o4⟩:=hoka
 dsimp only at o1 o2 o3 o4 ⊢
 have hk12:ak=1∨ak=2:=by omega
 rcases hk12 with e|e
 ·subst e
  unfold rdy
  rw[if_pos rfl]
  by_cases c:s=0
  ·subst c
   constructor
   ·exact fun _=>⟨_,ha,fun k hk hn=>by
     rcases hn with ⟨q,_⟩|⟨_,q⟩
     ·exact absurd (show (1:Int)=2 from q) (by decide)
     ·omega⟩
   ·exact fun _=>by simp
  ·obtain ⟨j,rfl⟩:∃j,s=j+1:=⟨s - 1,by omega⟩
   have hj:j<p.length:=by omega
   have e1:(((j+1:Nat):Int) - 1,(1:Int),am)=((j:Int),1,am):=by rw[show ((j+1:Nat):Int) - 1=(j:Int) by omega]
   rw[e1]
   have e2:decide (((j+1:Nat):Int)=0)=false:=by simp;omega
   rw[e2,Bool.false_or,decide_eq_true_iff,hdone j hj]
   constructor
   ·intro q
    refine ⟨_,ha,fun k hk hn=>?_⟩
    rcases hn with ⟨r,_⟩|⟨_,r⟩
    ·exact absurd (show (1:Int)=2 from r) (by decide)
    ·obtain rfl:k=j:=by omega
     exact q
   ·rintro ⟨b,hb,q⟩
    rw[ha]at hb
    obtain rfl:=Option.some.inj hb
    exact q j hj (.inr ⟨show (1:Int)≠2 by decide,rfl⟩)
 ·subst e
  unfold rdy
  rw[if_neg (by decide)]
  have hf:((s:Int),(1:Int),am)∈L:=by
   rw[h s (1,am) hs]
   obtain ⟨i,hi⟩:=List.getElem?_of_mem (hin s hs (1,am) ⟨Int.le_refl 1,show (1:Int)≤2 by decide,o3,o4⟩)
   rw[take_iff ap1 hi]
   rcases Nat.lt_trichotomy i (atN f s) with q|q|q
   ·exact q
   ·rw[q,ha]at hi
    exact absurd (Prod.mk.inj (Option.some.inj hi)).1 (by decide)
   ·exact absurd ⟨rfl,rfl⟩ (ah1 i (atN f s) _ _ q hi ha)
  have e1:decide (((s:Int),(1:Int),am)∈L)=true:=by simpa using hf
  rw[e1,Bool.true_and]
  by_cases c:s+1=p.length
  ·constructor
   ·exact fun _=>⟨_,ha,fun k hk hn=>by
     rcases hn with ⟨_,q⟩|⟨q,_⟩
     ·omega
     ·exact absurd rfl q⟩
   ·intro _
    have:decide ((s:Int)=(p.length:Int) - 1)=true:=by simp;omega
    rw[this];rfl
  ·have hj:s+1<p.length:=by omega
   have e2:decide ((s:Int)=(p.length:Int) - 1)=false:=by simp;omega
   have e3:((s:Int)+1,(2:Int),am)=(((s+1:Nat):Int),2,am):=by rw[show ((s+1:Nat):Int)=(s:Int)+1 by omega]
   rw[e2,Bool.false_or,decide_eq_true_iff,e3,hdone (s+1) hj]
   constructor
   ·intro q
    refine ⟨_,ha,fun k hk hn=>?_⟩
    rcases hn with ⟨_,r⟩|⟨r,_⟩
    ·subst r;exact q
    ·exact absurd rfl r
   ·rintro ⟨b,hb,q⟩
    rw[ha]at hb
    obtain rfl:=Option.some.inj hb
    exact q (s+1) hj (.inl ⟨rfl,rfl⟩)
def mapSize (w:World) (b:Nat):Nat:=match w.heap[b]? with
 |some (.map es _)=>es.size
 |_=>0
theorem Deeds.size{w:World}{b:Nat}{L:List (Int×Int×Int)}(h:Deeds w b L):mapSize w b=L.length:=by
 obtain ⟨es,clock,hb,_,_,h4,_⟩:=h
 unfold mapSize;rw[hb];exact h4
theorem wp_scope_from{P:Program}{a:Act}{w:World}{Q:Exit→Act→World→Prop}{x rest:Code}(l:Nat)(J:Act→World→Prop)(μ:Act→World→Nat)(hf:findLabel x l=none)
  (first:x.wp P (Exit.then J (fun _ _ _=>False)) a w)
  (pass:∀a w,J a w→rest.wp P (Exit.jump l (fun a' w'=>J a' w'∧μ a' w'<μ a w) Q) a w):(Code.scope (Code.seq x (Code.seq (Code.label l) rest))).wp P Q a w:=by
 refine wp_scope_jumps l J μ (rest:=Code.seq Code.skip rest) (by simp[findLabel,hf]) ?_ (fun a w h=>wp_seq (wp_skip (pass a w h)))
 refine wp_seq ?_
 refine Code.wp_mono ?_ first
 intro e a2 w2 h2
 cases e with
 |normal=>
  refine wp_seq (wp_label ?_)
  refine Code.wp_mono ?_ (pass a2 w2 h2)
  intro e a3 w3 h3
  cases e with
  |goto l'=>exact ⟨h3.1,h3.2.1⟩
  |_=>exact h3
 |_=>exact h2.elim
theorem plan_cell_g{w:World}{p:List (List (Int×Int))}{pb off b:Nat}{L0:List (Int×Int×Int)}(hd:Deeds w b L0)(hc:∀i l,p[i]?=some l→∃s,w.cell? ⟨pb,off+i,none⟩=some s∧IsActs w s l)(W:World)(hg:w.grownBy W (some b)){s:Nat}(hs:s<p.length):
  ∃la lc,W.cell? ⟨pb,off+s,none⟩=some (.slice la (stA p s).length lc)∧IsActs W (.slice la (stA p s).length lc) (stA p s):=by
 obtain ⟨l,hl⟩:=stage_at hs
 obtain ⟨u,h1,h2⟩:=hc s l hl
 rw[stA_at hl]
 obtain ⟨a,cap,rfl⟩:=h2.shape
 exact ⟨a,cap,cell_grow hd hg h1,h2.deeds hd hg⟩
theorem RowAt.kept{e:TypeId}{w w':World}{g b:Nat}{zs:List Int}(h:RowAt e w g zs)(hg:w.grownBy w' (some b))(hne:g≠b):RowAt e w' g zs:=by
 have hl:=h.lt
 unfold RowAt
 rw[hg.block g hl (fun e=>hne (Option.some.inj e))];exact h
theorem Deeds.set{w:World}{b g i:Nat}{L:List (Int×Int×Int)}(h:Deeds w b L)(hne:b≠g)(x:Value):Deeds (w.setCell ⟨g,i,none⟩ x) b L:=by
 obtain ⟨es,clock,hb,r⟩:=h
 exact ⟨es,clock,by rw[Below.heap_setCell _ _ _ _ hne];exact hb,r⟩
theorem grow_set{w w':World}{r:Option Nat}{g i:Nat}(h:w.grownBy w' r)(hle:w.heap.size≤g)(x:Value):w.grownBy (w'.setCell ⟨g,i,none⟩ x) r:=by
 obtain ⟨h1,h2,h3,h4,h5⟩:=h
 have hb:Below g w' (w'.setCell ⟨g,i,none⟩ x):=(Below.refl g w').setCell (show g≤(⟨g,i,none⟩:Addr).block from Nat.le_refl g) x
 exact ⟨hb.os.trans h1,hb.tape.trans h2,hb.output.trans h3,Nat.le_trans h4 hb.size,fun k hk hne=>(hb.block k (by omega)).trans (h5 k hk hne)⟩
theorem sum_zero(p:List (List (Int×Int))):∀k,sumN (zeroN p) k=0
 |0=>rfl
 |k+1=>by unfold sumN;rw[sum_zero p k,zeroN_at]
def FrD (v:Value) (b g n:Nat) (a:Act):Prop:=∃u6 u7 u8 u9 u10 u11 u12 u13 u14 u15 u16 u17 u18 u19 u20 u21 u22 u23 u24 u25 u26 u27 u28 u29 u30 u31 u32 u33 u34 u35 u36 u37 u38 u39 u40 u41 u42 u43 u44 u45 u46 u47 u48 u49 u50 u51 u52 u53 u54 u55 u56 u57 u58 u59 u60 u61 u62 u63 u64 u65 u66:Value,a={ tmps:=#[v,.map (some b),undef,undef,.bool false,.slice (some ⟨g,0,none⟩) n n,u6,u7,u8,u9,u10,u11,u12,u13,u14,u15,u16,u17,u18,u19,u20,u21,u22,u23,u24,u25,u26,u27,u28,u29,u30,u31,u32,u33,u34,u35,u36,u37,u38,u39,u40,u41,u42,u43,u44,u45,u46,u47,u48,u49,u50,u51,u52,u53,u54,u55,u56,u57,u58,u59,u60,u61,u62,u63,u64,u65,u66],defers:=[] }
def AtL (p:List (List (Int×Int))) (v:Value) (b:Nat) (w:World) (a:Act) (w':World):Prop:=FrD v b w.heap.size p.length a∧∃(f:List Nat) (L:List (Int×Int×Int)),PassI p f 0 false∧Known p f L∧Deeds w' b L∧L.length=sumN f p.length∧RowAt 3 w' w.heap.size (natI f)∧w.grownBy w' (some b)
set_option maxHeartbeats 32000000 in
set_option maxRecDepth 1000000 in
theorem cando_any(v:Value)(p:List (List (Int×Int)))(m:Nat)(b:Nat)(w:World)(hv:IsPlan w v p)(hd:Deeds w b [])(hn1:1≤p.length)(hn6:p.length≤6)(hm:m≤12)(hst:stagesE (m:Int) p=0):Calls Tryz.prog 59 #[v,.map (some b)] w fun e w'=>e=.returned (.bool (doneB p))∧w.grownBy w' (some b):=by
 obtain ⟨a,cap,rfl,h2,h3,h4⟩:=hv
 obtain ⟨n,hn⟩:=gN (p.length)
 obtain ⟨pb,off,ha,hcl⟩:=h4.resolve_left (fun e=>by rw[e]at hn1;simp at hn1)
 subst ha
 have HP:=h_ (fun (W:World) (hg:w.grownBy W (some b)) (s:Nat) (hs:s<p.length)=>plan_cell_g hd hcl W hg hs)
 have HSTG:=h_ (show ∀s,s<p.length→actsE (stA p s) (m:Int)=0 from fun s hs=>by
  obtain ⟨l,hl⟩:=stage_at hs
  rw[stA_at hl]
  exact stagesE_in hst s l hl)
 have HST:=h_ hst
 have HD:=h_ hd
 have hbl:=hd.lt
 have HBN:=h_ (show w.heap.size≠b by omega)
 have HM:=h_ hm
 have HN:=h_ hn
 have HROW0:=h_ (show RowAt 3 (w.alloc (.cells (zeros n) 3)) w.heap.size (natI (zeroN p)) by have:=zeros_row w n;rw[←natI_zero,HN.out];exact this)
 have hmk:=run_mk (n:Int) n rfl (by omega)
 have hni:(n:Int)≤6:=by omega
 have hni1:1≤(n:Int):=by omega
 rw[hn]at h2 hn1 hn6 ⊢
 clear hcl h4 hd hm hst hn hbl
 go_enter Tryz.func59,Tryz.ntmps59
 go_wp2
 refine wp_scope_from 0 (AtL p (.slice (some ⟨pb,off,none⟩) n cap) b w) (fun _ w'=>sumN (lens p) p.length - mapSize w' b) ?_ ?_ ?_
 ·rfl
 ·go_wp2
  refine ⟨⟨_,_,_,_,_,_,_,_,_,_,_,_,_,_,_,_,_,_,_,_,_,_,_,_,_,_,_,_,_,_,_,_,_,_,_,_,_,_,_,_,_,_,_,_,_,_,_,_,_,_,_,_,_,_,_,_,_,_,_,_,_,by rw[HN.out]⟩,zeroN p,[],⟨by simp[zeroN],und_zero p,fun t _=>by rw[zeroN_at];omega,fun _ t ht=>by omega⟩,known_zero p,HD.out.u_ (o_ _ _),(sum_zero p _).symm,HROW0.out,World.grownBy_alloc _ _ _⟩
 ·clear hmk HROW0
  rintro a0 W ⟨⟨u6,u7,u8,u9,u10,u11,u12,u13,u14,u15,u16,u17,u18,u19,u20,u21,u22,u23,u24,u25,u26,u27,u28,u29,u30,u31,u32,u33,u34,u35,u36,u37,u38,u39,u40,u41,u42,u43,u44,u45,u46,u47,u48,u49,u50,u51,u52,u53,u54,u55,u56,u57,u58,u59,u60,u61,u62,u63,u64,u65,u66,rfl⟩,f,L,hpi,hkn,hdd,hll,hro,hgr⟩
  have HPI:=h_ hpi
  have HKN:=h_ hkn
  have HDD:=h_ hdd
  have HLL:=h_ hll
  have HRO:=h_ hro
  have HGR:=h_ hgr
  rw[HN.out]
  obtain ⟨g,hg⟩:=gN (w.heap.size)
  have HG:=h_ hg
  rw[hg]at HRO HBN ⊢
  clear hpi hkn hdd hll hro hgr hg
  go_wp2
  go_loopw [16] (fun sv wr=>∃(k:Nat) (xi:Int),k≤n∧xi=(k:Int)∧sv=.int .i64 xi∧Below W.heap.size W wr∧PassI p f k false) (fun sv _=>n - (intOf sv).toNat)
  case atStart=>exact ⟨0,0,Nat.zero_le _,rfl,rfl,Below.refl _ _,HPI.out⟩
  case round=>
   obtain ⟨k,xi,hk,hxi,rfl,hb,hp⟩:=hrel
   have HB:=h_ hb
   have HPK:=h_ hp
   have HXI:=h_ hxi
   have hx0:0≤xi:=by omega
   have hx6:xi≤6:=by omega
   have HGW:=h_ (show w.grownBy wr (some b) from HGR.out.trans (grow_of hb _))
   have HRW:=h_ (HRO.out.u_ hb HRO.out.lt)
   have HDW:=h_ (HDD.out.u_ hb)
   clear hb hp hxi
   by_cases hlt:xi<(n:Int)
   ·obtain ⟨la,lc,hce,hac⟩:=HP.out wr HGW.out k (by have:=HXI.out;have:=HN.out;omega)
    have cn:wr.cell? ⟨g,xi.toNat,none⟩=some (.int .i64 (atN f k:Int)):=by rw[show xi.toNat=k by have:=HXI.out;omega];exact HRW.out.cell (natI_at (by have:=HPK.out.len;have:=HN.out;have:=HXI.out;omega))
    rw[show k=xi.toNat by have:=HXI.out;omega]at hce
    have hbd:=HPK.out.bd k (by have:=HN.out;have:=HXI.out;omega)
    rw[lens_at]at hbd
    obtain ⟨q1,q2,q3,q4⟩:=actsE_in (HSTG.out k (by have:=HN.out;have:=HXI.out;omega))
    have hl24:=acts_len q1 q2
    have HAC:=h_ (And.intro q1 q2)
    clear q1 q2 q3 q4
    obtain ⟨ln,hln⟩:=gN ((stA p k).length)
    rw[show (stA p xi.toNat).length=ln by rw[←hln,show xi.toNat=k by have:=HXI.out;omega]]at hce
    obtain ⟨fk,hfk⟩:∃x:Nat,atN f k=x:=⟨_,rfl⟩
    rw[hfk]at cn hbd
    rw[hln]at hbd hac hl24
    have hl30:ln≤30:=by have:=HM.out;omega
    have HLN:=h_ hln
    have HFK:=h_ hfk
    clear hln hfk hl24
    by_cases hin:fk=ln
    ·have HU:=h_ (HPK.out.next (can_out (by rw[HLN.out,HFK.out];omega)))
     subst hin
     clear hac
     go_wp2
     go_roundw
     case rel=>exact ⟨k+1,_,by have:=HXI.out;omega,by have:=HXI.out;omega,rfl,HB.out,HU.out⟩
     case measure=>have:=HXI.out;simp[intOf];omega
    ·have nin:((fk:Int)==(ln:Int))=false:=by simp;omega
     have hfl:(fk:Int)<(ln:Int):=by omega
     clear hin
     obtain ⟨x,hx⟩:=act_at (l:=stA p k) (i:=fk) (by have:=HLN.out;omega)
     obtain ⟨ra,rc,hre,r2,r3,r4⟩:=id hac
     have hra:=(Value.slice.inj hre).1
     subst hra
     obtain ⟨b2,off2,ha2,hcl2⟩:=r4.resolve_left (fun e=>by rw[e]at hx;simp at hx)
     subst ha2
     obtain ⟨d1,d2⟩:=hcl2 fk x hx
     have hok:=HAC.out.1 x (List.mem_of_getElem? hx)
     obtain ⟨ak,am⟩:=x
     dsimp only at d1 d2
     obtain ⟨o1,o2,o3,o4⟩:=hok
     dsimp only at o1 o2 o3 o4
     have HX:=h_ (show (stA p k)[atN f k]?=some (ak,am) by rw[HFK.out];exact hx)
     have HOKD:=h_ (show okD (xi,ak,am) from ⟨hx0,by show xi≤100;omega,by show 0≤ak;omega,by show ak≤100;omega,o3,by show am≤100;have:=HM.out;omega⟩)
     have HRD:=h_ (rdy_iff HST.out HKN.out (s:=k) (by have:=HN.out;have:=HXI.out;omega) HX.out)
     rw[HN.out,←HXI.out]at HRD
     dsimp only at HRD
     have HCA:=h_ (ready_any xi ak am (n:Int) b L (wr.alloc (.cells #[.int .i64 xi,.int .i64 ak,.int .i64 am] 177)) (HDW.out.u_ (o_ _ _)) (by omega) ⟨hx0,hlt,hni⟩ ⟨o3,by have:=HM.out;omega⟩)
     obtain ⟨q,hq⟩:=gN (rdy L (n:Int) xi ak am)
     rw[hq]at HCA HRD
     clear hac hre r2 r3 r4 hcl2 hx hq o1 o2 o3 o4
     cases q
     ·have HU:=h_ (HPK.out.next (fun e=>by have:=HRD.out.2 e;cases this))
      go_wp2_with (go_at_call 92;refine HCA.out.mono ?_;rintro e w1 ⟨rfl,hb1⟩)
      have HB1:=h_ (below_go (below_go HB.out (o_ _ _)) hb1)
      clear hb1
      go_wp2
      go_roundw
      case rel=>exact ⟨k+1,_,by have:=HXI.out;omega,by have:=HXI.out;omega,rfl,HB1.out,HU.out⟩
      case measure=>have:=HXI.out;simp[intOf];omega
     ·have HCAN:=h_ (HRD.out.1 rfl)
      have HNEW:=h_ (show (xi,ak,am) ∉ L by have:=known_new HKN.out (s:=k) (by have:=HN.out;have:=HXI.out;omega) HAC.out.2 HX.out;rw[←HXI.out]at this;exact this)
      have HKS:=h_ (show Known p (bump f k) (L++[(xi,ak,am)]) by have:=known_step HKN.out HPK.out.len (s:=k) (by have:=HN.out;have:=HXI.out;omega) HX.out;rw[←HXI.out]at this;exact this)
      have HPS:=h_ (HPK.out.step HCAN.out)
      have HSM:=h_ (sum_step HPK.out HCAN.out)
      go_wp2_with (first|(go_at_call 92;refine HCA.out.mono ?_;rintro e w1 ⟨rfl,hb1⟩;obtain ⟨z0,z1,z2⟩:=pn_new3 wr (.int .i64 xi) (.int .i64 ak) (.int .i64 am) 177 hb1 (B:=wr.heap.size) rfl;have HB1:=h_ (below_go (o_ wr (.cells #[.int .i64 xi,.int .i64 ak,.int .i64 am] 177)) hb1);clear hb1))
      refine (dadd_any b xi ak am _ _ (HDW.out.u_ HB1.out) HOKD.out HNEW.out).mono ?_
      rintro e w2 ⟨rfl,hd2,hg2⟩
      have HG2:=h_ (HGW.out.trans ((grow_of HB1.out (some b)).trans hg2))
      have HD2:=h_ hd2
      have HR2:=h_ ((HRW.out.u_ HB1.out HRW.out.lt).kept hg2 HBN.out)
      have cn2:w2.cell? ⟨g,xi.toNat,none⟩=some (.int .i64 (fk:Int)):=by rw[show xi.toNat=k by have:=HXI.out;omega,←HFK.out];exact HR2.out.cell (natI_at (by have:=HPK.out.len;have:=HN.out;have:=HXI.out;omega))
      have fz2:w2.frozen? ⟨g,xi.toNat,none⟩=false:=HR2.out.frozen _
      clear hd2 hg2
      go_wp2
      go_step3
      have HNB:b≠g:=fun e=>HBN.out e.symm
      have HDF:=h_ (HD2.out.set (i:=xi.toNat) HNB (.int .i64 ((fk:Int)+1)))
      have HRF:=h_ (show RowAt 3 (w2.setCell ⟨g,xi.toNat,none⟩ (.int .i64 ((fk:Int)+1))) g (natI (bump f k)) by rw[←natI_bump,←show xi.toNat=k by have:=HXI.out;omega,show atN f xi.toNat=fk by rw[←HFK.out,show xi.toNat=k by have:=HXI.out;omega]];exact HR2.out.set _ _)
      have HLF:=h_ (show (L++[(xi,ak,am)]).length=sumN (bump f k) p.length by rw[HSM.out,List.length_append,HLL.out];rfl)
      show (0=0∧AtL p (.slice (some ⟨pb,off,none⟩) n cap) b w _ _∧sumN (lens p) n - mapSize _ b<sumN (lens p) n - mapSize W b)
      refine ⟨rfl,⟨⟨_,_,_,_,_,_,_,_,_,_,_,_,_,_,_,_,_,_,_,_,_,_,_,_,_,_,_,_,_,_,_,_,_,_,_,_,_,_,_,_,_,_,_,_,_,_,_,_,_,_,_,_,_,_,_,_,_,_,_,_,_,by rw[HN.out,HG.out]⟩,bump f k,L++[(xi,ak,am)],HPS.out.first,HKS.out,HDF.out,HLF.out,by rw[HG.out];exact HRF.out,grow_set HG2.out (by rw[HG.out];exact Nat.le_refl _) _⟩,?_⟩
      rw[HDF.out.size,HDD.out.size,HLF.out,HLL.out]
      have h1:=HPS.out.sum
      have h2:=HSM.out
      rw[HN.out]at h1 h2 ⊢
      omega
   ·have HCL:=h_ (show PassI p f p.length false by rw[HN.out,show n=k by have:=HXI.out;omega];exact HPK.out)
    obtain ⟨V,hV⟩:=gM (wr)
    subst hV
    go_wp2
    go_loopw [54] (fun sv w3=>∃(j:Nat) (xj:Int),j≤n∧xj=(j:Int)∧sv=.int .i64 xj∧w3=V∧∀t,t<j→atN f t=(stA p t).length) (fun sv _=>n - (intOf sv).toNat)
    case atStart=>exact ⟨0,0,Nat.zero_le _,rfl,rfl,rfl,fun t ht=>by omega⟩
    case round=>
     obtain ⟨j,xj,hj,hxj,rfl,hw3,he⟩:=hrel
     subst hw3
     have HE:=h_ he
     have HXJ:=h_ hxj
     have hy0:0≤xj:=by omega
     have hy6:xj≤6:=by omega
     clear he hxj
     by_cases hlt2:xj<(n:Int)
     ·obtain ⟨la,lc,hce,_⟩:=HP.out wr HGW.out j (by have:=HXJ.out;have:=HN.out;omega)
      have cn:wr.cell? ⟨g,xj.toNat,none⟩=some (.int .i64 (atN f j:Int)):=by rw[show xj.toNat=j by have:=HXJ.out;omega];exact HRW.out.cell (natI_at (by have:=HPK.out.len;have:=HN.out;have:=HXJ.out;omega))
      rw[show j=xj.toNat by have:=HXJ.out;omega]at hce
      have hbd:=HPK.out.bd j (by have:=HN.out;have:=HXJ.out;omega)
      rw[lens_at]at hbd
      obtain ⟨ln,hln⟩:=gN ((stA p j).length)
      rw[show (stA p xj.toNat).length=ln by rw[←hln,show xj.toNat=j by have:=HXJ.out;omega]]at hce
      obtain ⟨fk,hfk⟩:∃x:Nat,atN f j=x:=⟨_,rfl⟩
      rw[hfk]at cn hbd
      rw[hln]at hbd
      have HLN:=h_ hln
      have HFK:=h_ hfk
      clear hln hfk
      by_cases hsh:(fk:Int)<(ln:Int)
      ·have HA:=h_ (show false=doneB p by
        rw[eq_comm,Bool.eq_false_iff]
        intro e
        have:=HCL.out.end_.1 e j (by have:=HN.out;have:=HXJ.out;omega)
        rw[HLN.out,HFK.out]at this;omega)
       go_wp2
       simp only[Exit.jump]
       go_ret
       exact ⟨ret_bool HA.out,HGW.out⟩
      ·have HU:=h_ (show ∀t,t<j+1→atN f t=(stA p t).length by
        intro t ht
        rcases Nat.lt_or_ge t j with h|h
        ·exact HE.out t h
        ·rw[show t=j by omega,HLN.out,HFK.out];omega)
       go_wp2
       go_roundw
       case rel=>exact ⟨j+1,_,by have:=HXJ.out;omega,by have:=HXJ.out;omega,rfl,by first|rfl|trivial,HU.out⟩
       case measure=>have:=HXJ.out;simp[intOf];omega
     ·have HA:=h_ (show true=doneB p by
       rw[eq_comm]
       exact HCL.out.end_.2 (fun t ht=>HE.out t (by have:=HN.out;have:=HXJ.out;omega)))
      go_wp2
      simp only[Exit.jump]
      go_ret
      exact ⟨ret_bool HA.out,HGW.out⟩
end Go.Proofs.YtniloklglpchfakGreat
