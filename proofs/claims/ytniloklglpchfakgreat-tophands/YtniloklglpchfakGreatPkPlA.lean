/- Plans as plain data, and how they lie in memory; which plans can be done. No program in sight. -/
import Derived.Test.YtniloklglpchfakGreatPkMbC
import Derived.Test.YtniloklglpchfakGreatRows
import Derived.Deep.RegionHeld3
import Derived.Test.YtniloklglpchfakGreatPkFix
import Derived.Deep.LoopGhost
import Derived.Laws.AppendOwn
import Derived.Maps.Keyed
import Derived.Maps.OwnSet
import Derived.DeepKeys4
namespace Go.Proofs.YtniloklglpchfakGreat
open Go.RowKit
def IsActs (w:World) (v:Value) (l:List (Int×Int)):Prop:=
 ∃(a:Option Addr) (cap:Nat),v=.slice a l.length cap∧l.length≤cap∧cap≤maxLen∧(l=[]∨∃b off,a=some ⟨b,off,none⟩∧∀i x,l[i]?=some x→w.cell? ⟨b,off+i*2,none⟩=some (.int .i64 x.1)∧w.cell? ⟨b,off+i*2+1,none⟩=some (.int .i64 x.2))
theorem cell_bel{w w':World}(hb:Below w.heap.size w w'){p:Addr}{v:Value}(h:w.cell? p=some v):w'.cell? p=some v:=
 (hb.cell (p:=p) (World.block_lt_of_cell? w _ h)).trans h
theorem IsActs.u_{w w':World}{v:Value}{l:List (Int×Int)}(h:IsActs w v l)(hb:Below w.heap.size w w'):IsActs w' v l:=by
 obtain ⟨a,cap,h1,h2,h3,h4⟩:=h
 refine ⟨a,cap,h1,h2,h3,h4.imp id ?_⟩
 rintro ⟨b,off,ha,hc⟩
 exact ⟨b,off,ha,fun i x hx=>⟨cell_bel hb (hc i x hx).1,cell_bel hb (hc i x hx).2⟩⟩
theorem IsActs.len{w:World}{v:Value}{l:List (Int×Int)}(h:IsActs w v l):l.length≤maxLen:=by obtain ⟨_,_,_,h2,h3,_⟩:=h;omega
theorem IsActs.shape{w:World}{v:Value}{l:List (Int×Int)}(h:IsActs w v l):∃a cap,v=.slice a l.length cap:=by obtain ⟨a,cap,h1,_⟩:=h;exact ⟨a,cap,h1⟩
theorem IsActs.nil(w:World):IsActs w (.slice none 0 0) []:=⟨none,0,rfl,Nat.le_refl _,Nat.zero_le _,.inl rfl⟩
def IsPlan (w:World) (v:Value) (p:List (List (Int×Int))):Prop:=
 ∃(a:Option Addr) (cap:Nat),v=.slice a p.length cap∧p.length≤cap∧cap≤maxLen∧(p=[]∨∃b off,a=some ⟨b,off,none⟩∧∀i l,p[i]?=some l→∃s,w.cell? ⟨b,off+i,none⟩=some s∧IsActs w s l)
theorem IsPlan.u_{w w':World}{v:Value}{p:List (List (Int×Int))}(h:IsPlan w v p)(hb:Below w.heap.size w w'):IsPlan w' v p:=by
 obtain ⟨a,cap,h1,h2,h3,h4⟩:=h
 refine ⟨a,cap,h1,h2,h3,h4.imp id ?_⟩
 rintro ⟨b,off,ha,hc⟩
 refine ⟨b,off,ha,fun i l hl=>?_⟩
 obtain ⟨s,hs,hi⟩:=hc i l hl
 exact ⟨s,cell_bel hb hs,hi.u_ hb⟩
theorem IsPlan.len{w:World}{v:Value}{l:List (List (Int×Int))}(h:IsPlan w v l):l.length≤maxLen:=by obtain ⟨_,_,_,h2,h3,_⟩:=h;omega
theorem IsPlan.nil(w:World):IsPlan w (.slice none 0 0) []:=⟨none,0,rfl,Nat.le_refl _,Nat.zero_le _,.inl rfl⟩
theorem act_at{l:List (Int×Int)}{i:Nat}(h:i<l.length):∃x,l[i]?=some x:=⟨l[i],List.getElem?_eq_getElem h⟩
theorem stage_at{p:List (List (Int×Int))}{i:Nat}(h:i<p.length):∃l,p[i]?=some l:=⟨p[i],List.getElem?_eq_getElem h⟩
def okA (m:Int) (a:Int×Int):Prop:=1≤a.1∧a.1≤2∧0≤a.2∧a.2<m
def apart (l:List (Int×Int)):Prop:=∀(i k:Nat) (x y:Int×Int),k<i→l[i]?=some x→l[k]?=some y→x≠y
def ahead (l:List (Int×Int)):Prop:=∀(i k:Nat) (x y:Int×Int),k<i→l[i]?=some x→l[k]?=some y→¬(x.2=y.2∧y.1=2)
def okAB (m:Int) (a:Int×Int):Bool:=decide (1≤a.1)&&decide (a.1≤2)&&decide (0≤a.2)&&decide (a.2<m)
theorem okAB_iff{m:Int}{a:Int×Int}:okAB m a=true↔okA m a:=by simp[okAB,okA,and_assoc]
def apartB:List (Int×Int)→Bool
 |[]=>true
 |x::t=>(!decide (x∈t))&&apartB t
theorem apart_cons{x:Int×Int}{t:List (Int×Int)}:apart (x::t)↔x ∉ t∧apart t:=by
 constructor
 ·intro h
  refine ⟨fun hx=>?_,fun i k y z hk hy hz=>h (i+1) (k+1) y z (by omega) (by simpa using hy) (by simpa using hz)⟩
  obtain ⟨i,hi⟩:=List.getElem?_of_mem hx
  exact h (i+1) 0 x x (by omega) (by simpa using hi) rfl rfl
 ·rintro ⟨h1,h2⟩ i k y z hk hy hz
  cases i with
  |zero=>omega
  |succ i=>
   have hy':t[i]?=some y:=by simpa using hy
   cases k with
   |zero=>
    have hz':x=z:=by simpa using hz
    subst hz'
    exact fun e=>h1 (by rw[←e];exact List.mem_of_getElem? hy')
   |succ k=>exact h2 i k y z (by omega) hy' (by simpa using hz)
theorem apartB_iff:∀{l:List (Int×Int)},apartB l=true↔apart l
 |[]=>by simp[apartB,apart]
 |x::t=>by rw[apart_cons,←apartB_iff (l:=t)];simp[apartB]
def aheadB:List (Int×Int)→Bool
 |[]=>true
 |y::t=>(!(decide (y.1=2)&&t.any (fun x=>decide (x.2=y.2))))&&aheadB t
theorem ahead_cons{y:Int×Int}{t:List (Int×Int)}:ahead (y::t)↔(y.1=2→∀x∈t,x.2≠y.2)∧ahead t:=by
 constructor
 ·intro h
  refine ⟨fun hy x hx e=>?_,fun i k x z hk hx hz=>h (i+1) (k+1) x z (by omega) (by simpa using hx) (by simpa using hz)⟩
  obtain ⟨i,hi⟩:=List.getElem?_of_mem hx
  exact h (i+1) 0 x y (by omega) (by simpa using hi) rfl ⟨e,hy⟩
 ·rintro ⟨h1,h2⟩ i k x z hk hx hz
  cases i with
  |zero=>omega
  |succ i=>
   have hx':t[i]?=some x:=by simpa using hx
   cases k with
   |zero=>
    have hz':y=z:=by simpa using hz
    subst hz'
    exact fun e=>h1 e.2 x (List.mem_of_getElem? hx') e.1
   |succ k=>exact h2 i k x z (by omega) hx' (by simpa using hz)
theorem aheadB_iff:∀{l:List (Int×Int)},aheadB l=true↔ahead l
 |[]=>by simp[aheadB,ahead]
 |x::t=>by
  rw[ahead_cons,←aheadB_iff (l:=t)]
  by_cases h:x.1=2<;>simp[aheadB,h]
def actsE (l:List (Int×Int)) (m:Int):Int:=if ¬(l.all (okAB m)=true) then 1 else if ¬(apartB l=true) then 8 else if (l.length:Int)<2*m then 2 else if ¬(aheadB l=true) then 5 else 0
theorem allB_iff{l:List (Int×Int)}{m:Int}:l.all (okAB m)=true↔∀x∈l,okA m x:=by
 rw[List.all_eq_true];exact ⟨fun h x hx=>okAB_iff.1 (h x hx),fun h x hx=>okAB_iff.2 (h x hx)⟩
theorem actsE_one{l:List (Int×Int)}{m:Int}{i:Nat}{x:Int×Int}(h:l[i]?=some x)(hx:¬okA m x):1=actsE l m:=by
 unfold actsE;rw[if_pos];exact fun e=>hx (allB_iff.1 e x (List.mem_of_getElem? h))
theorem all_okA{l:List (Int×Int)}{m:Int}(h:∀i x,i<l.length→l[i]?=some x→okA m x):∀x∈l,okA m x:=fun x hx=>by
 obtain ⟨i,hi,rfl⟩:=List.getElem_of_mem hx
 exact h i _ hi (List.getElem?_eq_getElem hi)
theorem actsE_two{l:List (Int×Int)}{m:Int}(h:∀x∈l,okA m x)(h2:¬apart l):8=actsE l m:=by unfold actsE;rw[if_neg (fun e=>e (allB_iff.2 h)),if_pos (fun e=>h2 (apartB_iff.1 e))]
theorem actsE_less{l:List (Int×Int)}{m:Int}(h:∀x∈l,okA m x)(h2:apart l)(h3:(l.length:Int)<2*m):2=actsE l m:=by unfold actsE;rw[if_neg (fun e=>e (allB_iff.2 h)),if_neg (fun e=>e (apartB_iff.2 h2)),if_pos h3]
theorem actsE_back{l:List (Int×Int)}{m:Int}(h:∀x∈l,okA m x)(h2:apart l)(h3:¬(l.length:Int)<2*m)(h4:¬ahead l):5=actsE l m:=by unfold actsE;rw[if_neg (fun e=>e (allB_iff.2 h)),if_neg (fun e=>e (apartB_iff.2 h2)),if_neg h3,if_pos (fun e=>h4 (aheadB_iff.1 e))]
theorem actsE_ok{l:List (Int×Int)}{m:Int}(h:∀x∈l,okA m x)(h2:apart l)(h3:¬(l.length:Int)<2*m)(h4:ahead l):0=actsE l m:=by unfold actsE;rw[if_neg (fun e=>e (allB_iff.2 h)),if_neg (fun e=>e (apartB_iff.2 h2)),if_neg h3,if_neg (fun e=>e (aheadB_iff.2 h4))]
theorem actsE_in{l:List (Int×Int)}{m:Int}(h:actsE l m=0):(∀x∈l,okA m x)∧apart l∧¬(l.length:Int)<2*m∧ahead l:=by
 unfold actsE at h
 by_cases c1:l.all (okAB m)=true
 ·rw[if_neg (fun e=>e c1)]at h
  by_cases c2:apartB l=true
  ·rw[if_neg (fun e=>e c2)]at h
   by_cases c3:(l.length:Int)<2*m
   ·rw[if_pos c3]at h;cases h
   ·rw[if_neg c3]at h
    by_cases c4:aheadB l=true
    ·exact ⟨allB_iff.1 c1,apartB_iff.1 c2,c3,aheadB_iff.1 c4⟩
    ·rw[if_pos c4]at h;cases h
  ·rw[if_pos c2]at h;cases h
 ·rw[if_pos c1]at h;cases h
def codeA (m:Nat) (x:Int×Int):Nat:=(x.1.toNat - 1)*m+x.2.toNat
theorem codeA_lt{m:Nat}{x:Int×Int}(h:okA (m:Int) x):codeA m x<2*m:=by
 obtain ⟨h1,h2,h3,h4⟩:=h
 unfold codeA
 have:x.1.toNat - 1=0∨x.1.toNat - 1=1:=by omega
 rcases this with e|e<;>rw[e]<;>omega
theorem codeA_inj{m:Nat}{x y:Int×Int}(h:okA (m:Int) x)(k:okA (m:Int) y)(e:codeA m x=codeA m y):x=y:=by
 obtain ⟨h1,h2,h3,h4⟩:=h
 obtain ⟨k1,k2,k3,k4⟩:=k
 unfold codeA at e
 have a1:x.1.toNat - 1=0∨x.1.toNat - 1=1:=by omega
 have a2:y.1.toNat - 1=0∨y.1.toNat - 1=1:=by omega
 have:x.1=y.1∧x.2=y.2:=by
  rcases a1 with e1|e1<;>rcases a2 with e2|e2<;>rw[e1,e2]at e<;>omega
 exact Prod.ext this.1 this.2
theorem split_len(n:Nat)(l:List Nat):l.length=(l.filter (·≠n)).length+l.count n:=by
 induction l with
 |nil=>rfl
 |cons x l ih=>
  by_cases h:x=n
  ·subst h;simp at ih ⊢;omega
  ·rw[List.count_cons_of_ne (fun e=>h e),List.filter_cons_of_pos (by simpa using h)]
   simp at ih ⊢;omega
theorem few_nats:∀(n:Nat) (l:List Nat),l.Nodup→(∀x∈l,x<n)→l.length≤n
 |0,l,_,h=>by
  cases l with
  |nil=>simp
  |cons x l=>exact absurd (h x (by simp)) (by omega)
 |n+1,l,hd,h=>by
  have h1:(l.filter (·≠n)).length≤n:=few_nats n _ (hd.filter _) (fun x hx=>by
   have:=h x (List.mem_filter.1 hx).1
   have h2:x≠n:=by simpa using (List.mem_filter.1 hx).2
   omega)
  have h2:=split_len n l
  have h3:l.count n≤1:=List.nodup_iff_count.1 hd n
  omega
theorem apart_nodup{l:List (Int×Int)}(h:apart l):l.Nodup:=by
 rw[List.nodup_iff_pairwise_ne,List.pairwise_iff_getElem]
 intro i j hi hj hij e
 exact h j i _ _ hij (List.getElem?_eq_getElem hj) (List.getElem?_eq_getElem hi) e.symm
theorem acts_len{l:List (Int×Int)}{m:Nat}(h:∀x∈l,okA (m:Int) x)(h2:apart l):l.length≤2*m:=by
 have:=few_nats (2*m) (l.map (codeA m)) (by
  have hd:=apart_nodup h2
  rw[List.nodup_iff_pairwise_ne,List.pairwise_map]
  rw[List.nodup_iff_pairwise_ne]at hd
  exact List.Pairwise.imp_of_mem (fun hx hy hne e=>hne (codeA_inj (h _ hx) (h _ hy) e)) hd) (fun x hx=>by
  obtain ⟨y,hy,rfl⟩:=List.mem_map.1 hx
  exact codeA_lt (h y hy))
 simpa using this
theorem act_in{l:List (Int×Int)}{m:Nat}(h:∀x∈l,okA (m:Int) x)(h2:apart l)(h3:¬(l.length:Int)<2*(m:Int)){x:Int×Int}(hx:okA (m:Int) x):x∈l:=by
 rcases Classical.em (x∈l) with q|q
 ·exact q
 ·have:=acts_len (l:=x::l) (m:=m) (fun y hy=>by
   rcases List.mem_cons.1 hy with rfl|hy
   ·exact hx
   ·exact h y hy) (apart_cons.2 ⟨q,h2⟩)
  simp at this
  omega
end Go.Proofs.YtniloklglpchfakGreat
/- Which plans can be done: whoever goes on as far as anybody can comes to the same end. No Go in sight. -/
namespace Go.Proofs.YtniloklglpchfakGreat
def atN (f:List Nat) (s:Nat):Nat:=(f[s]?).getD 0
def stA (p:List (List (Int×Int))) (s:Nat):List (Int×Int):=(p[s]?).getD []
theorem stA_at{p:List (List (Int×Int))}{s:Nat}{l:List (Int×Int)}(h:p[s]?=some l):stA p s=l:=by unfold stA;rw[h];rfl
theorem stA_out{p:List (List (Int×Int))}{s:Nat}(h:p.length≤s):stA p s=[]:=by unfold stA;rw[List.getElem?_eq_none h];rfl
def whr (a:Int×Int):List (Int×Int)→Int
 |[]=>-1
 |x::t=>if x=a then 0 else if whr a t=-1 then -1 else whr a t+1
theorem whr_at{a:Int×Int}:∀{l:List (Int×Int)} {i:Nat},l[i]?=some a→(∀j x,j<i→l[j]?=some x→x≠a)→whr a l=(i:Int)
 |[],i,h,_=>by simp at h
 |x::t,0,h,_=>by
  have:x=a:=by simpa using h
  unfold whr;rw[if_pos this];rfl
 |x::t,i+1,h,hn=>by
  have hx:x≠a:=hn 0 x (by omega) rfl
  have:=whr_at (l:=t) (i:=i) (by simpa using h) (fun j y hj hy=>hn (j+1) y (by omega) (by simpa using hy))
  unfold whr
  rw[if_neg hx,this,if_neg (by omega)]
  omega
def nbA (a:Int×Int) (s k:Nat):Prop:=(a.1=2∧k=s+1)∨(a.1≠2∧k+1=s)
def Can (p:List (List (Int×Int))) (f:List Nat) (s:Nat):Prop:=∃a,(stA p s)[atN f s]?=some a∧∀k,k<p.length→nbA a s k→whr a (stA p k)<(atN f k:Int)
def Closed (p:List (List (Int×Int))) (g:List Nat):Prop:=∀s,s<p.length→¬Can p g s
def Und (p:List (List (Int×Int))) (f:List Nat):Prop:=∀g,Closed p g→∀s,s<p.length→atN f s≤atN g s
def bump (f:List Nat) (s:Nat):List Nat:=f.set s (atN f s+1)
theorem Can.lt{p:List (List (Int×Int))}{f:List Nat}{s:Nat}(h:Can p f s):s<p.length∧atN f s<(stA p s).length:=by
 obtain ⟨a,h1,_⟩:=h
 have:=(List.getElem?_eq_some_iff.1 h1).1
 refine ⟨?_,this⟩
 rcases Nat.lt_or_ge s p.length with q|q
 ·exact q
 ·rw[stA_out q]at this;simp at this
theorem atN_bump{f:List Nat}{s:Nat}(h:s<f.length)(t:Nat):atN (bump f s) t=if t=s then atN f s+1 else atN f t:=by
 unfold bump atN
 rw[List.getElem?_set]
 by_cases e:t=s
 ·subst e;rw[if_pos rfl,if_pos rfl,if_pos h];rfl
 ·rw[if_neg (fun q=>e q.symm),if_neg e]
theorem bump_len(f:List Nat)(s:Nat):(bump f s).length=f.length:=by simp[bump]
theorem Und.step{p:List (List (Int×Int))}{f:List Nat}{s:Nat}(h:Und p f)(hl:f.length=p.length)(hc:Can p f s):Und p (bump f s):=by
 intro g hg t ht
 have hs:=hc.lt.1
 rw[atN_bump (by omega)]
 by_cases e:t=s
 ·subst e
  rw[if_pos rfl]
  have h1:=h g hg t ht
  rcases Nat.lt_or_ge (atN f t) (atN g t) with q|q
  ·exact q
  ·have e1:atN f t=atN g t:=by omega
   obtain ⟨a,c1,c2⟩:=hc
   exact absurd ⟨a,by rw[←e1];exact c1,fun k hk hn=>by have:=c2 k hk hn;have:=h g hg k hk;omega⟩ (hg t ht)
 ·rw[if_neg e];exact h g hg t ht
def zeroN (p:List (List (Int×Int))):List Nat:=List.replicate p.length 0
theorem zeroN_at(p:List (List (Int×Int)))(s:Nat):atN (zeroN p) s=0:=by
 unfold atN zeroN
 rw[List.getElem?_replicate]
 split<;>rfl
theorem und_zero(p:List (List (Int×Int))):Und p (zeroN p):=fun g _ s _=>by rw[zeroN_at];omega
theorem Und.same{p:List (List (Int×Int))}{f g:List Nat}(h:Und p f)(hf:Closed p f)(k:Und p g)(hg:Closed p g){s:Nat}(hs:s<p.length):atN f s=atN g s:=by
 have:=h g hg s hs
 have:=k f hf s hs
 omega
def nbB (a:Int×Int) (s k:Nat):Bool:=(decide (a.1=2)&&decide (k=s+1))||(decide (a.1≠2)&&decide (k+1=s))
theorem nbB_iff{a:Int×Int}{s k:Nat}:nbB a s k=true↔nbA a s k:=by simp[nbB,nbA]
def canB (p:List (List (Int×Int))) (f:List Nat) (s:Nat):Bool:=
 match (stA p s)[atN f s]? with
 |none=>false
 |some a=>(List.range p.length).all (fun k=>!(nbB a s k)||decide (whr a (stA p k)<(atN f k:Int)))
theorem canB_iff{p:List (List (Int×Int))}{f:List Nat}{s:Nat}:canB p f s=true↔Can p f s:=by
 unfold canB Can
 cases h:(stA p s)[atN f s]? with
 |none=>simp
 |some a=>
  simp only[List.all_eq_true,List.mem_range]
  constructor
  ·intro q
   refine ⟨a,rfl,fun k hk hn=>?_⟩
   have:=q k hk
   rw[nbB_iff.2 hn]at this
   simpa using this
  ·rintro ⟨b,e,q⟩ k hk
   have e:=Option.some.inj e
   subst e
   cases hb:nbB a s k with
   |false=>rfl
   |true=>simpa using q k hk (nbB_iff.1 hb)
def fin (p:List (List (Int×Int))):Nat→List Nat→List Nat
 |0,f=>f
 |n+1,f=>match (List.range p.length).find? (fun s=>canB p f s) with
  |none=>f
  |some s=>fin p n (bump f s)
def sumN (f:List Nat):Nat→Nat
 |0=>0
 |k+1=>sumN f k+atN f k
def lens (p:List (List (Int×Int))):List Nat:=p.map List.length
theorem lens_at(p:List (List (Int×Int)))(s:Nat):atN (lens p) s=(stA p s).length:=by
 unfold atN lens stA
 rw[List.getElem?_map]
 cases p[s]?<;>rfl
theorem sumN_bump{f:List Nat}{s:Nat}(h:s<f.length):∀k,sumN (bump f s) k=sumN f k+if s<k then 1 else 0
 |0=>by simp[sumN]
 |k+1=>by
  have:=sumN_bump h k
  unfold sumN
  rw[this,atN_bump h]
  by_cases e:k=s
  ·subst e;rw[if_pos rfl,if_neg (by omega),if_pos (by omega)];omega
  ·rw[if_neg e]
   by_cases q:s<k
   ·rw[if_pos q,if_pos (by omega)];omega
   ·rw[if_neg q,if_neg (by omega)];omega
theorem sumN_le{f g:List Nat}{k:Nat}(h:∀s,s<k→atN f s≤atN g s):sumN f k≤sumN g k:=by
 induction k with
 |zero=>exact Nat.le_refl _
 |succ k ih=>have:=ih (fun s hs=>h s (by omega));have:=h k (by omega);unfold sumN;omega
theorem sumN_eq{f g:List Nat}{k:Nat}(h:∀s,s<k→atN f s≤atN g s)(e:sumN g k≤sumN f k):∀s,s<k→atN f s=atN g s:=by
 induction k with
 |zero=>intro s hs;omega
 |succ k ih=>
  have h1:=sumN_le (k:=k) (fun s hs=>h s (by omega))
  have h2:=h k (by omega)
  unfold sumN at e
  intro s hs
  rcases Nat.lt_or_ge s k with q|q
  ·exact ih (fun s hs=>h s (by omega)) (by omega) s q
  ·obtain rfl:s=k:=by omega
   omega
theorem fin_ok{p:List (List (Int×Int))}:∀{n:Nat} {f:List Nat},f.length=p.length→Und p f→(∀s,s<p.length→atN f s≤atN (lens p) s)→sumN (lens p) p.length≤sumN f p.length+n→Und p (fin p n f)∧Closed p (fin p n f)
 |0,f,hl,hu,hb,hs=>by
  show Und p f∧Closed p f
  refine ⟨hu,fun s hs' hc=>?_⟩
  have:=sumN_eq hb (by omega) s hs'
  rw[lens_at]at this
  have:=hc.lt.2
  omega
 |n+1,f,hl,hu,hb,hs=>by
  unfold fin
  cases h:(List.range p.length).find? (fun s=>canB p f s) with
  |none=>
   refine ⟨hu,fun s hs' hc=>?_⟩
   have:=List.find?_eq_none.1 h s (List.mem_range.2 hs')
   exact this (canB_iff.2 hc)
  |some s=>
   have hc:=canB_iff.1 (List.find?_some h)
   have hsl:=hc.lt
   refine fin_ok (by rw[bump_len];exact hl) (hu.step hl hc) (fun t ht=>?_) ?_
   ·rw[atN_bump (by omega)]
    by_cases e:t=s
    ·subst e;rw[if_pos rfl,lens_at];exact hsl.2
    ·rw[if_neg e];exact hb t ht
   ·rw[sumN_bump (by omega),if_pos hsl.1];omega
def doneB (p:List (List (Int×Int))):Bool:=(List.range p.length).all (fun s=>atN (fin p (sumN (lens p) p.length) (zeroN p)) s==(stA p s).length)
theorem done_iff{p:List (List (Int×Int))}{f:List Nat}(h:Und p f)(hf:Closed p f):doneB p=true↔∀s,s<p.length→atN f s=(stA p s).length:=by
 obtain ⟨k1,k2⟩:=fin_ok (p:=p) (n:=sumN (lens p) p.length) (f:=zeroN p) (by simp[zeroN]) (und_zero p) (fun s _=>by rw[zeroN_at];omega) (by omega)
 unfold doneB
 rw[List.all_eq_true]
 constructor
 ·intro q s hs
  have:=q s (List.mem_range.2 hs)
  rw[h.same hf k1 k2 hs]
  simpa using this
 ·intro q s hs
  have hs:=List.mem_range.1 hs
  have:=q s hs
  rw[h.same hf k1 k2 hs]at this
  simpa using this
def stagesE (m:Int):List (List (Int×Int))→Int
 |[]=>0
 |l::t=>if actsE l m=0 then stagesE m t else actsE l m
theorem stagesE_at{m:Int}:∀{p:List (List (Int×Int))} {k:Nat} {l:List (Int×Int)},(∀j x,j<k→p[j]?=some x→actsE x m=0)→p[k]?=some l→actsE l m≠0→actsE l m=stagesE m p
 |[],k,l,_,h,_=>by simp at h
 |x::t,0,l,_,h,hm=>by
  have:x=l:=by simpa using h
  subst this;unfold stagesE;rw[if_neg hm]
 |x::t,k+1,l,hz,h,hm=>by
  unfold stagesE
  rw[if_pos (hz 0 x (by omega) rfl)]
  exact stagesE_at (p:=t) (k:=k) (fun j y hj hy=>hz (j+1) y (by omega) (by simpa using hy)) (by simpa using h) hm
theorem stagesE_no{m:Int}:∀{p:List (List (Int×Int))},(∀(j:Nat) x,p[j]?=some x→actsE x m=0)→0=stagesE m p
 |[],_=>rfl
 |x::t,hz=>by
  unfold stagesE
  rw[if_pos (hz 0 x rfl)]
  exact stagesE_no (p:=t) (fun j y hy=>hz (j+1) y (by simpa using hy))
theorem stagesE_in{m:Int}:∀{p:List (List (Int×Int))},stagesE m p=0→∀(j:Nat) x,p[j]?=some x→actsE x m=0
 |[],_,j,x,h=>by simp at h
 |l::t,hz,j,x,h=>by
  unfold stagesE at hz
  by_cases c:actsE l m=0
  ·rw[if_pos c]at hz
   cases j with
   |zero=>
    have:l=x:=by simpa using h
    subst this;exact c
   |succ j=>exact stagesE_in hz j x (by simpa using h)
  ·rw[if_neg c]at hz;exact absurd hz c
def rangeP (p:List (List (Int×Int))) (m:Int):Prop:=m<1∨12<m∨(p.length:Int)<1∨6<(p.length:Int)
def planE (p:List (List (Int×Int))) (m:Int):Int:=if m<1∨12<m∨(p.length:Int)<1∨6<(p.length:Int) then 1 else if stagesE m p=0 then (if doneB p=true then 0 else 6) else stagesE m p
theorem planE_far{p:List (List (Int×Int))}{m:Int}(h:rangeP p m):1=planE p m:=by unfold planE;rw[if_pos (show m<1∨12<m∨(p.length:Int)<1∨6<(p.length:Int) from h)]
theorem planE_acts{p:List (List (Int×Int))}{m:Int}(h:¬rangeP p m)(h1:stagesE m p≠0):stagesE m p=planE p m:=by unfold planE;rw[if_neg (show ¬(m<1∨12<m∨(p.length:Int)<1∨6<(p.length:Int)) from h),if_neg h1]
theorem planE_end{p:List (List (Int×Int))}{m:Int}(h:¬rangeP p m)(h1:stagesE m p=0):planE p m=if doneB p=true then 0 else 6:=by unfold planE;rw[if_neg (show ¬(m<1∨12<m∨(p.length:Int)<1∨6<(p.length:Int)) from h),if_pos h1]
theorem take_iff{l:List (Int×Int)}(ha:apart l){i:Nat}{x:Int×Int}(h:l[i]?=some x)(n:Nat):x∈l.take n↔i<n:=by
 constructor
 ·intro hm
  obtain ⟨k,hk⟩:=List.getElem?_of_mem hm
  have hlt:k<n:=by
   have:=(List.getElem?_eq_some_iff.1 hk).1
   rw[List.length_take]at this
   omega
  rw[List.getElem?_take,if_pos hlt]at hk
  rcases Nat.lt_trichotomy i k with q|q|q
  ·exact absurd rfl (ha k i x x q hk h)
  ·omega
  ·exact absurd rfl (ha i k x x q h hk)
 ·intro hi
  exact List.mem_of_getElem? (i:=i) (by rw[List.getElem?_take,if_pos hi];exact h)
theorem whr_idx{l:List (Int×Int)}(ha:apart l){i:Nat}{x:Int×Int}(h:l[i]?=some x):whr x l=(i:Int):=whr_at h (fun j y hj hy e=>ha i j x y hj h hy e.symm)
theorem planE_in{p:List (List (Int×Int))}{m:Int}(h:planE p m=0):¬rangeP p m∧stagesE m p=0∧doneB p=true:=by
 by_cases c:rangeP p m
 ·rw[←planE_far c]at h;cases h
 ·by_cases d:stagesE m p=0
  ·rw[planE_end c d]at h
   refine ⟨c,d,?_⟩
   by_cases e:doneB p=true
   ·exact e
   ·rw[if_neg e]at h;cases h
  ·rw[←planE_acts c d]at h;exact absurd h d
end Go.Proofs.YtniloklglpchfakGreat
/- What ActsFault and where of the document's answer come to. -/
namespace Go.Proofs.YtniloklglpchfakGreat
open Go.RowKit
structure PassI (p:List (List (Int×Int))) (f:List Nat) (s:Nat) (more:Bool):Prop where
 len:f.length=p.length
 und:Und p f
 bd:∀t,t<p.length→atN f t≤atN (lens p) t
 no:more=false→∀t,t<s→¬Can p f t
theorem PassI.step{p:List (List (Int×Int))}{f:List Nat}{s:Nat}{more:Bool}(h:PassI p f s more)(hc:Can p f s):PassI p (bump f s) s true:=by
 have hs:=hc.lt
 refine ⟨by rw[bump_len];exact h.len,h.und.step h.len hc,fun t ht=>?_,fun e=>by cases e⟩
 rw[atN_bump (by rw[h.len];exact hs.1)]
 by_cases e:t=s
 ·subst e;rw[if_pos rfl,lens_at];exact hs.2
 ·rw[if_neg e];exact h.bd t ht
theorem PassI.next{p:List (List (Int×Int))}{f:List Nat}{s:Nat}{more:Bool}(h:PassI p f s more)(hc:¬Can p f s):PassI p f (s+1) more:=
 ⟨h.len,h.und,h.bd,fun e t ht=>by
  rcases Nat.lt_or_ge t s with q|q
  ·exact h.no e t q
  ·obtain rfl:t=s:=by omega
   exact hc⟩
theorem PassI.first{p:List (List (Int×Int))}{f:List Nat}{s:Nat}{more:Bool}(h:PassI p f s more):PassI p f 0 false:=⟨h.len,h.und,h.bd,fun _ t ht=>by omega⟩
theorem PassI.sum{p:List (List (Int×Int))}{f:List Nat}{s:Nat}{more:Bool}(h:PassI p f s more):sumN f p.length≤sumN (lens p) p.length:=sumN_le h.bd
theorem PassI.end_{p:List (List (Int×Int))}{f:List Nat}(h:PassI p f p.length false):doneB p=true↔∀s,s<p.length→atN f s=(stA p s).length:=done_iff h.und (fun s hs=>h.no rfl s hs)
theorem sum_step{p:List (List (Int×Int))}{f:List Nat}{s:Nat}{more:Bool}(h:PassI p f s more)(hc:Can p f s):sumN (bump f s) p.length=sumN f p.length+1:=by
 have hs:=hc.lt
 rw[sumN_bump (by rw[h.len];exact hs.1),if_pos hs.1]
def natI (f:List Nat):List Int:=f.map (fun (x:Nat)=>(x:Int))
theorem natI_at{f:List Nat}{s:Nat}(h:s<f.length):(natI f)[s]?=some (atN f s:Int):=by simp[natI,atN,h]
theorem natI_bump{f:List Nat}{s:Nat}:(natI f).set s ((atN f s:Int)+1)=natI (bump f s):=by
 unfold natI bump
 rw[List.map_set]
 simp
theorem natI_zero(p:List (List (Int×Int))):tab p.length (fun _=>0)=natI (zeroN p):=by
 unfold natI zeroN
 rw[tab_zero,List.map_replicate];rfl
theorem plan_cell{w:World}{p:List (List (Int×Int))}{b off:Nat}(hc:∀i l,p[i]?=some l→∃s,w.cell? ⟨b,off+i,none⟩=some s∧IsActs w s l)(W:World)(hb:Below w.heap.size w W){s:Nat}(hs:s<p.length):
  ∃la lc,W.cell? ⟨b,off+s,none⟩=some (.slice la (stA p s).length lc)∧IsActs W (.slice la (stA p s).length lc) (stA p s):=by
 obtain ⟨l,hl⟩:=stage_at hs
 obtain ⟨u,h1,h2⟩:=hc s l hl
 rw[stA_at hl]
 obtain ⟨a,cap,rfl⟩:=h2.shape
 exact ⟨a,cap,cell_bel hb h1,h2.u_ hb⟩
theorem can_out{p:List (List (Int×Int))}{f:List Nat}{s:Nat}(h:¬atN f s<(stA p s).length):¬Can p f s:=fun hc=>h hc.lt.2
theorem below_go{w u v:World}(h:Below w.heap.size w u)(k:Below u.heap.size u v):Below w.heap.size w v:=h.trans (k.mono h.size)
def keyD (d:Int×Int×Int):Value:=.agg #[.int .i64 d.1,.int .i64 d.2.1,.int .i64 d.2.2]
def okD (d:Int×Int×Int):Prop:=0≤d.1∧d.1≤100∧0≤d.2.1∧d.2.1≤100∧0≤d.2.2∧d.2.2≤100
theorem keyD_inj{a b:Int×Int×Int}(h:keyD a=keyD b):a=b:=by
 obtain ⟨a1,a2,a3⟩:=a
 obtain ⟨b1,b2,b3⟩:=b
 simpa [keyD] using h
theorem laidD:laidOutB Tryz.prog=true:=by kernel_rfl
theorem rowD:(177:TypeId)<Tryz.prog.types.size:=of_decide_eq_true (by kernel_rfl)
theorem wideD:(match Tryz.prog.underlying 177 with|some (.array _ _)|some (.struct _)=>true|_=>false)=true:=by kernel_rfl
set_option maxRecDepth 100000 in
theorem lawD:Maps.Keyed Tryz.prog 177:=Maps.Keyed.of_law (deep_law_laid laidD (m:=3) (by omega) rowD (by kernel_rfl) wideD)
theorem typesD:∃n,Tryz.prog.types.size=n+2:=⟨Tryz.prog.types.size - 2,by kernel_rfl⟩
theorem ktypeD:Tryz.prog.keyType 177=true:=by kernel_rfl
theorem cellsD:Tryz.prog.cellsOf 177=3:=by kernel_rfl
theorem cellsD2:Tryz.prog.cellsOf 60=2:=by kernel_rfl
theorem cellsD1:Tryz.prog.cellsOf 3=1:=by kernel_rfl
theorem keyD_of{d:Int×Int×Int}(h:okD d):∃l,keyOf Tryz.prog 177 (keyD d)=some l:=by
 obtain ⟨a,b,c⟩:=d
 obtain ⟨h1,h2,h3,h4,h5,h6⟩:=h
 dsimp only at h1 h2 h3 h4 h5 h6
 have wa:(Lit.int .i64 a).wf=true:=WalkArith.wf_i64 (by omega)
 have wb:(Lit.int .i64 b).wf=true:=WalkArith.wf_i64 (by omega)
 have wc:(Lit.int .i64 c).wf=true:=WalkArith.wf_i64 (by omega)
 obtain ⟨n,hn⟩:=typesD
 have hf:(keyD (a,b,c)).formed Tryz.prog 177=true:=by
  simp[Value.formed,keyD,Tryz.underlying177,cellsD]
 have e:∃ls,Tryz.prog.keyLits (Tryz.prog.types.size+1) 177 (keyD (a,b,c)).cells.toList=some ls:=by
  rw[hn]
  simp[Program.keyLits,keyD,Value.cells,Tryz.underlying177,Tryz.underlying60,Tryz.underlying3,cellsD,cellsD2,cellsD1,wa,wb,wc]
  rw[if_pos (by decide)]
  exact ⟨_,rfl⟩
 obtain ⟨ls,hls⟩:=e
 unfold keyOf
 rw[Tryz.underlying177]
 dsimp only
 rw[ktypeD,hf,hls]
 exact ⟨_,rfl⟩
def Deeds (w:World) (b:Nat) (L:List (Int×Int×Int)):Prop:=
 ∃es clock,w.heap[b]?=some (.map es clock)∧L.Nodup∧(∀d∈L,okD d)∧es.size=L.length∧∀(i:Nat) (e:MapEntry),es[i]?=some e→∃d,L[i]?=some d∧e.key=keyD d∧e.val=.int .i64 (i:Int)
def posD (d:Int×Int×Int) (L:List (Int×Int×Int)):Int:=if d∈L then (L.idxOf d:Int) else 0
theorem idx_at{L:List (Int×Int×Int)}(hn:L.Nodup){i:Nat}{d:Int×Int×Int}(h:L[i]?=some d):L.idxOf d=i:=by
 obtain ⟨hi,rfl⟩:=List.getElem?_eq_some_iff.1 h
 exact List.Nodup.idxOf_getElem hn i hi
theorem posD_at{L:List (Int×Int×Int)}(hn:L.Nodup){i:Nat}{d:Int×Int×Int}(h:L[i]?=some d):posD d L=i:=by
 unfold posD
 rw[if_pos (List.mem_of_getElem? h),idx_at hn h]
theorem Deeds.new(w:World):Deeds (w.alloc (.map #[] 0)) w.heap.size []:=⟨#[],0,(MapKept.heap_alloc w _).1,List.nodup_nil,fun d h=>by simp at h,rfl,fun i e h=>by simp at h⟩
theorem Deeds.lt{w:World}{b:Nat}{L:List (Int×Int×Int)}(h:Deeds w b L):b<w.heap.size:=by
 obtain ⟨es,clock,hb,_⟩:=h
 exact (Array.getElem?_eq_some_iff.1 hb).1
theorem Deeds.nodup{w:World}{b:Nat}{L:List (Int×Int×Int)}(h:Deeds w b L):L.Nodup:=by obtain ⟨_,_,_,h2,_⟩:=h;exact h2
theorem Deeds.u_{w w':World}{b:Nat}{L:List (Int×Int×Int)}(h:Deeds w b L)(hb:Below w.heap.size w w'):Deeds w' b L:=by
 have hl:=h.lt
 obtain ⟨es,clock,h1,h2⟩:=h
 exact ⟨es,clock,(hb.block b hl).trans h1,h2⟩
theorem Deeds.find{w:World}{b:Nat}{L:List (Int×Int×Int)}(h:Deeds w b L){d:Int×Int×Int}(hd:okD d)(w2:World):∃es clock,w.heap[b]?=some (.map es clock)∧es.size=L.length∧
  ((d ∉ L∧(Instr.findKey 177 (keyD d) es.toList).run Tryz.prog w2=.ok none w2)∨(∃i:Nat,L[i]?=some d∧(Instr.findKey 177 (keyD d) es.toList).run Tryz.prog w2=.ok (some (i,.int .i64 (i:Int))) w2)):=by
 obtain ⟨es,clock,h1,h2,h3,h4,h5⟩:=h
 refine ⟨es,clock,h1,h4,?_⟩
 obtain ⟨l,hl⟩:=keyD_of hd
 have hall:∀e∈es.toList,∃l,keyOf Tryz.prog 177 e.key=some l:=by
  intro e he
  obtain ⟨i,hi⟩:=List.getElem?_of_mem he
  obtain ⟨d',q1,q2,_⟩:=h5 i e (by simpa using hi)
  rw[q2]
  exact keyD_of (h3 d' (List.mem_of_getElem? q1))
 rcases lawD.find w2 hl es.toList hall with ⟨f1,f2⟩|⟨j,e,f1,f2,f3⟩
 ·left
  refine ⟨fun hm=>?_,f1⟩
  obtain ⟨i,hi⟩:=List.getElem?_of_mem hm
  have hlt:i<es.size:=by rw[h4];exact (List.getElem?_eq_some_iff.1 hi).1
  obtain ⟨d',q1,q2,_⟩:=h5 i es[i] (Array.getElem?_eq_getElem hlt)
  rw[hi]at q1
  rw[←Option.some.inj q1]at q2
  exact f2 es[i] (by simp) q2
 ·right
  obtain ⟨d',q1,q2,q3⟩:=h5 j e (by simpa using f2)
  have:d'=d:=keyD_inj (q2.symm.trans f3)
  subst this
  exact ⟨j,q1,by rw[f1,q3]⟩
theorem Deeds.look{w:World}{b:Nat}{L:List (Int×Int×Int)}(h:Deeds w b L){d:Int×Int×Int}(hd:okD d)(c:Bool):
  (Instr.lookup 145 (.map (some b)) (keyD d) c).run Tryz.prog w=.ok (if c then .tuple #[.int .i64 (posD d L),.bool (decide (d∈L))] else .int .i64 (posD d L)) w:=by
 obtain ⟨es,clock,hb,_,hf⟩:=h.find hd w
 obtain ⟨l,hl⟩:=keyD_of hd
 rcases hf with ⟨q1,q2⟩|⟨i,q1,q2⟩
 ·have:posD d L=0:=by unfold posD;rw[if_neg q1]
  simp[Instr.lookup,run_underlying Tryz.underlying145,MapKept.run_getObj_map hb,lawD.check w _ hl,q2,Result.andThen,this,q1]
 ·have hp:=posD_at h.nodup q1
  have hm:=List.mem_of_getElem? q1
  simp[Instr.lookup,run_underlying Tryz.underlying145,MapKept.run_getObj_map hb,lawD.check w _ hl,q2,Result.andThen,hp,hm]
theorem Deeds.add{w:World}{b:Nat}{L:List (Int×Int×Int)}(h:Deeds w b L){d:Int×Int×Int}(hd:okD d)(hn:d ∉ L):
  ∃w',(Instr.mapUpdate 145 (.map (some b)) (keyD d) (.int .i64 (L.length:Int))).run Tryz.prog w=.ok () w'∧Deeds w' b (L++[d])∧w.grownBy w' (some b):=by
 obtain ⟨es,clock,hb,hs,hf⟩:=h.find hd w
 obtain ⟨l,hl⟩:=keyD_of hd
 rcases hf with ⟨q1,q2⟩|⟨i,q1,q2⟩
 ·refine ⟨ChangeMaps.setBlock w b (.map (es.push ⟨keyD d,.int .i64 (L.length:Int),clock⟩) (clock+1)),?_,?_,⟨rfl,rfl,rfl,by simp[ChangeMaps.setBlock],fun i _ hi=>ChangeMaps.heap_setBlock_other hb _ (fun e=>hi (by rw[e]))⟩⟩
  ·simp[Instr.mapUpdate,run_underlying Tryz.underlying145,MapKept.run_getObj_map hb,lawD.check w false hl,q2,MapKept.run_setObj_map _ hb,Result.andThen,ChangeMaps.setBlock]
  ·obtain ⟨es',clock',hb',h2,h3,h4,h5⟩:=h
   rw[hb]at hb'
   have hb':=Option.some.inj hb'
   injection hb' with e1 e2
   subst e1
   refine ⟨_,_,ChangeMaps.heap_setBlock_same hb _,?_,?_,by simp[h4],?_⟩
   ·rw[List.nodup_append]
    exact ⟨h2,by simp,fun a ha c hc e=>by simp at hc;subst hc;exact hn (e▸ha)⟩
   ·intro x hx
    rw[List.mem_append]at hx
    rcases hx with hx|hx
    ·exact h3 x hx
    ·simp at hx;subst hx;exact hd
   ·intro i e he
    rw[Array.getElem?_push]at he
    by_cases hi:i=es.size
    ·rw[if_pos hi]at he
     have he:=Option.some.inj he
     subst he
     exact ⟨d,by rw[List.getElem?_append_right (by omega),hi,h4];simp,rfl,by rw[hi,h4]⟩
    ·rw[if_neg hi]at he
     obtain ⟨d',k1,k2⟩:=h5 i e he
     exact ⟨d',by rw[List.getElem?_append_left (List.getElem?_eq_some_iff.1 k1).1];exact k1,k2⟩
 ·exact absurd (List.mem_of_getElem? q1) hn
theorem Deeds.len{w:World}{b:Nat}{L:List (Int×Int×Int)}(h:Deeds w b L)(ty:TypeId):(Builtin.len_ #[145] ty #[.map (some b)]).run Tryz.prog w=.ok (.int .i64 (L.length:Int)) w:=by
 obtain ⟨es,clock,hb,_,_,h4,_⟩:=h
 simp[Builtin.len_,run_underlying Tryz.underlying145,MapKept.run_getObj_map hb,goInt,Result.andThen,h4]
theorem Deeds.clear{w:World}{b:Nat}{L:List (Int×Int×Int)}(h:Deeds w b L):∃w',(∀ty:TypeId,(Builtin.clear_ #[145] ty #[.map (some b)]).run Tryz.prog w=.ok (.tuple #[]) w')∧Deeds w' b []∧w.grownBy w' (some b):=by
 obtain ⟨es,clock,hb,_⟩:=h
 refine ⟨ChangeMaps.setBlock w b (.map #[] clock),?_,⟨#[],clock,ChangeMaps.heap_setBlock_same hb _,List.nodup_nil,fun d h=>by simp at h,rfl,fun i e h=>by simp at h⟩,⟨rfl,rfl,rfl,by simp[ChangeMaps.setBlock],fun i _ hi=>ChangeMaps.heap_setBlock_other hb _ (fun e=>hi (by rw[e]))⟩⟩
 intro ty
 simp[Builtin.clear_,run_underlying Tryz.underlying145,MapKept.run_getObj_map hb,MapKept.run_setObj_map _ hb,Result.andThen,ChangeMaps.setBlock]
end Go.Proofs.YtniloklglpchfakGreat
