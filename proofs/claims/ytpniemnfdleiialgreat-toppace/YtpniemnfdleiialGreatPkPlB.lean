/- Which plans can be done: whoever goes on as far as anybody can comes to the same end. No Go in sight. -/
import Derived.Test.YtpniemnfdleiialGreatPkCtP
import Derived.Test.YtpniemnfdleiialGreatRows
import Derived.Deep.RegionHeld3
import Derived.WalkKit
import Derived.WalkSpells
import Derived.WalkLawsBesides
import Derived.Outline
import Derived.Deep.QuietTactic
import Derived.BigQuiet
import Derived.Test.YtpniemnfdleiialGreatPlain
import Derived.StillTailTactics
import Derived.Deep.LoopGhost
namespace Go.Proofs.YtpniemnfdleiialGreat
def atN (f:List Nat) (s:Nat):Nat:=(f[s]?).getD 0
def stA (p:List (List (Int×Int))) (s:Nat):List (Int×Int):=(p[s]?).getD []
theorem stA_at{p:List (List (Int×Int))}{s:Nat}{l:List (Int×Int)}(h:p[s]?=some l):stA p s=l:=by unfold stA;rw[h];rfl
theorem stA_out{p:List (List (Int×Int))}{s:Nat}(h:p.length≤s):stA p s=[]:=by unfold stA;rw[List.getElem?_eq_none h];rfl
def whr (a:Int×Int):List (Int×Int)→Int
 |[]=>-1
 |x::t=>if x=a then 0 else if whr a t=-1 then -1 else whr a t+1
theorem whr_nonneg(a:Int×Int)(l:List (Int×Int)):whr a l=-1∨0≤whr a l:=by
 induction l with
 |nil=>exact .inl rfl
 |cons x t ih=>unfold whr;split<;>(try split)<;>omega
theorem whr_at{a:Int×Int}:∀{l:List (Int×Int)} {i:Nat},l[i]?=some a→(∀j x,j<i→l[j]?=some x→x≠a)→whr a l=(i:Int)
 |[],i,h,_=>by simp at h
 |x::t,0,h,_=>by
  have:x=a:=by simpa using h
  unfold whr;rw[if_pos this];rfl
 |x::t,i+1,h,hn=>by
  have hx:x≠a:=hn 0 x (by omega) rfl
  have:=whr_at (l:=t) (i:=i) (by simpa using h) (fun j y hj hy=>hn (j+1) y (by omega) (by simpa using hy))
  unfold whr
  rw[if_neg hx,this,if_neg (by omega)]
  omega
def nbA (a:Int×Int) (s k:Nat):Prop:=(a.1=2∧k=s+1)∨(a.1≠2∧k+1=s)
def Can (p:List (List (Int×Int))) (f:List Nat) (s:Nat):Prop:=∃a,(stA p s)[atN f s]?=some a∧∀k,k<p.length→nbA a s k→whr a (stA p k)<(atN f k:Int)
def Closed (p:List (List (Int×Int))) (g:List Nat):Prop:=∀s,s<p.length→¬Can p g s
def Und (p:List (List (Int×Int))) (f:List Nat):Prop:=∀g,Closed p g→∀s,s<p.length→atN f s≤atN g s
def bump (f:List Nat) (s:Nat):List Nat:=f.set s (atN f s+1)
theorem Can.lt{p:List (List (Int×Int))}{f:List Nat}{s:Nat}(h:Can p f s):s<p.length∧atN f s<(stA p s).length:=by
 obtain ⟨a,h1,_⟩:=h
 have:=(List.getElem?_eq_some_iff.1 h1).1
 refine ⟨?_,this⟩
 rcases Nat.lt_or_ge s p.length with q|q
 ·exact q
 ·rw[stA_out q]at this;simp at this
theorem atN_bump{f:List Nat}{s:Nat}(h:s<f.length)(t:Nat):atN (bump f s) t=if t=s then atN f s+1 else atN f t:=by
 unfold bump atN
 rw[List.getElem?_set]
 by_cases e:t=s
 ·subst e;rw[if_pos rfl,if_pos rfl,if_pos h];rfl
 ·rw[if_neg (fun q=>e q.symm),if_neg e]
theorem bump_len(f:List Nat)(s:Nat):(bump f s).length=f.length:=by simp[bump]
theorem Und.step{p:List (List (Int×Int))}{f:List Nat}{s:Nat}(h:Und p f)(hl:f.length=p.length)(hc:Can p f s):Und p (bump f s):=by
 intro g hg t ht
 have hs:=hc.lt.1
 rw[atN_bump (by omega)]
 by_cases e:t=s
 ·subst e
  rw[if_pos rfl]
  have h1:=h g hg t ht
  rcases Nat.lt_or_ge (atN f t) (atN g t) with q|q
  ·exact q
  ·have e1:atN f t=atN g t:=by omega
   obtain ⟨a,c1,c2⟩:=hc
   exact absurd ⟨a,by rw[←e1];exact c1,fun k hk hn=>by have:=c2 k hk hn;have:=h g hg k hk;omega⟩ (hg t ht)
 ·rw[if_neg e];exact h g hg t ht
def zeroN (p:List (List (Int×Int))):List Nat:=List.replicate p.length 0
theorem zeroN_at(p:List (List (Int×Int)))(s:Nat):atN (zeroN p) s=0:=by
 unfold atN zeroN
 rw[List.getElem?_replicate]
 split<;>rfl
theorem und_zero(p:List (List (Int×Int))):Und p (zeroN p):=fun g _ s _=>by rw[zeroN_at];omega
theorem Und.same{p:List (List (Int×Int))}{f g:List Nat}(h:Und p f)(hf:Closed p f)(k:Und p g)(hg:Closed p g){s:Nat}(hs:s<p.length):atN f s=atN g s:=by
 have:=h g hg s hs
 have:=k f hf s hs
 omega
def nbB (a:Int×Int) (s k:Nat):Bool:=(decide (a.1=2)&&decide (k=s+1))||(decide (a.1≠2)&&decide (k+1=s))
theorem nbB_iff{a:Int×Int}{s k:Nat}:nbB a s k=true↔nbA a s k:=by simp[nbB,nbA]
def canB (p:List (List (Int×Int))) (f:List Nat) (s:Nat):Bool:=
 match (stA p s)[atN f s]? with
 |none=>false
 |some a=>(List.range p.length).all (fun k=>!(nbB a s k)||decide (whr a (stA p k)<(atN f k:Int)))
theorem canB_iff{p:List (List (Int×Int))}{f:List Nat}{s:Nat}:canB p f s=true↔Can p f s:=by
 unfold canB Can
 cases h:(stA p s)[atN f s]? with
 |none=>simp
 |some a=>
  simp only[List.all_eq_true,List.mem_range]
  constructor
  ·intro q
   refine ⟨a,rfl,fun k hk hn=>?_⟩
   have:=q k hk
   rw[nbB_iff.2 hn]at this
   simpa using this
  ·rintro ⟨b,e,q⟩ k hk
   have e:=Option.some.inj e
   subst e
   cases hb:nbB a s k with
   |false=>rfl
   |true=>simpa using q k hk (nbB_iff.1 hb)
def fin (p:List (List (Int×Int))):Nat→List Nat→List Nat
 |0,f=>f
 |n+1,f=>match (List.range p.length).find? (fun s=>canB p f s) with
  |none=>f
  |some s=>fin p n (bump f s)
def sumN (f:List Nat):Nat→Nat
 |0=>0
 |k+1=>sumN f k+atN f k
def lens (p:List (List (Int×Int))):List Nat:=p.map List.length
theorem lens_at(p:List (List (Int×Int)))(s:Nat):atN (lens p) s=(stA p s).length:=by
 unfold atN lens stA
 rw[List.getElem?_map]
 cases p[s]?<;>rfl
theorem sumN_bump{f:List Nat}{s:Nat}(h:s<f.length):∀k,sumN (bump f s) k=sumN f k+if s<k then 1 else 0
 |0=>by simp[sumN]
 |k+1=>by
  have:=sumN_bump h k
  unfold sumN
  rw[this,atN_bump h]
  by_cases e:k=s
  ·subst e;rw[if_pos rfl,if_neg (by omega),if_pos (by omega)];omega
  ·rw[if_neg e]
   by_cases q:s<k
   ·rw[if_pos q,if_pos (by omega)];omega
   ·rw[if_neg q,if_neg (by omega)];omega
theorem sumN_le{f g:List Nat}{k:Nat}(h:∀s,s<k→atN f s≤atN g s):sumN f k≤sumN g k:=by
 induction k with
 |zero=>exact Nat.le_refl _
 |succ k ih=>have:=ih (fun s hs=>h s (by omega));have:=h k (by omega);unfold sumN;omega
theorem sumN_eq{f g:List Nat}{k:Nat}(h:∀s,s<k→atN f s≤atN g s)(e:sumN g k≤sumN f k):∀s,s<k→atN f s=atN g s:=by
 induction k with
 |zero=>intro s hs;omega
 |succ k ih=>
  have h1:=sumN_le (k:=k) (fun s hs=>h s (by omega))
  have h2:=h k (by omega)
  unfold sumN at e
  intro s hs
  rcases Nat.lt_or_ge s k with q|q
  ·exact ih (fun s hs=>h s (by omega)) (by omega) s q
  ·obtain rfl:s=k:=by omega
   omega
theorem fin_ok{p:List (List (Int×Int))}:∀{n:Nat} {f:List Nat},f.length=p.length→Und p f→(∀s,s<p.length→atN f s≤atN (lens p) s)→sumN (lens p) p.length≤sumN f p.length+n→Und p (fin p n f)∧Closed p (fin p n f)
 |0,f,hl,hu,hb,hs=>by
  show Und p f∧Closed p f
  refine ⟨hu,fun s hs' hc=>?_⟩
  have:=sumN_eq hb (by omega) s hs'
  rw[lens_at]at this
  have:=hc.lt.2
  omega
 |n+1,f,hl,hu,hb,hs=>by
  unfold fin
  cases h:(List.range p.length).find? (fun s=>canB p f s) with
  |none=>
   refine ⟨hu,fun s hs' hc=>?_⟩
   have:=List.find?_eq_none.1 h s (List.mem_range.2 hs')
   exact this (canB_iff.2 hc)
  |some s=>
   have hc:=canB_iff.1 (List.find?_some h)
   have hsl:=hc.lt
   refine fin_ok (by rw[bump_len];exact hl) (hu.step hl hc) (fun t ht=>?_) ?_
   ·rw[atN_bump (by omega)]
    by_cases e:t=s
    ·subst e;rw[if_pos rfl,lens_at];exact hsl.2
    ·rw[if_neg e];exact hb t ht
   ·rw[sumN_bump (by omega),if_pos hsl.1];omega
def doneB (p:List (List (Int×Int))):Bool:=(List.range p.length).all (fun s=>atN (fin p (sumN (lens p) p.length) (zeroN p)) s==(stA p s).length)
theorem done_iff{p:List (List (Int×Int))}{f:List Nat}(h:Und p f)(hf:Closed p f):doneB p=true↔∀s,s<p.length→atN f s=(stA p s).length:=by
 obtain ⟨k1,k2⟩:=fin_ok (p:=p) (n:=sumN (lens p) p.length) (f:=zeroN p) (by simp[zeroN]) (und_zero p) (fun s _=>by rw[zeroN_at];omega) (by omega)
 unfold doneB
 rw[List.all_eq_true]
 constructor
 ·intro q s hs
  have:=q s (List.mem_range.2 hs)
  rw[h.same hf k1 k2 hs]
  simpa using this
 ·intro q s hs
  have hs:=List.mem_range.1 hs
  have:=q s hs
  rw[h.same hf k1 k2 hs]at this
  simpa using this
def stagesE (m:Int):List (List (Int×Int))→Int
 |[]=>0
 |l::t=>if actsE l m=0 then stagesE m t else actsE l m
theorem stagesE_at{m:Int}:∀{p:List (List (Int×Int))} {k:Nat} {l:List (Int×Int)},(∀j x,j<k→p[j]?=some x→actsE x m=0)→p[k]?=some l→actsE l m≠0→actsE l m=stagesE m p
 |[],k,l,_,h,_=>by simp at h
 |x::t,0,l,_,h,hm=>by
  have:x=l:=by simpa using h
  subst this;unfold stagesE;rw[if_neg hm]
 |x::t,k+1,l,hz,h,hm=>by
  unfold stagesE
  rw[if_pos (hz 0 x (by omega) rfl)]
  exact stagesE_at (p:=t) (k:=k) (fun j y hj hy=>hz (j+1) y (by omega) (by simpa using hy)) (by simpa using h) hm
theorem stagesE_no{m:Int}:∀{p:List (List (Int×Int))},(∀(j:Nat) x,p[j]?=some x→actsE x m=0)→0=stagesE m p
 |[],_=>rfl
 |x::t,hz=>by
  unfold stagesE
  rw[if_pos (hz 0 x rfl)]
  exact stagesE_no (p:=t) (fun j y hy=>hz (j+1) y (by simpa using hy))
theorem stagesE_in{m:Int}:∀{p:List (List (Int×Int))},stagesE m p=0→∀(j:Nat) x,p[j]?=some x→actsE x m=0
 |[],_,j,x,h=>by simp at h
 |l::t,hz,j,x,h=>by
  unfold stagesE at hz
  by_cases c:actsE l m=0
  ·rw[if_pos c]at hz
   cases j with
   |zero=>
    have:l=x:=by simpa using h
    subst this;exact c
   |succ j=>exact stagesE_in hz j x (by simpa using h)
  ·rw[if_neg c]at hz;exact absurd hz c
def rangeP (p:List (List (Int×Int))) (m:Int):Prop:=m<1∨12<m∨(p.length:Int)<1∨6<(p.length:Int)
def planE (p:List (List (Int×Int))) (m:Int):Int:=if m<1∨12<m∨(p.length:Int)<1∨6<(p.length:Int) then 1 else if stagesE m p=0 then (if doneB p=true then 0 else 6) else stagesE m p
theorem planE_far{p:List (List (Int×Int))}{m:Int}(h:rangeP p m):1=planE p m:=by unfold planE;rw[if_pos (show m<1∨12<m∨(p.length:Int)<1∨6<(p.length:Int) from h)]
theorem planE_acts{p:List (List (Int×Int))}{m:Int}(h:¬rangeP p m)(h1:stagesE m p≠0):stagesE m p=planE p m:=by unfold planE;rw[if_neg (show ¬(m<1∨12<m∨(p.length:Int)<1∨6<(p.length:Int)) from h),if_neg h1]
theorem planE_end{p:List (List (Int×Int))}{m:Int}(h:¬rangeP p m)(h1:stagesE m p=0):planE p m=if doneB p=true then 0 else 6:=by unfold planE;rw[if_neg (show ¬(m<1∨12<m∨(p.length:Int)<1∨6<(p.length:Int)) from h),if_pos h1]
theorem take_iff{l:List (Int×Int)}(ha:apart l){i:Nat}{x:Int×Int}(h:l[i]?=some x)(n:Nat):x∈l.take n↔i<n:=by
 constructor
 ·intro hm
  obtain ⟨k,hk⟩:=List.getElem?_of_mem hm
  have hlt:k<n:=by
   have:=(List.getElem?_eq_some_iff.1 hk).1
   rw[List.length_take]at this
   omega
  rw[List.getElem?_take,if_pos hlt]at hk
  rcases Nat.lt_trichotomy i k with q|q|q
  ·exact absurd rfl (ha k i x x q hk h)
  ·omega
  ·exact absurd rfl (ha i k x x q h hk)
 ·intro hi
  exact List.mem_of_getElem? (i:=i) (by rw[List.getElem?_take,if_pos hi];exact h)
theorem whr_idx{l:List (Int×Int)}(ha:apart l){i:Nat}{x:Int×Int}(h:l[i]?=some x):whr x l=(i:Int):=whr_at h (fun j y hj hy e=>ha i j x y hj h hy e.symm)
theorem planE_in{p:List (List (Int×Int))}{m:Int}(h:planE p m=0):¬rangeP p m∧stagesE m p=0∧doneB p=true:=by
 by_cases c:rangeP p m
 ·rw[←planE_far c]at h;cases h
 ·by_cases d:stagesE m p=0
  ·rw[planE_end c d]at h
   refine ⟨c,d,?_⟩
   by_cases e:doneB p=true
   ·exact e
   ·rw[if_neg e]at h;cases h
  ·rw[←planE_acts c d]at h;exact absurd h d
end Go.Proofs.YtpniemnfdleiialGreat
/- What ActsFault and where of the document's answer come to. -/
namespace Go.Proofs.YtpniemnfdleiialGreat
open Go.RowKit
def inEnds (x:Int):Bool:=decide (-2147483647≤x)&&decide (x≤2147483647)
def okSides (m:Mx):Bool:=decide (0≤m.rows)&&decide (m.rows≤24)&&decide (0≤m.cols)&&decide (m.cols≤12)
def q_ (m:Mx):Int:=if okSides m=false then 1 else if (m.cells.length:Int)≠m.rows*m.cols then 2 else if m.cells.all inEnds=false then 1 else 0
theorem fault_side{m:Mx}(h:m.rows<0∨24<m.rows∨m.cols<0∨12<m.cols):1=q_ m:=by
 unfold q_;rw[if_pos (by simp[okSides];omega)]
theorem fault_in{m:Mx}(h:0≤m.rows∧m.rows≤24∧0≤m.cols∧m.cols≤12):okSides m=true:=by simp[okSides];omega
theorem fault_len{m:Mx}(h:okSides m=true)(hl:(m.cells.length:Int)≠m.rows*m.cols):2=q_ m:=by
 unfold q_;rw[if_neg (by simp[h]),if_pos hl]
theorem fault_cell{m:Mx}(h:okSides m=true)(hl:(m.cells.length:Int)=m.rows*m.cols)(hc:m.cells.all inEnds=false):1=q_ m:=by
 unfold q_;rw[if_neg (by simp[h]),if_neg (by simp[hl]),if_pos hc]
theorem fault_none{m:Mx}(h:okSides m=true)(hl:(m.cells.length:Int)=m.rows*m.cols)(hc:m.cells.all inEnds=true):0=q_ m:=by
 unfold q_;rw[if_neg (by simp[h]),if_neg (by simp[hl]),if_neg (by simp[hc])]
theorem all_no{zs:List Int}{k:Nat}{x:Int}(h:zs[k]?=some x)(hx:inEnds x=false):zs.all inEnds=false:=by
 rw[List.all_eq_false];exact ⟨x,List.mem_of_getElem? h,by simp[hx]⟩
theorem all_yes{zs:List Int}(h:∀k x,k<zs.length→zs[k]?=some x→inEnds x=true):zs.all inEnds=true:=by
 rw[List.all_eq_true];intro x hx
 obtain ⟨k,hk,rfl⟩:=List.getElem_of_mem hx
 exact h k _ hk (List.getElem?_eq_getElem hk)
theorem rc_bd(r c:Int)(h:0≤r∧r≤24∧0≤c∧c≤12):0≤r*c∧r*c≤288:=by
 refine ⟨Int.mul_nonneg h.1 h.2.2.1,?_⟩
 have h1:r*c≤24*c:=Int.mul_le_mul_of_nonneg_right h.2.1 h.2.2.1
 omega
theorem infoInt:(Tryz.prog.info? 3).map (fun i=>(i.zero,i.size,i.bytes))=some (some (.int .i64 0),1,8):=by kernel_rfl
def zeros (n:Nat):Array Value:=madeCells #[.int .i64 0] n
theorem zeros_row(w:World)(n:Nat):RowAt 3 (w.alloc (.cells (zeros n) 3)) w.heap.size (tab n (fun _=>0)):=by
 unfold RowAt
 rw[heap_alloc_new]
 congr 2
 rw[←Array.toList_inj]
 unfold zeros
 rw[toList_madeCells_one,tab_zero];simp
theorem run_mk(L:Int)(n:Nat)(hL:L=(n:Int))(hn:n≤82944)(W:World):(Instr.makeSlice 26 (.int .i64 L) (.int .i64 L)).run Tryz.prog W=.ok (.slice (some ⟨W.heap.size,0,none⟩) n n) (W.alloc (.cells (zeros n) 3)):=by
 obtain ⟨i0,hi,hz0,hz1,hz2⟩:=info_parts infoInt
 subst hL
 have hr:=run_make (P:=Tryz.prog) W 26 3 i0 (.int .i64 0) Tryz.underlying26 hi hz0 .i64 .i64 (n:Int) (n:Int) (by omega) (Int.le_refl _) (by rw[hz2];omega) (by omega)
 simpa [zeros,hz1,Value.cells] using hr
theorem region_tail{P:Program}{id:Nat}{Q:Exit→Act→World→Prop}{a:Act}{w:World}{l:List Oper}(n:Nat)(hm:P.follows .mixedOrders=true)(hB:Region.lexTailB .any l.toArray n=true)
  (h:wpStill P l.toArray w.drew (fun a'=>wpList P l.toArray Q (l.drop n) a' w.drew) (l.take n) a):(Code.region id l.toArray true).wp P Q a w:=wp_region_still_tail n hm hB h
structure PassI (p:List (List (Int×Int))) (f:List Nat) (s:Nat) (more:Bool):Prop where
 len:f.length=p.length
 und:Und p f
 bd:∀t,t<p.length→atN f t≤atN (lens p) t
 no:more=false→∀t,t<s→¬Can p f t
theorem PassI.step{p:List (List (Int×Int))}{f:List Nat}{s:Nat}{more:Bool}(h:PassI p f s more)(hc:Can p f s):PassI p (bump f s) s true:=by
 have hs:=hc.lt
 refine ⟨by rw[bump_len];exact h.len,h.und.step h.len hc,fun t ht=>?_,fun e=>by cases e⟩
 rw[atN_bump (by rw[h.len];exact hs.1)]
 by_cases e:t=s
 ·subst e;rw[if_pos rfl,lens_at];exact hs.2
 ·rw[if_neg e];exact h.bd t ht
theorem PassI.next{p:List (List (Int×Int))}{f:List Nat}{s:Nat}{more:Bool}(h:PassI p f s more)(hc:¬Can p f s):PassI p f (s+1) more:=
 ⟨h.len,h.und,h.bd,fun e t ht=>by
  rcases Nat.lt_or_ge t s with q|q
  ·exact h.no e t q
  ·obtain rfl:t=s:=by omega
   exact hc⟩
theorem PassI.first{p:List (List (Int×Int))}{f:List Nat}{s:Nat}{more:Bool}(h:PassI p f s more):PassI p f 0 false:=⟨h.len,h.und,h.bd,fun _ t ht=>by omega⟩
theorem PassI.sum{p:List (List (Int×Int))}{f:List Nat}{s:Nat}{more:Bool}(h:PassI p f s more):sumN f p.length≤sumN (lens p) p.length:=sumN_le h.bd
theorem PassI.end_{p:List (List (Int×Int))}{f:List Nat}(h:PassI p f p.length false):doneB p=true↔∀s,s<p.length→atN f s=(stA p s).length:=done_iff h.und (fun s hs=>h.no rfl s hs)
theorem sum_step{p:List (List (Int×Int))}{f:List Nat}{s:Nat}{more:Bool}(h:PassI p f s more)(hc:Can p f s):sumN (bump f s) p.length=sumN f p.length+1:=by
 have hs:=hc.lt
 rw[sumN_bump (by rw[h.len];exact hs.1),if_pos hs.1]
def natI (f:List Nat):List Int:=f.map (fun (x:Nat)=>(x:Int))
theorem natI_at{f:List Nat}{s:Nat}(h:s<f.length):(natI f)[s]?=some (atN f s:Int):=by simp[natI,atN,h]
theorem natI_bump{f:List Nat}{s:Nat}:(natI f).set s ((atN f s:Int)+1)=natI (bump f s):=by
 unfold natI bump
 rw[List.map_set]
 simp
theorem natI_zero(p:List (List (Int×Int))):tab p.length (fun _=>0)=natI (zeroN p):=by
 unfold natI zeroN
 rw[tab_zero,List.map_replicate];rfl
theorem plan_cell{w:World}{p:List (List (Int×Int))}{b off:Nat}(hc:∀i l,p[i]?=some l→∃s,w.cell? ⟨b,off+i,none⟩=some s∧IsActs w s l)(W:World)(hb:Below w.heap.size w W){s:Nat}(hs:s<p.length):
  ∃la lc,W.cell? ⟨b,off+s,none⟩=some (.slice la (stA p s).length lc)∧IsActs W (.slice la (stA p s).length lc) (stA p s):=by
 obtain ⟨l,hl⟩:=stage_at hs
 obtain ⟨u,h1,h2⟩:=hc s l hl
 rw[stA_at hl]
 obtain ⟨a,cap,rfl⟩:=h2.shape
 exact ⟨a,cap,cell_bel hb h1,h2.u_ hb⟩
theorem can_out{p:List (List (Int×Int))}{f:List Nat}{s:Nat}(h:¬atN f s<(stA p s).length):¬Can p f s:=fun hc=>h hc.lt.2
theorem below_go{w u v:World}(h:Below w.heap.size w u)(k:Below u.heap.size u v):Below w.heap.size w v:=h.trans (k.mono h.size)
end Go.Proofs.YtpniemnfdleiialGreat
