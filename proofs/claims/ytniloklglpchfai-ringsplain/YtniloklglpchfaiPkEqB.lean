/- Blocks of memory numbered otherwise: the steps of which operations are made. No program in sight. -/
import Derived.Test.YtniloklglpchfaiEqA
namespace Go.Proofs.Ytniloklglpchfai
open Go
theorem rn_add(r:Nat→Nat)(a:Addr)(n:Nat):(rnA r a).add n=rnA r (a.add n):=by
 unfold Addr.add rnA
 split<;>rfl
theorem Rl.cell{c:Cx}{w W:World}(h:Rl c w W){a:Addr}{v:Value}(ha:¬c.ob a.block)(hc:w.cell? a=some v):W.cell? (rnA c.r a)=some (rnV c.r v)∧okV c v:=by
 unfold World.cell? at hc
 split at hc
 ·rename_i x e z hx
  split at hc
  ·cases hc
  ·rename_i hs
   have hb:=h.blk a.block _ ha hx
   obtain ⟨q1,z',q2,_⟩:=hb.2
   refine ⟨?_,q1 v (Array.mem_of_getElem? hc)⟩
   unfold World.cell?
   show (match W.heap[c.r a.block]? with|some (.cells c _ _)=>if a.spot.isSome then none else c[a.off]?|_=>none)=_
   rw[q2]
   simp only[hs,Array.getElem?_map,hc,Option.map_some]
   simp
 ·cases hc
theorem Rl.noCell{c:Cx}{w W:World}(h:Rl c w W)(a:Addr)(ha:¬c.ob a.block)(s:String):tame (w.noCell a s):=by
 unfold World.noCell
 split
 ·rename_i hx
  exact (h.blk a.block _ ha hx).elim
 ·trivial
 ·trivial
theorem Rl.far{c:Cx}{w W:World}(h:Rl c w W)(a:Addr)(ha:¬c.ob a.block)(m:Bool):∃q,w.farLoad c.P a m=.error q∧tame q:=by
 unfold World.farLoad
 split
 ·rename_i at_ u hx
  exact (h.blk a.block _ ha hx).elim
 ·exact ⟨_,rfl,h.noCell a ha _⟩
theorem Rl.farS{c:Cx}{w W:World}(h:Rl c w W)(a:Addr)(ha:¬c.ob a.block)(v:Value)(m:Bool):∃q,w.farStore c.P a v m=.error q∧tame q:=by
 unfold World.farStore
 split
 ·rename_i at_ u hx
  exact (h.blk a.block _ ha hx).elim
 ·exact ⟨_,rfl,h.noCell a ha _⟩
theorem sm_load{c:Cx}{a:Addr}(ha:¬c.ob a.block):Sm c (load a) (load (rnA c.r a)) (fun v v'=>v'=rnV c.r v∧okV c v):=by
 refine sm_of ?_ (fun w W hr q w' h=>by
  have h':(Sem.load .plain a .pure:Sem Value).run c.P w=.halt q w':=h
  simp only[Sem.run]at h'
  cases hc:w.cell? a with
  |some x=>rw[hc]at h';cases h'
  |none=>
   rw[hc]at h'
   obtain ⟨p,hp,ht⟩:=hr.far a ha (Mode.plain==.atomic)
   rw[hp]at h'
   cases h'
   exact ⟨ht,hr.hk⟩)
 intro w W hr v w' h
 have h':(Sem.load .plain a .pure:Sem Value).run c.P w=.ok v w':=h
 simp only[Sem.run]at h'
 cases hc:w.cell? a with
 |some x=>
  rw[hc]at h'
  cases h'
  obtain ⟨q1,q2⟩:=hr.cell ha hc
  refine ⟨rnV c.r v,W,#[⟨.cell (rnA c.r a),false,false⟩],fun es=>?_,⟨rfl,q2⟩,hr,Gw.refl _,⟨rfl,rfl,rfl⟩,fun e he=>?_⟩
  ·show (Sem.load .plain (rnA c.r a) .pure:Sem Value).runT c.P W es=_
   simp only[Sem.runT,q1]
   rfl
  ·simp only[Array.mem_singleton]at he
   exact .inl ⟨a,false,he,by rw[hc];rfl,ha,fun e=>by cases e⟩
 |none=>
  rw[hc]at h'
  obtain ⟨q,hq,-⟩:=hr.far a ha (Mode.plain==.atomic)
  rw[hq]at h'
  cases h'
theorem sm_program{c:Cx}:Sm c program program (fun p q=>p=c.P∧q=c.P):=by
 refine sm_of ?_ (fun w W hr q w' h=>by cases h)
 intro w W hr v w' h
 cases h
 exact ⟨c.P,W,#[],fun es=>by show (Sem.program .pure:Sem Program).runT c.P W es=_;simp only[Sem.runT];simp,⟨rfl,rfl⟩,hr,Gw.refl _,⟨rfl,rfl,rfl⟩,fun e he=>by simp at he⟩
theorem sm_choose{c:Cx}{q:Question}:Sm c (choose q) (choose q) (fun a b=>a=b):=by
 intro w W hr
 refine ⟨fun v w' h _=>?_,fun p w' h _=>?_⟩
 ·have h':(Sem.choose q .pure:Sem Nat).run c.P w=.ok v w':=h
  simp only[Sem.run]at h'
  by_cases hq:q.forced
  ·rw[if_pos hq]at h'
   cases h'
   exact ⟨Gw.refl _,fun _=>⟨0,W,#[],fun es=>by show (Sem.choose q .pure:Sem Nat).runT c.P W es=_;simp only[Sem.runT,if_pos hq];simp,rfl,hr,(fun e he=>by simp at he),rfl,by omega⟩⟩
  ·rw[if_neg hq]at h'
   cases h'
   refine ⟨⟨Nat.le_refl _,fun _ h=>h,rfl,Nat.le_succ _⟩,fun hag=>⟨q.cut (W.tape W.drawn q),{ W with drawn:=W.drawn+1 },#[],fun es=>by show (Sem.choose q .pure:Sem Nat).runT c.P W es=_;simp only[Sem.runT,if_neg hq];simp,?_,⟨hr.inj,hr.top,hr.new,hr.down,hr.blk,hr.out,hr.rest⟩,(fun e he=>by simp at he),rfl,?_⟩⟩
   ·have:=hag 0 q (by show 0<w.drawn+1 - w.drawn;omega)
    simp only[Nat.add_zero]at this
    rw[this]
   ·show W.drawn+1=W.drawn+(w.drawn+1 - w.drawn)
    omega
 ·have h':(Sem.choose q .pure:Sem Nat).run c.P w=.halt p w':=h
  simp only[Sem.run]at h'
  split at h'<;>cases h'
theorem sm_mark{c:Cx}:Sm c (mark .noRoom) (mark .noRoom) (fun _ _=>True):=by
 refine sm_of ?_ (fun w W hr q w' h=>by cases h)
 intro w W hr v w' h
 cases h
 exact ⟨(),W,#[⟨.mark .noRoom,false,true⟩],fun es=>by show (Sem.mark .noRoom (.pure ()):Sem Unit).runT c.P W es=_;simp only[Sem.runT];rfl,trivial,hr,Gw.refl _,⟨rfl,rfl,rfl⟩,fun e he=>by simp only[Array.mem_singleton]at he;exact .inr (.inr he)⟩
theorem setCell_at{w:World}{a:Addr}{v:Value}{x:Array Value}{e:TypeId}{z:Nat×Nat}(h:w.heap[a.block]?=some (.cells x e z))(hs:a.spot=none)(b:Nat):(w.setCell a v).heap[b]?=if b=a.block then some (.cells (x.setIfInBounds a.off v) e z) else w.heap[b]?:=by
 unfold World.setCell
 simp only[Array.getElem?_modify]
 by_cases hb:a.block=b
 ·subst hb
  rw[if_pos rfl,if_pos rfl,h]
  simp[hs]
 ·rw[if_neg hb,if_neg (fun e=>hb e.symm)]
theorem cell_spot{w:World}{a:Addr}{v:Value}(h:w.cell? a=some v):a.spot=none∧∃x e z,w.heap[a.block]?=some (.cells x e z)∧x[a.off]?=some v:=by
 unfold World.cell? at h
 split at h
 ·rename_i x e z hx
  split at h
  ·cases h
  ·rename_i hs
   refine ⟨by cases q:a.spot with|none=>rfl|some y=>rw[q]at hs;exact absurd rfl hs,x,e,z,hx,h⟩
 ·cases h
theorem setCell_size(w:World)(a:Addr)(v:Value):(w.setCell a v).heap.size=w.heap.size:=by
 unfold World.setCell
 simp
theorem Rl.set{c:Cx}{w W:World}(h:Rl c w W){a:Addr}{u v:Value}(ha:¬c.ob a.block)(hc:w.cell? a=some u)(ho:c.own a.block)(hv:okV c v):Rl c (w.setCell a v) (W.setCell (rnA c.r a) (rnV c.r v)):=by
 obtain ⟨hs,x,e,z,hx,hu⟩:=cell_spot hc
 have hb:=h.blk a.block _ ha hx
 have hlt:a.off<x.size:=by
  rcases Nat.lt_or_ge a.off x.size with q|q
  ·exact q
  ·rw[Array.getElem?_eq_none q]at hu;cases hu
 obtain ⟨q1,z',q2,q3⟩:=hb.2
 have hX:W.heap[(rnA c.r a).block]?=some (.cells (x.map (rnV c.r)) e z'):=q2
 refine ⟨h.inj,fun k=>by rw[setCell_size,setCell_size];exact h.top k,fun k=>by rw[setCell_size];exact h.new k,h.down,fun b o hob hb'=>?_,fun B hB=>by
  rw[setCell_at hX hs]
  split
  ·next q=>exact absurd (by first|exact q.symm|exact q) (hB _ ho)
  ·exact h.out B hB,h.rest⟩
 rw[setCell_at hx hs]at hb'
 rw[setCell_at hX hs,show (rnA c.r a).block=c.r a.block from rfl]
 by_cases hbb:b=a.block
 ·subst hbb
  rw[if_pos rfl]at hb'
  rw[if_pos rfl]
  cases hb'
  refine ⟨fun q=>absurd ho q,fun y hy=>?_,z',?_,q3⟩
  ·rcases Array.mem_or_eq_of_mem_setIfInBounds hy with q|q
   ·exact q1 y q
   ·rw[q];exact hv
  ·show some (Obj.cells ((x.map (rnV c.r)).setIfInBounds a.off (rnV c.r v)) e z')=_
   congr 2
   apply Array.ext_getElem?
   intro i
   simp only[Array.getElem?_map,Array.getElem?_setIfInBounds,Array.size_map]
   by_cases hi:a.off=i
   ·subst hi;simp[hlt]
   ·simp[hi]
 ·rw[if_neg hbb]at hb'
  rw[if_neg (fun q=>hbb (h.inj _ _ q))]
  exact h.blk b o hob hb'
theorem gw_set{w:World}{a:Addr}{u v:Value}(hc:w.cell? a=some u):Gw w (w.setCell a v):=by
 obtain ⟨hs,x,e,z,hx,hu⟩:=cell_spot hc
 refine ⟨by rw[setCell_size];exact Nat.le_refl _,fun b hb=>?_,rfl,Nat.le_refl _⟩
 cases hq:w.cell? b with
 |none=>rw[hq]at hb;cases hb
 |some y=>
  obtain ⟨hs',x',e',z',hx',hu'⟩:=cell_spot hq
  unfold World.cell?
  rw[setCell_at hx hs]
  by_cases hbb:b.block=a.block
  ·rw[if_pos hbb]
   rw[hbb,hx]at hx'
   cases hx'
   simp only[hs',Array.getElem?_setIfInBounds]
   by_cases hi:a.off=b.off
   ·rw[if_pos hi]
    have:a.off<x.size:=by
     rcases Nat.lt_or_ge a.off x.size with q|q
     ·exact q
     ·rw[Array.getElem?_eq_none q]at hu;cases hu
    simp[this]
   ·rw[if_neg hi]
    simp[hu']
  ·rw[if_neg hbb,hx']
   simp[hs',hu']
theorem sm_store{c:Cx}{a:Addr}{v:Value}(ha:¬c.ob a.block)(hv:okV c v):Sm c (store a v) (store (rnA c.r a) (rnV c.r v)) (fun _ _=>True):=by
 refine sm_of ?_ (fun w W hr q w' h=>by
  have h':(Sem.store .plain a v (.pure ()):Sem Unit).run c.P w=.halt q w':=h
  by_cases k1:∃cs,v=.agg cs
  ·obtain ⟨cs,rfl⟩:=k1;cases h';exact ⟨trivial,hr.hk⟩
  by_cases k2:∃cs,v=.tuple cs
  ·obtain ⟨cs,rfl⟩:=k2;cases h';exact ⟨trivial,hr.hk⟩
  rw[Sem.run.eq_5 _ _ _ _ _ _ (fun cs e=>k1 ⟨cs,e⟩) (fun cs e=>k2 ⟨cs,e⟩)]at h'
  cases hc:w.cell? a with
  |none=>
   rw[hc]at h'
   obtain ⟨p,hp,ht⟩:=hr.farS a ha v (Mode.plain==.atomic)
   rw[hp]at h'
   cases h'
   exact ⟨ht,hr.hk⟩
  |some x=>
   rw[hc]at h'
   cases hf:w.frozen? a with
   |true=>rw[hf]at h';cases h';exact ⟨trivial,hr.hk⟩
   |false=>rw[hf]at h';cases h')
 intro w W hr u w' h
 have h':(Sem.store .plain a v (.pure ()):Sem Unit).run c.P w=.ok u w':=h
 have k1:∀cs,v=.agg cs→False:=fun cs e=>by subst e;cases h'
 have k2:∀cs,v=.tuple cs→False:=fun cs e=>by subst e;cases h'
 rw[Sem.run.eq_5 _ _ _ _ _ _ k1 k2]at h'
 have j1:∀cs,rnV c.r v=.agg cs→False:=fun cs e=>by obtain ⟨d,hd⟩:=rn_agg hv e;exact k1 _ hd
 have j2:∀cs,rnV c.r v=.tuple cs→False:=fun cs e=>by obtain ⟨d,hd⟩:=rn_tuple hv e;exact k2 _ hd
 cases hc:w.cell? a with
 |none=>
  rw[hc]at h'
  obtain ⟨q,hq,-⟩:=hr.farS a ha v (Mode.plain==.atomic)
  rw[hq]at h'
  cases h'
 |some x=>
  rw[hc]at h'
  obtain ⟨hs,y,e,z,hx,hu⟩:=cell_spot hc
  have hb:=hr.blk a.block _ ha hx
  have hlt:a.off<y.size:=by
   rcases Nat.lt_or_ge a.off y.size with q|q
   ·exact q
   ·rw[Array.getElem?_eq_none q]at hu;cases hu
  cases hf:w.frozen? a with
  |true=>rw[hf]at h';cases h'
  |false=>
   rw[hf]at h'
   cases h'
   have hfz:¬(z.1≤a.off∧a.off<z.2):=by
    unfold World.frozen? at hf
    rw[hx]at hf
    simpa using hf
   have ho:c.own a.block:=by
    rcases Classical.em (c.own a.block) with q|q
    ·exact q
    ·have:=hb.1 q
     exact absurd ⟨by omega,by omega⟩ hfz
   obtain ⟨q1,z',q2,q3⟩:=hb.2
   have hF:W.frozen? (rnA c.r a)=false:=by
    unfold World.frozen?
    show (match W.heap[c.r a.block]? with|some (.cells _ _ (lo,hi))=>lo≤a.off&&a.off<hi|_=>false)=false
    rw[q2]
    cases hz:(decide (z'.1≤a.off)&&decide (a.off<z'.2)) with
    |false=>exact hz
    |true=>
     simp only[Bool.and_eq_true,decide_eq_true_eq]at hz
     exact absurd (q3 _ hz.1 hz.2) hfz
   refine ⟨(),W.setCell (rnA c.r a) (rnV c.r v),#[⟨.cell (rnA c.r a),true,false⟩],fun es=>?_,trivial,hr.set ha hc ho hv,gw_set hc,⟨rfl,rfl,rfl⟩,fun e he=>?_⟩
   ·show (Sem.store .plain (rnA c.r a) (rnV c.r v) (.pure ()):Sem Unit).runT c.P W es=_
    rw[Sem.runT.eq_5 _ _ _ _ _ _ _ j1 j2,(hr.cell ha hc).1,hF]
    rfl
   ·simp only[Array.mem_singleton]at he
    exact .inl ⟨a,true,he,(gw_set hc).cell a (by rw[hc];rfl),ha,fun _=>ho⟩
theorem Rl.push{c:Cx}{w W:World}(h:Rl c w W){o O:Obj}(ho:ObR c w.heap.size o (some O)):Rl c { w with heap:=w.heap.push o } { W with heap:=W.heap.push O }:=by
 have hr:c.r w.heap.size=W.heap.size:=by have:=h.top 0;simpa using this
 refine ⟨h.inj,fun k=>?_,fun k=>?_,h.down,fun b x hob hb=>?_,fun B hB=>by
  simp only[Array.getElem?_push]
  split
  ·next q=>exact absurd (hr.trans (by first|exact q.symm|exact q)) (hB _ (h.new 0).1)
  ·exact h.out B hB,h.rest⟩
 ·have:=h.top (1+k)
  simp only[Array.size_push]
  rw[show w.heap.size+1+k=w.heap.size+(1+k) by omega,this]
  omega
 ·simp only[Array.size_push]
  have:=h.new (1+k)
  rwa [show w.heap.size+1+k=w.heap.size+(1+k) by omega]
 ·simp only[Array.getElem?_push]at hb ⊢
  by_cases hbb:b=w.heap.size
  ·subst hbb
   rw[if_pos rfl]at hb
   cases hb
   rw[hr,if_pos rfl]
   exact ho
  ·rw[if_neg hbb]at hb
   rw[if_neg (fun q=>hbb (h.inj _ _ (q.trans hr.symm)))]
   exact h.blk b x hob hb
theorem gw_push(w:World)(o:Obj):Gw w { w with heap:=w.heap.push o }:=by
 refine ⟨by simp,fun b hb=>?_,rfl,Nat.le_refl _⟩
 cases hq:w.cell? b with
 |none=>rw[hq]at hb;cases hb
 |some y=>
  obtain ⟨hs',x',e',z',hx',hu'⟩:=cell_spot hq
  have:b.block<w.heap.size:=by
   rcases Nat.lt_or_ge b.block w.heap.size with q|q
   ·exact q
   ·rw[Array.getElem?_eq_none q]at hx';cases hx'
  unfold World.cell?
  simp only[Array.getElem?_push,if_neg (Nat.ne_of_lt this),hx',hs',hu']
  simp
theorem sm_newObj{c:Cx}{o O:Obj}(ho:∀n,c.own n→ObR c n o (some O)):Sm c (newObj o) (newObj O) (fun n n'=>n'=c.r n∧c.own n∧¬c.ob n):=by
 intro w W hr
 refine ⟨fun n w' h hl=>?_,fun q w' h _=>by cases h⟩
 cases h
 have hn:=hr.new 0
 simp only[Nat.add_zero]at hn
 have hob:=hn.2 (by simpa using hl)
 exact ⟨gw_push _ _,fun _=>⟨W.heap.size,{ W with heap:=W.heap.push O },#[],fun es=>by show (Sem.new O .pure:Sem Nat).runT c.P W es=_;simp only[Sem.runT];simp,⟨by have:=hr.top 0;simpa using this.symm,hn.1,hob⟩,hr.push (ho _ hn.1),(fun e he=>by simp at he),rfl,by show W.drawn=W.drawn+(w.drawn - w.drawn);omega⟩⟩
theorem sm_newRow{c:Cx}{e:TypeId}{x y:Array Value}(hx:okVs c x)(hy:y=x.map (rnV c.r)):Sm c (newRow e x) (newRow e y) (fun a a'=>a'=rnA c.r a∧c.own a.block∧¬c.ob a.block∧a.spot=none):=by
 subst hy
 unfold newRow
 refine sm_bind (sm_newObj (fun n hn=>⟨fun q=>absurd hn q,hx,(0,0),rfl,fun i _ h=>by omega⟩)) ?_
 rintro a b ⟨rfl,h⟩
 exact sm_pure ⟨rfl,h.1,h.2,rfl⟩
theorem blk_add(a:Addr)(n:Nat):(a.add n).block=a.block:=by unfold Addr.add;split<;>rfl
def Still (P:Program) {α:Type} (t:Sem α):Prop:=∃x:Except Halt α,(∀q,x=.error q→tame q)∧∀w es,t.runT P w es=((match x with|.ok a=>.ok a w|.error h=>.halt h w),es)
theorem still_pure{P:Program}{α:Type}(a:α):Still P (pure a:Sem α):=⟨.ok a,(fun q e=>by cases e),fun _ _=>rfl⟩
theorem still_halt{P:Program}{α:Type}(h:Halt)(ht:tame h:=by trivial):Still P (.halt h:Sem α):=⟨.error h,(fun q e=>by cases e;exact ht),fun _ _=>rfl⟩
theorem still_bind{P:Program}{α β:Type}{t:Sem α}{f:α→Sem β}(h:Still P t)(k:∀a,Still P (f a)):Still P (t >>=f):=by
 obtain ⟨x,hxt,hx⟩:=h
 cases x with
 |error q=>exact ⟨.error q,(fun p e=>by cases e;exact hxt _ rfl),fun w es=>by show (t.bind f).runT P w es=_;rw[Sem.runT_bind',hx]⟩
 |ok a=>
  obtain ⟨y,hyt,hy⟩:=k a
  exact ⟨y,hyt,fun w es=>by show (t.bind f).runT P w es=_;rw[Sem.runT_bind',hx];exact hy w es⟩
theorem still_program{P:Program}:Still P program:=⟨.ok P,(fun q e=>by cases e),fun _ _=>rfl⟩
theorem still_typeInfo{P:Program}(t:TypeId):Still P (typeInfo t):=by
 unfold typeInfo
 refine still_bind still_program fun p=>?_
 split
 ·exact still_pure _
 ·exact still_halt _
theorem still_underlying{P:Program}(t:TypeId):Still P (underlying t):=by
 unfold underlying
 refine still_bind still_program fun p=>?_
 split
 ·exact still_pure _
 ·exact still_halt _
theorem still_sizeOf{P:Program}(t:TypeId):Still P (sizeOf t):=still_bind (still_typeInfo t) fun _=>still_pure _
theorem still_isAgg{P:Program}(t:TypeId):Still P (isAgg t):=by
 unfold isAgg
 refine still_bind (still_underlying t) fun d=>?_
 split<;>exact still_pure _
theorem still_zero{P:Program}(t:TypeId):Still P (zeroValue t):=by
 unfold zeroValue
 refine still_bind (still_typeInfo t) fun d=>?_
 split
 ·exact still_pure _
 ·exact still_halt _
theorem still_mapL{P:Program}{α β:Type}{f:α→Sem β}(h:∀a,Still P (f a)):∀l:List α,Still P (l.mapM f)
 |[]=>by rw[List.mapM_nil];exact still_pure _
 |a::l=>by
  rw[List.mapM_cons]
  exact still_bind (h a) fun b=>still_bind (still_mapL h l) fun bs=>still_pure _
theorem sm_still{c:Cx}{α:Type}{t:Sem α}(h:Still c.P t):Sm c t t (fun a b=>a=b∧∀w,t.run c.P w=.ok a w):=by
 obtain ⟨x,hxt,hx⟩:=h
 refine sm_of ?_ ?_
 ·intro w W hr a w' ht
  have h1:=hx w #[]
  have h2:=Sem.runT_fst c.P t w #[]
  rw[h1,ht]at h2
  cases x with
  |error q=>cases h2
  |ok b=>
   cases h2
   exact ⟨a,W,#[],fun es=>by rw[hx];simp,⟨rfl,fun w=>by have:=Sem.runT_fst c.P t w #[];rw[hx]at this;exact this.symm⟩,hr,Gw.refl _,⟨rfl,rfl,rfl⟩,fun e he=>by simp at he⟩
 ·intro w W hr q w' ht
  have h1:=hx w #[]
  have h2:=Sem.runT_fst c.P t w #[]
  rw[h1,ht]at h2
  cases x with
  |ok b=>cases h2
  |error p=>cases h2;exact ⟨hxt q rfl,hr.hk⟩
def v0B:Value→Bool
 |.pointer none|.slice none _ _|.map none|.chan none|.bool _|.int _ _|.string _|.nilFunc|.nilIface=>true
 |_=>false
def vB (v:Value):Bool:=v0B v||match v with
 |.agg c=>c.all v0B
 |_=>false
theorem v0B_ok{c:Cx}{r:Nat→Nat}{v:Value}(h:v0B v=true):rnV r v=v∧okV c v:=by
 unfold v0B at h
 split at h
 all_goals first
  |(cases h;done)
  |exact ⟨by simp[rnV,rnS_none],by simp[okV,okAd,okB,okC,okS_nil]⟩
theorem vB_ok{c:Cx}{r:Nat→Nat}{v:Value}(h:vB v=true):rnV r v=v∧okV c v:=by
 unfold vB at h
 rw[Bool.or_eq_true]at h
 rcases h with h|h
 ·exact v0B_ok h
 ·cases v with
  |agg l=>
   have h:l.all v0B=true:=h
   rw[Array.all_eq_true_iff_forall_mem]at h
   refine ⟨?_,?_⟩
   ·simp only[rnV]
    congr 1
    refine (Array.map_congr_left fun x hx=>(v0B_ok (c:=c) (h x hx)).1).trans ?_
    simp
   ·simp only[okV]
    exact fun x hx=>(v0B_ok (r:=r) (h x hx)).2
  |_=>cases h
def ZeroAt (P:Program) (t:TypeId):Prop:=∀i v,P.info? t=some i→i.zero=some v→vB v=true
def ZeroSl (P:Program) (t:TypeId):Prop:=∀e,P.underlying t=some (.slice e)→ZeroAt P e
theorem run_zero{P:Program}{t:TypeId}{v:Value}{w w':World}(h:(zeroValue t).run P w=.ok v w'):∃i,P.info? t=some i∧i.zero=some v:=by
 unfold zeroValue typeInfo at h
 cases hi:P.info? t with
 |none=>
  simp only[Sem.run_bind,run_program,Result.andThen,hi]at h
  cases h
 |some i=>
  simp only[Sem.run_bind,run_program,Result.andThen,hi,Sem.run_pure]at h
  cases hz:i.zero with
  |none=>
   rw[hz]at h
   cases h
  |some x=>
   rw[hz]at h
   cases h
   exact ⟨i,rfl,hz⟩
theorem sm_zero{c:Cx}(t:TypeId)(hz:ZeroAt c.P t):Sm c (zeroValue t) (zeroValue t) (fun a b=>b=rnV c.r a∧b=a∧okV c a):=by
 refine (sm_still (still_zero t)).mono ?_
 rintro a b ⟨rfl,h⟩
 obtain ⟨i,h1,h2⟩:=run_zero (h default)
 obtain ⟨q1,q2⟩:=vB_ok (c:=c) (r:=c.r) (hz i a h1 h2)
 exact ⟨q1.symm,rfl,q2⟩
theorem okV_cells{c:Cx}{v:Value}(h:okV c v):okVs c v.cells:=by
 unfold Value.cells
 split
 ·simpa [okV,okVs] using h
 ·intro x hx
  simp at hx
  rw[hx];exact h
theorem flat_cells{v:Value}(h:flat v):v.cells=#[v]:=by
 cases v<;>first|rfl|exact h.elim
theorem rn_cells{c:Cx}{v:Value}(h:okV c v):(rnV c.r v).cells=v.cells.map (rnV c.r):=by
 cases v with
 |func fn a b=>
  rcases (show _∨_ by simpa only[okV] using h) with q|q
  ·simp only[rnV]
   rw[pzOr_ok q.1]
   simp[Value.cells,rnV,pzOr_ok q.1]
  ·obtain ⟨v,hv,hq⟩:=isPz_eq q
   rw[hq,rnV_pz,flat_cells hv]
   show _=(#[pz v]:Array Value).map (rnV c.r)
   simp[rnV_pz]
 |_=>simp[rnV,Value.cells]
theorem sm_loadFrom{c:Cx}(a:Addr)(ha:¬c.ob a.block):∀(n i:Nat) (x y:Array Value),y=x.map (rnV c.r)→okVs c x→Sm c (loadCellsFrom a i n x) (loadCellsFrom (rnA c.r a) i n y) (fun p q=>q=p.map (rnV c.r)∧okVs c p)
 |0,i,x,y,h,k=>sm_pure ⟨h,k⟩
 |n+1,i,x,y,h,k=>by
  unfold loadCellsFrom
  rw[rn_add]
  refine sm_bind (sm_load (by rw[blk_add];exact ha)) ?_
  rintro v v' ⟨rfl,hv⟩
  refine sm_loadFrom a ha n (i+1) _ _ ?_ ?_
  ·rw[h];simp
  ·intro z hz
   rcases Array.mem_push.1 hz with q|q
   ·exact k z q
   ·rw[q];exact hv
theorem sm_loadCells{c:Cx}(a:Addr)(ha:¬c.ob a.block)(n:Nat):Sm c (loadCells a n) (loadCells (rnA c.r a) n) (fun p q=>q=p.map (rnV c.r)∧okVs c p):=
 sm_loadFrom a ha n 0 #[] #[] (by simp) (fun x hx=>by simp at hx)
theorem sm_storeCells{c:Cx}(a:Addr)(ha:¬c.ob a.block):∀(l:List Value) (i:Nat),(∀v∈l,okV c v)→Sm c (storeCells a l i) (storeCells (rnA c.r a) (l.map (rnV c.r)) i) (fun _ _=>True)
 |[],i,_=>by unfold storeCells;exact sm_pure trivial
 |v::l,i,h=>by
  simp only[List.map_cons]
  unfold storeCells
  rw[rn_add]
  exact sm_bind (sm_store (by rw[blk_add];exact ha) (h v (by simp))) fun _ _ _=>sm_storeCells a ha l (i+1) (fun x hx=>h x (by simp[hx]))
theorem sm_loadVar{c:Cx}(t:TypeId)(a:Addr)(ha:¬c.ob a.block):Sm c (loadVar t a) (loadVar t (rnA c.r a)) (fun v v'=>v'=rnV c.r v∧okV c v):=by
 unfold loadVar
 refine sm_bind (sm_still (still_isAgg t)) ?_
 rintro b b' ⟨rfl,_⟩
 cases b with
 |false=>exact sm_load ha
 |true=>
  refine sm_bind (sm_still (still_sizeOf t)) ?_
  rintro n n' ⟨rfl,_⟩
  refine sm_bind (sm_loadCells a ha n) ?_
  rintro p q ⟨rfl,h⟩
  exact sm_pure ⟨by simp[rnV],by simpa [okV,okVs] using h⟩
theorem sm_storeVar{c:Cx}(t:TypeId)(a:Addr)(ha:¬c.ob a.block){v:Value}(hv:okV c v):Sm c (storeVar t a v) (storeVar t (rnA c.r a) (rnV c.r v)) (fun _ _=>True):=by
 unfold storeVar
 refine sm_bind (sm_still (still_sizeOf t)) ?_
 rintro n n' ⟨rfl,_⟩
 rw[rn_cells hv]
 simp only[Array.size_map,Array.toList_map]
 have hc:∀x∈v.cells.toList,okV c x:=fun x hx=>okV_cells hv x (by simpa using hx)
 split
 ·exact sm_halt
 ·exact sm_storeCells a ha _ 0 hc
end Go.Proofs.Ytniloklglpchfai
