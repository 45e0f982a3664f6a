/- Blocks of memory numbered otherwise: operation by operation. No program in sight. -/
import Derived.Test.YtniloklglpchfaiPkEqB
namespace Go.Proofs.Ytniloklglpchfai
open Go
def NxR (c:Cx):Next→Next→Prop
 |.value v,n=>n=.value (rnV c.r v)∧okV c v
 |.skip,n=>n=.skip
 |.enter f x,n=>n=.enter f (x.map (rnV c.r))∧okVs c x∧c.F f
 |.round l f x a b,n=>n=.round (c.r l) f (x.map (rnV c.r)) a b∧okVs c x∧c.C a∧c.C b∧c.G f∧¬c.ob l
 |_,_=>False
def VR (c:Cx) (v v':Value):Prop:=v'=rnV c.r v∧okV c v
theorem vr_slice{c:Cx}{a:Addr}(n k:Nat)(hb:¬c.ob a.block)(hs:a.spot=none):VR c (.slice (some a) n k) (.slice (some (rnA c.r a)) n k):=
 ⟨by simp only[rnV];rw[rnS_ok _ _ (fun x e=>by cases e;exact hs)];rfl,by simp only[okV];exact okS_some n k hb hs⟩
def VsR (c:Cx) (x y:Array Value):Prop:=y=x.map (rnV c.r)∧okVs c x
theorem sm_newVar{c:Cx}{t:TypeId}{v v':Value}(h:VR c v v'):Sm c (newVar t v) (newVar t v') (fun a a'=>a'=rnA c.r a∧c.own a.block∧¬c.ob a.block):=by
 obtain ⟨rfl,h⟩:=h
 exact (sm_newRow (okV_cells h) (rn_cells h)).mono fun _ _ h=>⟨h.1,h.2.1,h.2.2.1⟩
theorem sm_alloc{c:Cx}(t:TypeId)(hz:ZeroAt c.P t):Sm c (Instr.alloc t true (.tuple #[])) (Instr.alloc t true (.tuple #[])) (VR c):=by
 unfold Instr.alloc
 refine sm_bind (sm_zero t hz) ?_
 rintro v v' ⟨h1,-,h2⟩
 refine sm_bind (sm_newVar ⟨h1,h2⟩) ?_
 rintro a a' ⟨rfl,-,hb⟩
 exact sm_pure ⟨by simp[rnV],by simpa [okV,okAd] using hb⟩
theorem sm_box{c:Cx}(t:TypeId){v v':Value}(h:VR c v v'):Sm c (Instr.box t v) (Instr.box t v') (VR c):=by
 unfold Instr.box
 refine sm_bind (sm_newVar h) ?_
 rintro a a' ⟨rfl,-,hb⟩
 exact sm_pure ⟨by simp[rnV],by simpa [okV,okAd] using hb⟩
theorem sm_sure{c:Cx}{v v':Value}(h:VR c v v'):Sm c (Instr.sureAddr v) (Instr.sureAddr v') (fun a a'=>a'=rnA c.r a∧¬c.ob a.block):=by
 obtain ⟨rfl,h⟩:=h
 unfold Instr.sureAddr
 cases v with
 |pointer a=>
  cases a with
  |none=>exact sm_halt
  |some a=>simp only[rnV,Option.map_some];exact sm_pure ⟨rfl,by simpa [okV,okAd] using h⟩
 |_=>exact sm_halt
theorem sm_loadAt{c:Cx}(t:TypeId){v v':Value}(h:VR c v v'):Sm c (Instr.loadAt t v) (Instr.loadAt t v') (VR c):=by
 unfold Instr.loadAt
 refine sm_bind (sm_sure h) ?_
 rintro a a' ⟨rfl,ha⟩
 exact sm_loadVar t a ha
theorem sm_storeAt{c:Cx}(t:TypeId){v v' x x':Value}(h:VR c v v')(k:VR c x x'):Sm c (Instr.storeAt t v x) (Instr.storeAt t v' x') (fun _ _=>True):=by
 unfold Instr.storeAt
 refine sm_bind (sm_sure h) ?_
 rintro a a' ⟨rfl,ha⟩
 obtain ⟨rfl,k⟩:=k
 exact sm_storeVar t a ha k
theorem sm_asIntOf{c:Cx}{v v':Value}(h:VR c v v'):Sm c (asIntOf v) (asIntOf v') (fun a b=>a=b):=by
 obtain ⟨rfl,h⟩:=h
 unfold asIntOf
 cases v with
 |int k n=>simp only[rnV];exact sm_pure rfl
 |pointer a=>cases a<;>exact sm_halt
 |_=>exact sm_halt
theorem sm_asInt{c:Cx}{v v':Value}(h:VR c v v'):Sm c (asInt v) (asInt v') (fun a b=>a=b):=by
 unfold asInt
 refine sm_bind (sm_asIntOf h) ?_
 rintro a b rfl
 exact sm_pure rfl
theorem sm_asBool{c:Cx}{v v':Value}(h:VR c v v'):Sm c (asBool v) (asBool v') (fun a b=>a=b):=by
 obtain ⟨rfl,h⟩:=h
 unfold asBool
 cases v with
 |bool b=>simp only[rnV];exact sm_pure rfl
 |_=>exact sm_halt
def NoDf (w w':World):Prop:=∀(b:Nat) (ds:Option (List Deferred)),w'.heap[b]?=some (Obj.deferred ds)→w.heap[b]?=some (Obj.deferred ds)
theorem NoDf.refl(w:World):NoDf w w:=fun _ _ h=>h
theorem NoDf.trans{a b c:World}(h:NoDf a b)(k:NoDf b c):NoDf a c:=fun x d e=>h x d (k x d e)
def NoOk (P:Program) {α:Type} (t:Sem α):Prop:=∀w,∃q w',t.run P w=.halt q w'∧tame q∧NoDf w w'
def Tm (P:Program) {α:Type} (t:Sem α):Prop:=(∀w q w',t.run P w=.halt q w'→tame q∧NoDf w w')∧∀w a w',t.run P w=.ok a w'→NoDf w w'
theorem tm_pure{P:Program}{α:Type}(a:α):Tm P (pure a:Sem α):=⟨(fun _ _ _ h=>by cases h),fun _ _ _ h=>by cases h;exact NoDf.refl _⟩
theorem tm_halt{P:Program}{α:Type}{q:Halt}(hq:tame q:=by trivial):Tm P (.halt q:Sem α):=⟨(fun _ _ _ h=>by cases h;exact ⟨hq,NoDf.refl _⟩),fun _ _ _ h=>by cases h⟩
theorem tm_bind{P:Program}{α β:Type}{t:Sem α}{f:α→Sem β}(h:Tm P t)(k:∀a,Tm P (f a)):Tm P (t >>=f):=by
 constructor
 ·intro w q w' hx
  have hx':(t.bind f).run P w=.halt q w':=hx
  rw[Sem.run_bind']at hx'
  cases ht:t.run P w with
  |halt p w1=>rw[ht]at hx';cases hx';exact h.1 w q w' ht
  |ok a w1=>rw[ht]at hx';exact ⟨((k a).1 w1 q w' hx').1,(h.2 w a w1 ht).trans ((k a).1 w1 q w' hx').2⟩
 ·intro w x w' hx
  have hx':(t.bind f).run P w=.ok x w':=hx
  rw[Sem.run_bind']at hx'
  cases ht:t.run P w with
  |halt p w1=>rw[ht]at hx';cases hx'
  |ok a w1=>rw[ht]at hx';exact (h.2 w a w1 ht).trans ((k a).2 w1 x w' hx')
theorem tm_still{P:Program}{α:Type}{t:Sem α}(h:Still P t):Tm P t:=by
 obtain ⟨x,hxt,hx⟩:=h
 constructor
 ·intro w q w' ht
  have h1:=hx w #[]
  have h2:=Sem.runT_fst P t w #[]
  rw[h1,ht]at h2
  cases x with
  |ok b=>cases h2
  |error p=>cases h2;exact ⟨hxt q rfl,NoDf.refl _⟩
 ·intro w a w' ht
  have h1:=hx w #[]
  have h2:=Sem.runT_fst P t w #[]
  rw[h1,ht]at h2
  cases x with
  |ok b=>cases h2;exact NoDf.refl _
  |error p=>cases h2
theorem tm_choose{P:Program}(q:Question):Tm P (choose q):=by
 constructor
 ·intro w p w' h
  have h':(Sem.choose q .pure:Sem Nat).run P w=.halt p w':=h
  simp only[Sem.run]at h'
  split at h'<;>cases h'
 ·intro w p w' h
  have h':(Sem.choose q .pure:Sem Nat).run P w=.ok p w':=h
  simp only[Sem.run]at h'
  split at h'<;>cases h'<;>exact fun _ _ e=>e
theorem tm_newRow{P:Program}(t:TypeId)(x:Array Value):Tm P (newRow t x):=by
 unfold newRow
 refine tm_bind ⟨(fun w p w' h=>by cases h),fun w a w' h=>?_⟩ fun _=>tm_pure _
 cases h
 intro b ds e
 simp only[Array.getElem?_push]at e
 split at e
 ·cases e
 ·exact e
theorem tm_shape{P:Program}(b:Nat):Tm P (shape b):=⟨(fun w p w' h=>by cases h),fun w a w' h=>by cases h;exact NoDf.refl _⟩
theorem tm_frozen{P:Program}(a:Addr):Tm P (frozen a):=⟨(fun w p w' h=>by cases h),fun w a w' h=>by cases h;exact NoDf.refl _⟩
theorem tm_mark{P:Program}(m:Mark):Tm P (mark m):=⟨(fun w p w' h=>by cases h),fun w a w' h=>by cases h;exact NoDf.refl _⟩
theorem noOk_halt{P:Program}{α:Type}(q:Halt)(hq:tame q:=by trivial):NoOk P (.halt q:Sem α):=fun w=>⟨q,w,rfl,hq,NoDf.refl _⟩
theorem noOk_bind{P:Program}{α β:Type}{t:Sem α}{f:α→Sem β}(ht:Tm P t)(h:∀a,NoOk P (f a)):NoOk P (t >>=f):=by
 intro w
 show ∃q w',(t.bind f).run P w=.halt q w'∧tame q∧NoDf w w'
 rw[Sem.run_bind']
 cases hx:t.run P w with
 |halt q w1=>exact ⟨q,w1,rfl,ht.1 w q w1 hx⟩
 |ok a w1=>
  obtain ⟨q,w',e,h1,h2⟩:=h a w1
  exact ⟨q,w',e,h1,(ht.2 w a w1 hx).trans h2⟩
theorem noOk_bind'{P:Program}{α β:Type}{t:Sem α}{f:α→Sem β}(h:NoOk P t):NoOk P (t >>=f):=by
 intro w
 show ∃q w',(t.bind f).run P w=.halt q w'∧tame q∧NoDf w w'
 rw[Sem.run_bind']
 obtain ⟨q,w1,e,hq⟩:=h w
 rw[e]
 exact ⟨q,w1,rfl,hq⟩
theorem noOk_panic{P:Program}{α:Type}(e:RuntimeError):NoOk P (runtimePanic e:Sem α):=by
 unfold runtimePanic
 refine noOk_bind (tm_still still_program) fun p=>?_
 have he:∀t,Tm P (elemOf t):=fun t=>by
  unfold elemOf
  refine tm_bind (tm_still (still_underlying t)) fun d=>?_
  split
  ·exact tm_pure _
  ·exact tm_halt
 have hn:∀t v,Tm P (newVar t v):=fun t v=>tm_newRow _ _
 cases e with
 |typeAssertion i c a m=>exact noOk_bind (he _) fun _=>noOk_bind (hn _ _) fun _=>noOk_halt _
 |panicNil=>exact noOk_bind (he _) fun _=>noOk_bind (hn _ _) fun _=>noOk_halt _
 |_=>exact noOk_halt _
theorem noOk_bounds{P:Program}{α:Type}(k:IntKind)(x y:Int)(d:BoundsCode):NoOk P (boundsPanic k x y d:Sem α):=by
 unfold boundsPanic
 extract_lets j
 have hj:∀b,NoOk P (j b):=fun b=>noOk_panic _
 split
 ·exact noOk_bind (tm_bind (tm_choose _) fun _=>tm_pure _) fun _=>hj _
 ·exact noOk_bind (tm_pure _) fun _=>hj _
theorem sm_none{c:Cx}{α β:Type}{R:α→β→Prop}{t:Sem α}{t':Sem β}(h:NoOk c.P t):Sm c t t' R:=by
 refine sm_of (fun w W hr a w' ht=>?_) (fun w W hr q w' ht=>?_)
 ·obtain ⟨q,w1,e,-⟩:=h w
  rw[e]at ht
  cases ht
 ·obtain ⟨p,w1,e,hp,hn⟩:=h w
  rw[e]at ht
  cases ht
  exact ⟨hp,fun b ds hb e=>hr.hk b ds hb (hn b ds e)⟩
theorem sm_makeInterface{c:Cx}(t:TypeId){v v':Value}(h:VR c v v'):Sm c (Instr.makeInterface t v) (Instr.makeInterface t v') (VR c):=by
 unfold Instr.makeInterface
 refine sm_bind (sm_still (still_underlying t)) ?_
 rintro d d' ⟨rfl,-⟩
 obtain ⟨rfl,h⟩:=h
 split
 ·exact sm_halt
 ·exact sm_pure ⟨by simp[rnV],by simpa [okV] using h⟩
theorem sm_extract{c:Cx}{v v':Value}(h:VR c v v')(i:Nat):Sm c (Instr.extract v i) (Instr.extract v' i) (VR c):=by
 obtain ⟨rfl,h⟩:=h
 unfold Instr.extract
 cases v with
 |tuple vs=>
  simp only[rnV,Array.getElem?_map]
  cases hi:vs[i]? with
  |none=>exact sm_halt
  |some x=>
   simp only[Option.map_some]
   refine sm_pure ⟨rfl,?_⟩
   simp only[okV]at h
   exact h x (Array.mem_of_getElem? hi)
 |_=>exact sm_halt
theorem sm_unary{c:Cx}(op:UnOp){v v':Value}(h:VR c v v'):Sm c (Op.unary op v) (Op.unary op v') (VR c):=by
 obtain ⟨rfl,h⟩:=h
 unfold Op.unary
 cases v with
 |pointer a=>cases op<;>cases a<;>exact sm_halt
 |int k n=>
  cases op<;>simp only[rnV]<;>first
   |exact sm_halt
   |(simp only[Op.intArith];exact sm_pure ⟨by simp[rnV],by simp[okV]⟩)
   |(simp only[Op.intBits];exact sm_pure ⟨by simp[rnV],by simp[okV]⟩)
 |bool b=>cases op<;>simp only[rnV]<;>first|exact sm_halt|exact sm_pure ⟨by simp[rnV],by simp[okV]⟩
 |float k n=>simp[okV]at h
 |complex k n m=>simp[okV]at h
 |_=>cases op<;>exact sm_halt
theorem run_under{P:Program}{t:TypeId}{d:TypeDesc}{w:World}(h:(underlying t).run P w=.ok d w):P.underlying t=some d:=by
 unfold underlying at h
 cases hi:P.underlying t with
 |none=>simp only[Sem.run_bind,run_program,Result.andThen,hi]at h;cases h
 |some i=>simp only[Sem.run_bind,run_program,Result.andThen,hi]at h;cases h;rfl
theorem sm_indexAt{c:Cx}(t:TypeId){v v' x x':Value}(h:VR c v v')(k:VR c x x'):Sm c (Instr.indexAt t v x) (Instr.indexAt t v' x') (VR c):=by
 unfold Instr.indexAt
 refine sm_bind (sm_asIntOf k) ?_
 rintro ⟨ki,i⟩ b rfl
 refine sm_bind (sm_still (still_underlying t)) ?_
 rintro d d' ⟨rfl,-⟩
 extract_lets j
 have hj:∀p:Option Addr×Nat×TypeId,okAd c p.1→Sm c (j p) (j (p.1.map (rnA c.r),p.2.1,p.2.2)) (VR c):=by
  rintro ⟨b,n,e⟩ hb
  show Sm c (underlying t >>=_) (underlying t >>=_) (VR c)
  refine sm_bind (sm_still (still_underlying t)) ?_
  rintro d d' ⟨rfl,-⟩
  cases b with
  |none=>exact sm_none (noOk_bounds _ _ _ _)
  |some a=>
   simp only[Option.map_some]
   split
   ·refine sm_bind (sm_still (still_sizeOf _)) ?_
    rintro n n' ⟨rfl,-⟩
    rw[rn_add]
    exact sm_pure ⟨by simp[rnV],by have:=hb a rfl;simpa [okV,okAd,blk_add] using this⟩
   ·refine sm_none ?_
    (repeat' split)<;>first|exact noOk_halt _|exact noOk_bounds _ _ _ _
 have hj0:∀x y e,Sm c (j (some x,0,e)) (j (some y,0,e)) (VR c):=by
  intro x y e
  show Sm c (underlying t >>=_) (underlying t >>=_) (VR c)
  refine sm_bind (sm_still (still_underlying t)) ?_
  rintro d d' ⟨rfl,-⟩
  have hc:¬(0≤i∧i<((0:Nat):Int)):=by omega
  simp only
  rw[if_neg hc,if_neg hc]
  refine sm_none ?_
  (repeat' split)<;>first|exact noOk_halt _|exact noOk_bounds _ _ _ _
 cases d with
 |array n e=>
  refine sm_bind (sm_sure h) ?_
  rintro a a' ⟨rfl,ha⟩
  exact sm_bind (sm_pure (R:=fun p q=>q=(p.1.map (rnA c.r),p.2.1,p.2.2)∧okAd c p.1) ⟨rfl,fun x hx=>by cases hx;exact ha⟩) (fun p q e=>by rw[e.1];exact hj p e.2)
 |slice e=>
  obtain ⟨rfl,h⟩:=h
  cases v with
  |slice b n q=>
   simp only[rnV]
   rcases (show okS c b n q by simpa only[okV] using h).say with ⟨h1,h2,-⟩|⟨rfl,rfl,x,y,rfl,h2,-⟩
   ·rw[h2]
    exact sm_bind (sm_pure (R:=fun p q=>q=(p.1.map (rnA c.r),p.2.1,p.2.2)∧okAd c p.1) ⟨rfl,h1⟩) (fun p q e=>by rw[e.1];exact hj p e.2)
   ·rw[h2]
    exact sm_bind (sm_pure (R:=fun p q=>p=(some x,0,e)∧q=(some y,0,e)) ⟨rfl,rfl⟩) (fun p q h=>by rw[h.1,h.2];exact hj0 x y e)
  |_=>exact sm_none (noOk_bind' (noOk_halt _))
 |_=>exact sm_none (noOk_bind' (noOk_halt _))
theorem okVs_mk{c:Cx}{n:Nat}{f:Nat→Value}(h:∀i,okV c (f i)):okVs c ((Array.range n).map f):=by
 intro x hx
 obtain ⟨i,-,rfl⟩:=Array.mem_map.1 hx
 exact h i
theorem rnVs_mk(r:Nat→Nat){n:Nat}{f:Nat→Value}(h:∀i,rnV r (f i)=f i):((Array.range n).map f).map (rnV r)=(Array.range n).map f:=by
 rw[Array.map_map]
 congr 1
 funext i
 exact h i
theorem ok_getB{c:Cx}{x:Array Value}(h:okVs c x)(i:Nat):okV c (x[i]!):=by
 rcases Nat.lt_or_ge i x.size with q|q
 ·rw[getElem!_pos x i q];exact h _ (Array.getElem_mem q)
 ·rw[getElem!_neg x i (by omega)]
  show okV c (.bool default)
  simp[okV]
theorem rn_getB{r:Nat→Nat}{x:Array Value}(h:x.map (rnV r)=x)(i:Nat):rnV r (x[i]!)=x[i]!:=by
 rcases Nat.lt_or_ge i x.size with q|q
 ·have:(x.map (rnV r))[i]?=x[i]?:=by rw[h]
  rw[Array.getElem?_map,Array.getElem?_eq_getElem q]at this
  rw[getElem!_pos x i q]
  exact Option.some.inj this
 ·rw[getElem!_neg x i (by omega)]
  show rnV r (.bool default)=_
  simp only[rnV]
  rfl
theorem sm_askRoom{c:Cx}(n:Nat):Sm c (askRoom n) (askRoom n) (fun _ _=>True):=by
 unfold askRoom
 split
 ·exact sm_mark
 ·exact sm_pure trivial
theorem sm_makeSlice{c:Cx}(t:TypeId)(hz:ZeroSl c.P t){v v' x x':Value}(h:VR c v v')(k:VR c x x'):Sm c (Instr.makeSlice t v x) (Instr.makeSlice t v' x') (VR c):=by
 unfold Instr.makeSlice
 refine sm_bind (sm_still (still_underlying t)) ?_
 rintro d d' ⟨rfl,hd⟩
 have hu:=run_under (hd default)
 clear hd
 split
 ·rename_i e
  refine sm_bind (sm_asInt h) ?_
  rintro n n' rfl
  refine sm_bind (sm_asInt k) ?_
  rintro m m' rfl
  refine sm_bind (sm_still (still_typeInfo e)) ?_
  rintro i i' ⟨rfl,-⟩
  extract_lets b tl l q j
  have hj:∀u,Sm c (j u) (j u) (VR c):=by
   intro u
   refine sm_bind (sm_askRoom _) fun _ _ _=>?_
   refine sm_bind (sm_still (still_sizeOf e)) ?_
   rintro s s' ⟨rfl,-⟩
   extract_lets n2 j2
   have hj2:∀z:Array Value,z.map (rnV c.r)=z→okVs c z→Sm c (j2 z) (j2 z) (VR c):=fun z h1 h2=>by
    refine sm_bind (sm_newRow (okVs_mk fun i=>ok_getB h2 _) (rnVs_mk _ fun i=>rn_getB h1 _).symm) ?_
    rintro a a' ⟨rfl,-,hb,hs⟩
    exact sm_pure (vr_slice _ _ hb hs)
   split
   ·exact sm_bind (sm_pure (R:=fun x y=>x=#[]∧y=#[]) ⟨rfl,rfl⟩) (fun x y h=>by rw[h.1,h.2];exact hj2 _ (by simp) (fun x hx=>by simp at hx))
   ·refine sm_bind (sm_zero e (hz e hu)) ?_
    rintro v v' ⟨h1,h2,h3⟩
    subst h2
    exact sm_bind (sm_pure (R:=fun x y=>x=v'.cells∧y=v'.cells) ⟨rfl,rfl⟩) (fun x y h=>by rw[h.1,h.2];exact hj2 _ (by rw[←rn_cells h3,←h1]) (okV_cells h3))
  split
  ·refine sm_none ?_
   split
   ·exact noOk_bind' (noOk_panic _)
   ·split
    ·exact noOk_bind' (noOk_panic _)
    ·exact noOk_bind (tm_choose _) fun _=>noOk_bind' (noOk_panic _)
  ·exact hj ()
 ·exact sm_halt
end Go.Proofs.Ytniloklglpchfai
