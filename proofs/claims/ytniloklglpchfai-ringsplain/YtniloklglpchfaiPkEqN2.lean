/- Blocks of memory numbered otherwise: parts of lists and of arrays, copies, numbers turned, channels made. No program in sight. -/
import Derived.Test.YtniloklglpchfaiEqN1
namespace Go.Proofs.Ytniloklglpchfai
open Go
theorem sm_bound{c:Cx}{x x':Value}(hx:VR c x x')(y:Nat)(d:BoundsCode):Sm c (Instr.sliceBound x y d) (Instr.sliceBound x' y d) (fun a b=>a=b∧a≤y):=by
 unfold Instr.sliceBound
 refine sm_bind (sm_asIntOf hx) ?_
 rintro ⟨k,i⟩ _ rfl
 dsimp only
 by_cases h:0≤i∧i≤y
 ·rw[if_pos h];exact sm_pure ⟨rfl,by omega⟩
 ·rw[if_neg h];exact sm_none (noOk_bounds _ _ _ _)
def OpR (c:Cx):Option Value→Option Value→Prop
 |none,none=>True
 |some x,some y=>VR c x y
 |_,_=>False
theorem sm_bounds{c:Cx}(s:Bool)(len cap:Nat):∀{lo lo' hi hi' mx mx':Option Value},OpR c lo lo'→OpR c hi hi'→OpR c mx mx'→Sm c (Instr.sliceBounds s len cap lo hi mx) (Instr.sliceBounds s len cap lo' hi' mx') (fun a b=>a=b∧(len=0→cap=0→a=(0,0,0))):=by
 intro lo lo' hi hi' mx mx' h1 h2 h3
 have step:∀h m:Nat,(len=0→cap=0→h=0∧m=0)→∀d,Sm c (match lo with|some v=>(do let l←Instr.sliceBound v h d;pure (l,h,m))|none=>(do let l←pure 0;pure (l,h,m))) (match lo' with|some v=>(do let l←Instr.sliceBound v h d;pure (l,h,m))|none=>(do let l←pure 0;pure (l,h,m))) (fun a b=>a=b∧(len=0→cap=0→a=(0,0,0))):=by
  intro h m hz d
  cases lo with
  |none=>cases lo' with
   |none=>exact sm_pure ⟨rfl,fun e1 e2=>by obtain ⟨rfl,rfl⟩:=hz e1 e2;rfl⟩
   |some y=>exact h1.elim
  |some x=>cases lo' with
   |none=>exact h1.elim
   |some y=>
    refine sm_bind (sm_bound h1 _ _) ?_
    rintro l _ ⟨rfl,hl⟩
    refine sm_pure ⟨rfl,fun e1 e2=>?_⟩
    obtain ⟨rfl,rfl⟩:=hz e1 e2
    obtain rfl:l=0:=by omega
    rfl
 unfold Instr.sliceBounds
 cases mx with
 |none=>cases mx' with
  |some y=>exact h3.elim
  |none=>
   refine sm_bind (sm_pure (R:=fun a b=>a=b∧a=cap) ⟨rfl,rfl⟩) ?_
   rintro m _ ⟨rfl,hm⟩
   cases hi with
   |none=>cases hi' with
    |none=>
     refine sm_bind (sm_pure (R:=fun a b=>a=b∧a=len) ⟨rfl,rfl⟩) ?_
     rintro h _ ⟨rfl,hh⟩
     exact step h m (fun e1 e2=>by omega) _
    |some y=>exact h2.elim
   |some x=>cases hi' with
    |none=>exact h2.elim
    |some y=>
     refine sm_bind (sm_bound h2 _ _) ?_
     rintro h _ ⟨rfl,hh⟩
     exact step h m (fun e1 e2=>by omega) _
 |some z=>cases mx' with
  |none=>exact h3.elim
  |some z'=>
   refine sm_bind (sm_bound h3 _ _) ?_
   rintro m _ ⟨rfl,hm⟩
   cases hi with
   |none=>cases hi' with
    |none=>exact sm_halt
    |some y=>exact h2.elim
   |some x=>cases hi' with
    |none=>exact h2.elim
    |some y=>
     refine sm_bind (sm_bound h2 _ _) ?_
     rintro h _ ⟨rfl,hh⟩
     exact step h m (fun e1 e2=>by omega) _
theorem okA_add{c:Cx}{a:Option Addr}(h:okAd c a)(n:Nat):okAd c (a.map (·.add n)):=fun x hx=>by
 cases a with
 |none=>cases hx
 |some a=>cases hx;rw[blk_add];exact h a rfl
theorem rnA_addO(r:Nat→Nat)(a:Option Addr)(n:Nat):(a.map (rnA r)).map (·.add n)=(a.map (·.add n)).map (rnA r):=by
 cases a with
 |none=>rfl
 |some a=>simp only[Option.map_some,rn_add]
theorem sm_slice{c:Cx}(t e:TypeId)(ht:c.P.underlying t=some (.slice e)){x x':Value}(hx:VR c x x'){lo lo' hi hi' mx mx':Option Value}(h1:OpR c lo lo')(h2:OpR c hi hi')(h3:OpR c mx mx'):Sm c (Instr.sliceAt t x lo hi mx) (Instr.sliceAt t x' lo' hi' mx') (VR c):=by
 obtain ⟨rfl,hx⟩:=hx
 unfold Instr.sliceAt
 refine sm_bind (sm_still (still_underlying t)) ?_
 rintro D _ ⟨rfl,hd⟩
 obtain rfl:=under_of hd ht
 simp only
 unfold Instr.slice
 refine sm_bind (sm_still (still_underlying t)) ?_
 rintro D _ ⟨rfl,hd⟩
 obtain rfl:=under_of hd ht
 cases x with
 |slice a n k=>
  simp only[rnV]
  refine sm_bind (sm_bounds true n k h1 h2 h3) ?_
  rintro ⟨l,h,m⟩ _ ⟨rfl,hz⟩
  refine sm_bind (sm_still (still_sizeOf e)) ?_
  rintro z _ ⟨rfl,-⟩
  rcases (show okS c a n k by simpa only[okV] using hx).say with ⟨g1,g2,g3⟩|⟨rfl,rfl,x,y,rfl,g2,⟨s,g3⟩,-⟩
  ·rw[g2]
   have hsp:∀x,(if m=l then a else a.map (·.add (l*z)))=some x→x.spot=none:=by
    intro x hx
    split at hx
    ·exact g3 x hx
    ·obtain ⟨q,hq,rfl⟩:=Option.map_eq_some_iff.1 hx
     unfold Addr.add
     split
     ·exact g3 q hq
     ·rfl
   refine sm_pure ⟨?_,?_⟩
   ·simp only[rnV]
    rw[rnS_ok _ _ hsp]
    congr 1
    split
    ·rfl
    ·exact rnA_addO _ _ _
   ·simp only[okV]
    refine .inl ⟨?_,hsp⟩
    split
    ·exact g1
    ·exact okA_add g1 _
  ·obtain ⟨rfl,rfl,rfl⟩:l=0∧h=0∧m=0:=by simpa using hz rfl rfl
   rw[g2]
   obtain ⟨b,o,s'⟩:=x
   exact sm_pure ⟨by simp only[rnV,if_true];rw[g2],by simp only[okV,if_true];exact .inr ⟨rfl,rfl,b,o,s,by rw[←g3]⟩⟩
 |_=>simp only[rnV];exact sm_halt
theorem sm_index{c:Cx}(t e:TypeId)(n:Nat)(ht:c.P.underlying t=some (.array n e)){x x' i i':Value}(hx:VR c x x')(hi:VR c i i'):Sm c (Instr.index t x i) (Instr.index t x' i') (VR c):=by
 obtain ⟨rfl,hx⟩:=hx
 unfold Instr.index
 refine sm_bind (sm_asIntOf hi) ?_
 rintro ⟨k,j⟩ _ rfl
 refine sm_bind (sm_still (still_underlying t)) ?_
 rintro D _ ⟨rfl,hd⟩
 obtain rfl:=under_of hd ht
 cases x with
 |agg cs=>
  simp only[rnV]
  refine sm_ite ?_ (sm_none (noOk_bounds _ _ _ _))
  refine sm_bind (sm_still (still_sizeOf e)) ?_
  rintro z _ ⟨rfl,-⟩
  exact sm_part e (vr_part hx) _
 |_=>simp only[rnV];exact sm_halt
theorem sm_convert{c:Cx}(s t:TypeId)(k k':IntKind)(hs:c.P.underlying s=some (.int k))(ht:c.P.underlying t=some (.int k')){x x':Value}(hx:VR c x x'):Sm c (convert s t x) (convert s t x') (VR c):=by
 obtain ⟨rfl,hx⟩:=hx
 unfold convert
 refine sm_bind (sm_still (still_underlying s)) ?_
 rintro D _ ⟨rfl,hd⟩
 obtain rfl:=under_of hd hs
 refine sm_bind (sm_still (still_underlying t)) ?_
 rintro D _ ⟨rfl,hd⟩
 obtain rfl:=under_of hd ht
 cases x with
 |int q n=>simp only[rnV];unfold Conv.intToInt;exact sm_pure ⟨by simp[rnV],by simp[okV]⟩
 |float q n=>simp[okV]at hx
 |pointer a=>cases a with
  |none=>simp only[rnV,Option.map_none];exact sm_halt
  |some a=>simp only[rnV,Option.map_some];exact sm_halt
 |_=>simp only[rnV];exact sm_halt
theorem sm_copy{c:Cx}(ts:Array TypeId)(u:TypeId){x y:Array Value}(h:VsR c x y):Sm c (Builtin.copy_ ts u x) (Builtin.copy_ ts u y) (VR c):=by
 have hn:∀n:Nat,Sm c (pure (goInt n):Sem Value) (pure (goInt n)) (VR c):=fun n=>sm_pure ⟨by simp[rnV,goInt],by simp[okV,goInt]⟩
 unfold Builtin.copy_
 cases h0:ts[0]? with
 |none=>exact sm_halt
 |some t=>
  rcases h.get 0 with ⟨e1,e2⟩|⟨m,m',e1,e2,hm⟩
  ·rw[e1,e2];exact sm_halt
  rcases h.get 1 with ⟨f1,f2⟩|⟨k,k',f1,f2,hk⟩
  ·rw[e1,e2,f1,f2];exact sm_halt
  rw[e1,e2,f1,f2]
  obtain ⟨rfl,hm⟩:=hm
  refine sm_bind (sm_still (still_underlying t)) ?_
  rintro D _ ⟨rfl,-⟩
  cases D with
  |slice e=>
   cases m with
   |slice a n q=>
    simp only[rnV]
    refine sm_bind (sm_lenOf hk) ?_
    rintro l _ ⟨rfl,hl⟩
    refine sm_bind (sm_still (still_sizeOf e)) ?_
    rintro z _ ⟨rfl,-⟩
    refine sm_bind (sm_first z _ hk (fun x m q e=>by rw[hl x m q e];exact Nat.min_le_left _ _)) ?_
    rintro d _ ⟨⟨rfl,hd⟩,hd0⟩
    rcases (show okS c a n q by simpa only[okV] using hm).say with ⟨g1,g2,-⟩|⟨rfl,rfl,x,y,rfl,g2,-⟩
    ·rw[g2]
     cases a with
     |none=>simp only[Option.map_none];exact hn _
     |some a=>
      simp only[Option.map_some]
      refine sm_bind (R:=fun _ _=>True) ?_ (fun _ _ _=>hn _)
      rw[Array.toList_map]
      exact sm_storeCells a (g1 a rfl) d.toList 0 (fun v hv=>hd v (by simpa using hv))
    ·rw[g2,hd0 (Nat.min_zero _)]
     exact sm_bind (R:=fun _ _=>True) (sm_store0 _ _) (fun _ _ _=>hn _)
   |_=>simp only[rnV];exact sm_halt
  |_=>exact sm_halt
theorem sm_makeChan{c:Cx}(t:TypeId){x x':Value}(hx:VR c x x'):Sm c (Instr.makeChan t x) (Instr.makeChan t x') (VR c):=by
 unfold Instr.makeChan
 refine sm_bind (sm_asInt hx) ?_
 rintro n _ rfl
 refine sm_bind (sm_still (still_underlying t)) ?_
 rintro D _ ⟨rfl,-⟩
 cases D with
 |chan d e=>
  refine sm_bind (sm_still (still_typeInfo e)) ?_
  rintro i _ ⟨rfl,-⟩
  refine sm_ite (sm_none (noOk_bind' (noOk_panic _))) ?_
  refine sm_bind (sm_newObj (o:=.chan n.toNat #[] false 0 0 false) (O:=.chan n.toNat #[] false 0 0 false) (fun q hq=>⟨hq,(fun v hv=>by simp at hv),by simp⟩)) ?_
  rintro b _ ⟨rfl,-,hb⟩
  exact sm_pure ⟨by simp[rnV],by simp[okV,okC];exact .inr hb⟩
 |_=>exact sm_halt
theorem sm_nilCheck{c:Cx}{x x':Value}(hx:VR c x x')(ev ev':Operand→Value)(o:Operand)(h1:ev o=x)(h2:ev' o=x')(dst:Option Tmp)(ty:TypeId)(pos:String)(aft:Array Edge)(gd:Option (Nat×Bool)):Sm c (execOp ev ⟨dst,.nilCheck o,ty,pos,aft,gd⟩) (execOp ev' ⟨dst,.nilCheck o,ty,pos,aft,gd⟩) (NxR c):=by
 obtain ⟨rfl,hx⟩:=hx
 unfold execOp
 simp only[h1,h2]
 cases x with
 |pointer a=>cases a with
  |none=>simp only[rnV,Option.map_none];exact sm_none (noOk_panic _)
  |some a=>simp only[rnV,Option.map_some];exact sm_pure ⟨by simp[rnV],hx⟩
 |nilIface=>simp only[rnV];exact sm_none (noOk_panic _)
 |nilFunc=>simp only[rnV];exact sm_none (noOk_panic _)
 |func fn a b=>
  rcases (show _∨_ by simpa only[okV] using hx) with q|q
  ·have hf:okF c.F fn:=q.1
   cases fn with
   |method n=>exact hf.elim
   |methodOf u n=>exact hf.elim
   |via u p g b=>exact hf.elim
   |func f=>simp only[rnV,rnF,pzOr];exact sm_pure ⟨by simp[rnV,rnF,pzOr],hx⟩
   |yield l=>simp only[rnV,rnF,pzOr];exact sm_pure ⟨by simp[rnV,rnF,pzOr],hx⟩
  ·obtain ⟨rfl,rfl,v,rfl,-⟩:=q
   exact sm_none (noOk_panic _)
 |_=>simp only[rnV];exact sm_pure ⟨by simp[rnV],hx⟩
def OdOk (c:Cx):Operand→Prop
 |.tmp _=>True
 |.const v=>rnV c.r v=v∧okV c v
 |.global _=>False
 |.func f=>c.F f
def CallOk (c:Cx) (k:Call):Prop:=
 match k.callee with
 |.value _=>True
 |.invoke _ nm=>MethOk c nm
 |.builtin b=>(b=.append∧AppOk c.P k.argTypes)∨(b=.len∧LenOk c.P k.argTypes)∨b=.max∨b=.min∨b=.copy∨((b=.delete∨b=.clear∨b=.len)∧∃t,k.argTypes[0]?=some t∧MapTy c.P t)
def OpOk (c:Cx) (o:Op):Prop:=
 (∀x,x∈o.operands→OdOk c x)∧
 match o with
 |.move _|.assign _|.pick _ _ _|.box _ _|.load _ _|.store _ _ _|.unOp _ _ _|.makeInterface _ _|.indexAddr _ _ _|.fieldAddr _ _ _|.extract _ _=>True
 |.alloc t|.build t _=>ZeroAt c.P t
 |.buildSlice t _ _|.makeSlice t _ _=>ZeroSl c.P t
 |.binOp op t _ y _=>BinOk c.P op t y
 |.makeFunc fn _ _=>∃f,fn=.func f∧c.F f
 |.call k=>CallOk c k
 |.nilCheck _|.makeChan _ _=>True
 |.makeMap _ r=>r=none
 |.lookup t _ _ _=>MapTy c.P t∧∀k e,c.P.underlying t=some (.map k e)→ZeroAt c.P e
 |.slice t _ _ _ _=>∃e,c.P.underlying t=some (.slice e)
 |.index t _ _=>∃n e,c.P.underlying t=some (.array n e)
 |.convert s t _=>∃k k',c.P.underlying s=some (.int k)∧c.P.underlying t=some (.int k')
 |_=>False
structure Ev0 (c:Cx):Prop where
 glo:GloOk c
 fg:∀f,c.F f→c.G f
 frm:∀f,c.G f→∃fn,c.P.funcs[f]?=some fn
 fun_ : ∀ f, c.F f → ∃ fn b, c.P.funcs[f]? = some fn ∧ fn.body = some b ∧ (fn.name == "runtime.NumGoroutine") = false ∧ c.C b
theorem sm_val{c:Cx}{s s':Sem Value}(h:Sm c s s' (VR c)):Sm c (s >>=fun v=>pure (.value v)) (s' >>=fun v=>pure (.value v)) (NxR c):=sm_bind h fun _ _ q=>by
 obtain ⟨rfl,q⟩:=q
 exact sm_pure ⟨rfl,q⟩
theorem sm_unit{c:Cx}{s s':Sem Unit}(h:Sm c s s' (fun _ _=>True)):Sm c (s >>=fun _=>pure .skip) (s' >>=fun _=>pure .skip) (NxR c):=sm_bind h fun _ _ _=>sm_pure rfl
theorem sm_callFunc{c:Cx}(h0:Ev0 c){f:FuncId}(hf:c.F f){x y:Array Value}(h:VsR c x y):Sm c (callFunc f x) (callFunc f y) (NxR c):=by
 unfold callFunc
 refine sm_bind sm_program ?_
 rintro p p' ⟨rfl,rfl⟩
 obtain ⟨fn,b,e1,e2,e3,-⟩:=h0.fun_ f hf
 rw[e1]
 simp only[e2,e3]
 obtain ⟨rfl,h⟩:=h
 exact sm_pure ⟨rfl,h,hf⟩
theorem VsR.one{c:Cx}{v v':Value}(h:VR c v v'):VsR c #[v] #[v']:=⟨by rw[h.1];simp,fun x hx=>by simp at hx;rw[hx];exact h.2⟩
theorem VsR.tail{c:Cx}{x y:Array Value}(h:VsR c x y):VsR c (x.extract 1 x.size) (y.extract 1 y.size):=by
 obtain ⟨rfl,h⟩:=h
 refine ⟨by simp[Array.map_extract],fun v hv=>h v (by
  obtain ⟨i,hi,rfl⟩:=Array.mem_iff_getElem.1 hv
  rw[Array.getElem_extract]
  exact Array.getElem_mem _)⟩
theorem sm_callMethod{c:Cx}(h0:Ev0 c){nm:String}(hm:MethOk c nm){v v':Value}(hv:VR c v v'){x y:Array Value}(h:VsR c x y):Sm c (callMethod v nm x) (callMethod v' nm y) (NxR c):=by
 obtain ⟨rfl,hv⟩:=hv
 unfold callMethod
 cases v with
 |iface t u=>
  simp only[rnV]
  refine sm_bind sm_program ?_
  rintro p p' ⟨rfl,rfl⟩
  refine sm_bind (sm_method hm _ t ⟨rfl,by simpa [okV] using hv⟩) ?_
  rintro ⟨f,a⟩ ⟨f',a'⟩ ⟨q1,q2,q3⟩
  cases q1
  exact sm_callFunc h0 q3 ((VsR.one q2).app h)
 |nilIface=>exact sm_none (noOk_panic _)
 |_=>exact sm_halt
theorem VsR.map{c:Cx}{ev ev':Operand→Value}(x:Array Operand)(h:∀o,o∈x→VR c (ev o) (ev' o)):VsR c (x.map ev) (x.map ev'):=by
 refine ⟨?_,fun v hv=>?_⟩
 ·rw[Array.map_map]
  apply Array.map_congr_left
  intro o ho
  exact (h o ho).1
 ·obtain ⟨o,ho,rfl⟩:=Array.mem_map.1 hv
  exact (h o ho).2
theorem sm_callV{c:Cx}(h0:Ev0 c){u u':Value}(hu:VR c u u'){x y:Array Value}(ha:VsR c x y):
  Sm c (do let d←Deferred.ofValue u x;invoke d.target d.args) (do let d←Deferred.ofValue u' y;invoke d.target d.args) (NxR c):=by
 obtain ⟨rfl,q2⟩:=hu
 unfold Deferred.ofValue
 cases u with
 |func fn a b=>
  rcases (show _∨_ by simpa only[okV] using q2) with q2|q2
  rotate_left
  ·obtain ⟨rfl,rfl,v,rfl,-⟩:=q2
   refine sm_none ?_
   refine noOk_known (a := { target := .fn (.method "") #[v], args := #[.nilIface] ++ x }) (fun w => rfl) ?_
   unfold invoke
   have e0:(#[Value.nilIface]++x)[0]?=some .nilIface:=by rw[Array.getElem?_append_left (by simp)];rfl
   simp only[e0]
   show NoOk c.P (runtimePanic .nilDeref:Sem Next)
   exact noOk_panic _
  simp only[rnV]
  rw[pzOr_ok q2.1]
  refine sm_bind (sm_pure (R:=fun d d'=>d={ target:=.fn fn b,args:=a++x }∧d'={ target:=.fn (rnF c.r fn) (b.map (rnV c.r)),args:=a.map (rnV c.r)++y }) ⟨rfl,rfl⟩) ?_
  rintro _ _ ⟨rfl,rfl⟩
  have hargs:VsR c (a++x) (a.map (rnV c.r)++y):=VsR.app ⟨rfl,q2.2.2.1⟩ ha
  unfold invoke
  cases fn with
  |func g=>exact sm_callFunc h0 q2.1 (hargs.app ⟨rfl,q2.2.2.2⟩)
  |yield l=>exact sm_yield (q2.2.1 l rfl) hargs
  |method n=>exact q2.1.elim
  |methodOf u n=>exact q2.1.elim
  |via u p g b=>exact q2.1.elim
 |nilFunc=>
  simp only[rnV]
  refine sm_bind (sm_pure (R:=fun d _=>d={ target:=.nil,args:=x }) rfl) ?_
  rintro _ d' rfl
  exact sm_none (show NoOk c.P (runtimePanic .nilDeref:Sem Next) from noOk_panic _)
 |_=>exact sm_none (noOk_bind' (noOk_halt _))
theorem sm_call{c:Cx}(h0:Ev0 c){ev ev':Operand→Value}(k:Call)(t:TypeId)(hk:CallOk c k)(h:∀o,o∈k.operands→VR c (ev o) (ev' o)):
  Sm c (do let d←resolve ev k t;invoke d.target d.args) (do let d←resolve ev' k t;invoke d.target d.args) (NxR c):=by
 obtain ⟨ce,args,ats⟩:=k
 have ha:VsR c (args.map ev) (args.map ev'):=VsR.map args fun o ho=>h o (by
  unfold Call.operands
  simp[ho])
 cases ce with
 |value f=>
  exact sm_callV h0 (h f (by unfold Call.operands;simp)) ha
 |invoke r nm=>
  have hr:VR c (ev r) (ev' r):=h r (by unfold Call.operands;simp)
  unfold resolve
  simp only
  refine sm_bind (sm_pure (R:=fun d d'=>d={ target:=.fn (.method nm) #[],args:=#[ev r]++args.map ev }∧d'={ target:=.fn (.method nm) #[],args:=#[ev' r]++args.map ev' }) ⟨rfl,rfl⟩) ?_
  rintro _ _ ⟨rfl,rfl⟩
  have hargs:=(VsR.one hr).app ha
  unfold invoke
  simp only
  rcases hargs.get 0 with ⟨h1,-⟩|⟨v,v',h1,h2,hv⟩
  ·rw[h1];exact sm_halt
  ·rw[h1,h2]
   exact sm_callMethod h0 hk hv hargs.tail
 |builtin b=>
  unfold resolve
  simp only
  refine sm_bind (sm_pure (R:=fun d d'=>d={ target:=.builtin b ats t (args.map fun|.const _=>true|_=>false),args:=args.map ev }∧d'={ target:=.builtin b ats t (args.map fun|.const _=>true|_=>false),args:=args.map ev' }) ⟨rfl,rfl⟩) ?_
  rintro _ _ ⟨rfl,rfl⟩
  unfold invoke
  simp only
  rcases hk with ⟨rfl,q⟩|⟨rfl,q⟩|rfl|rfl|rfl|⟨hb,mt,hmt,hmty⟩
  ·exact sm_val (sm_append ats q t ha)
  ·exact sm_val (sm_len ats q t ha)
  ·exact sm_val (sm_max ats t ha)
  ·exact sm_val (sm_min ats t ha)
  ·exact sm_val (sm_copy ats t ha)
  ·rcases hb with rfl|rfl|rfl
   ·exact sm_val (sm_delete h0.glo ats mt t hmt hmty ha)
   ·exact sm_val (sm_clear ats mt t hmt hmty ha)
   ·exact sm_val (sm_lenMap ats mt t hmt hmty ha)
theorem sm_fieldAt{c:Cx}(t:TypeId){v v':Value}(h:VR c v v')(f:Nat):Sm c (Instr.fieldAt t v f) (Instr.fieldAt t v' f) (VR c):=by
 unfold Instr.fieldAt
 refine sm_bind (sm_still (still_underlying t)) ?_
 rintro d d' ⟨rfl,-⟩
 split
 ·split
  ·refine sm_bind (sm_sure h) ?_
   rintro a a' ⟨rfl,ha⟩
   refine sm_bind (sm_place ha _) ?_
   rintro a a' ⟨rfl,ha⟩
   exact sm_pure ⟨by simp[rnV],by simpa [okV,okAd] using ha⟩
  ·exact sm_halt
 ·exact sm_halt
theorem sm_exec{c:Cx}(h0:Ev0 c){ev ev':Operand→Value}(hev:∀x,OdOk c x→VR c (ev x) (ev' x))(hc:∀v,ev (.const v)=v∧ev' (.const v)=v)(o:Oper)(ho:OpOk c o.op):Sm c (execOp ev o) (execOp ev' o) (NxR c):=by
 obtain ⟨dst,op,ty,pos,aft,gd⟩:=o
 obtain ⟨ha,ho⟩:=ho
 have hv:∀x,x∈op.operands→VR c (ev x) (ev' x):=fun x hx=>hev x (ha x hx)
 have hps:∀ps:Array (Nat×Operand),(∀p,p∈ps→VR c (ev p.2) (ev' p.2))→(ps.map fun (i,x)=>(i,ev' x))=(ps.map fun (i,x)=>(i,ev x)).map (fun p=>(p.1,rnV c.r p.2))∧∀p∈(ps.map fun (i,x)=>(i,ev x)),okV c p.2:=by
  intro ps hp
  refine ⟨?_,fun p hpm=>?_⟩
  ·rw[Array.map_map]
   apply Array.map_congr_left
   intro p hpm
   show (p.1,ev' p.2)=(p.1,rnV c.r (ev p.2))
   rw[(hp p hpm).1]
  ·obtain ⟨q,hq,rfl⟩:=Array.mem_map.1 hpm
   exact (hp q hq).2
 unfold execOp
 cases op with
 |move x=>obtain ⟨q1,q2⟩:=hv x (by simp[Op.operands]);exact sm_pure ⟨by rw[q1],q2⟩
 |assign x=>obtain ⟨q1,q2⟩:=hv x (by simp[Op.operands]);exact sm_pure ⟨by rw[q1],q2⟩
 |pick a b d=>
  refine sm_bind (sm_asBool (hv a (by simp[Op.operands]))) ?_
  rintro x y rfl
  obtain ⟨q1,q2⟩:=hv b (by simp[Op.operands])
  obtain ⟨q3,q4⟩:=hv d (by simp[Op.operands])
  cases x with
  |true=>exact sm_pure ⟨by rw[if_pos rfl,if_pos rfl,q1],by rw[if_pos rfl];exact q2⟩
  |false=>exact sm_pure ⟨by rw[if_neg (by simp),if_neg (by simp),q3],by rw[if_neg (by simp)];exact q4⟩
 |alloc t=>exact sm_val (sm_alloc t ho)
 |box t x=>exact sm_val (sm_box t (hv x (by simp[Op.operands])))
 |build t ps=>
  obtain ⟨e1,e2⟩:=hps ps fun p hp=>hv p.2 (by simp only[Op.operands];simpa using ⟨p.1,hp⟩)
  exact sm_val (sm_build t ho e1 e2)
 |buildSlice t n ps=>
  obtain ⟨e1,e2⟩:=hps ps fun p hp=>hv p.2 (by simp only[Op.operands];simpa using ⟨p.1,hp⟩)
  exact sm_val (sm_buildSlice t ho n e1 e2)
 |load t a=>exact sm_val (sm_loadAt t (hv a (by simp[Op.operands])))
 |store t a x=>exact sm_unit (sm_storeAt t (hv a (by simp[Op.operands])) (hv x (by simp[Op.operands])))
 |binOp op t x y u=>exact sm_val (sm_bin h0.glo op t x y ho (hv x (by simp[Op.operands])) (hv y (by simp[Op.operands])) (fun v e=>by rw[e];exact hc v))
 |unOp op t x=>exact sm_val (sm_unary op (hv x (by simp[Op.operands])))
 |makeInterface t x=>exact sm_val (sm_makeInterface t (hv x (by simp[Op.operands])))
 |makeFunc fn a b=>
  obtain ⟨f,rfl,hf⟩:=ho
  have h1:=VsR.map (c:=c) (ev:=ev) (ev':=ev') a fun x hx=>hv x (by simp[Op.operands,hx])
  have h2:=VsR.map (c:=c) (ev:=ev) (ev':=ev') b fun x hx=>hv x (by simp[Op.operands,hx])
  refine sm_val (sm_pure ⟨?_,?_⟩)
  ·simp only[rnV,rnF,pzOr];rw[←h1.1,←h2.1]
  ·simp only[okV]
   exact .inl ⟨hf,(fun l e=>by cases e),h1.2,h2.2⟩
 |makeSlice t a b=>exact sm_val (sm_makeSlice t ho (hv a (by simp[Op.operands])) (hv b (by simp[Op.operands])))
 |fieldAddr t x f=>exact sm_val (sm_fieldAt t (hv x (by simp[Op.operands])) f)
 |indexAddr t a b=>exact sm_val (sm_indexAt t (hv a (by simp[Op.operands])) (hv b (by simp[Op.operands])))
 |extract t i=>exact sm_val (sm_extract (hv t (by simp[Op.operands])) i)
 |call k=>exact sm_call h0 k ty ho (fun x hx=>hv x (by simpa [Op.operands] using hx))
 |nilCheck x=>exact sm_nilCheck (hv x (by simp[Op.operands])) ev ev' x rfl rfl dst ty pos aft gd
 |makeChan t x=>exact sm_val (sm_makeChan t (hv x (by simp[Op.operands])))
 |makeMap t r=>
  obtain rfl:=ho
  exact sm_val (sm_makeMap t)
 |lookup t m k b=>exact sm_val (sm_lookup h0.glo t ho.2 ho.1 (hv m (by simp[Op.operands])) (hv k (by simp[Op.operands])) b)
 |slice t x lo hi mx=>
  obtain ⟨e,ht⟩:=ho
  have hop:∀q:Option Operand,(∀y,q=some y→VR c (ev y) (ev' y))→OpR c (q.map ev) (q.map ev'):=fun q h=>by
   cases q with
   |none=>trivial
   |some y=>exact h y rfl
  exact sm_val (sm_slice t e ht (hv x (by simp[Op.operands])) (hop lo fun y e=>hv y (by subst e;simp[Op.operands])) (hop hi fun y e=>hv y (by subst e;simp[Op.operands])) (hop mx fun y e=>hv y (by subst e;simp[Op.operands])))
 |index t a b=>
  obtain ⟨n,e,ht⟩:=ho
  exact sm_val (sm_index t e n ht (hv a (by simp[Op.operands])) (hv b (by simp[Op.operands])))
 |convert s t x=>
  obtain ⟨k,k',h1,h2⟩:=ho
  exact sm_val (sm_convert s t k k' h1 h2 (hv x (by simp[Op.operands])))
 |_=>exact ho.elim
end Go.Proofs.Ytniloklglpchfai
