/- Blocks of memory numbered otherwise: what is built, and lists that grow. No program in sight. -/
import Derived.Test.YtniloklglpchfaiEqE
namespace Go.Proofs.Ytniloklglpchfai
open Go
theorem map_set(r:Nat→Nat)(x:Array Value)(i:Nat)(v:Value):(x.setIfInBounds i v).map (rnV r)=(x.map (rnV r)).setIfInBounds i (rnV r v):=by
 apply Array.ext_getElem?
 intro j
 simp only[Array.getElem?_map,Array.getElem?_setIfInBounds,Array.size_map]
 by_cases h:i=j
 ·subst h
  by_cases k:i<x.size<;>simp[k]
 ·simp[h]
theorem ok_set{c:Cx}{x:Array Value}{v:Value}(i:Nat)(h:okVs c x)(hv:okV c v):okVs c (x.setIfInBounds i v):=fun y hy=>by
 rcases Array.mem_or_eq_of_mem_setIfInBounds hy with q|q
 ·exact h y q
 ·rw[q];exact hv
theorem rn_foldL(r:Nat→Nat)(off:Nat):∀(l:List Value) (n:Nat) (x:Array Value),((l.map (rnV r)).zipIdx n).foldl (fun cs (p:Value×Nat)=>cs.setIfInBounds (off+p.2) p.1) (x.map (rnV r))=((l.zipIdx n).foldl (fun cs (p:Value×Nat)=>cs.setIfInBounds (off+p.2) p.1) x).map (rnV r)
 |[],_,_=>rfl
 |v::l,n,x=>by
  simp only[List.map_cons,List.zipIdx_cons,List.foldl_cons]
  rw[←map_set]
  exact rn_foldL r off l (n+1) _
theorem ok_foldL{c:Cx}(off:Nat):∀(l:List Value) (n:Nat) (x:Array Value),(∀v∈l,okV c v)→okVs c x→okVs c ((l.zipIdx n).foldl (fun cs (p:Value×Nat)=>cs.setIfInBounds (off+p.2) p.1) x)
 |[],_,_,_,h=>h
 |v::l,n,x,k,h=>by
  simp only[List.zipIdx_cons,List.foldl_cons]
  exact ok_foldL off l (n+1) _ (fun y hy=>k y (by simp[hy])) (ok_set _ h (k v (by simp)))
theorem foldA(off:Nat)(x y:Array Value):x.zipIdx.foldl (fun cs (p:Value×Nat)=>cs.setIfInBounds (off+p.2) p.1) y=(x.toList.zipIdx 0).foldl (fun cs (p:Value×Nat)=>cs.setIfInBounds (off+p.2) p.1) y:=by
 rw[←Array.foldl_toList,Array.toList_zipIdx]
theorem rn_fill{c:Cx}(place:Nat→Option (Nat×Nat)):∀(l:List (Nat×Value)) (x:Array Value),(∀p∈l,okV c p.2)→okVs c x→
  Instr.fill place (x.map (rnV c.r)) (l.map fun p=>(p.1,rnV c.r p.2))=(Instr.fill place x l).map (·.map (rnV c.r))∧∀y,Instr.fill place x l=some y→okVs c y
 |[],x,_,h=>⟨rfl,fun y hy=>by cases hy;exact h⟩
 |(i,v)::l,x,k,h=>by
  simp only[List.map_cons,Instr.fill]
  cases place i with
  |none=>exact ⟨rfl,fun y hy=>by cases hy⟩
  |some q=>
   obtain ⟨off,size⟩:=q
   simp only[rn_cells (k (i,v) (by simp)),Array.size_map]
   by_cases hq:(v.cells.size≠size||off+v.cells.size > x.size)=true
   ·rw[if_pos (by simpa using hq),if_pos (by simpa using hq)]
    exact ⟨rfl,fun y hy=>by cases hy⟩
   ·rw[if_neg (by simpa using hq),if_neg (by simpa using hq)]
    have e1:=foldA off (v.cells.map (rnV c.r)) (x.map (rnV c.r))
    have e2:=foldA off v.cells x
    rw[Array.toList_map,rn_foldL,←e2]at e1
    rw[show (v.cells.map (rnV c.r)).zipIdx.foldl (fun cs x=>match x with|(c,j)=>cs.setIfInBounds (off+j) c) (x.map (rnV c.r))=_ from e1]
    refine rn_fill place l _ (fun p hp=>k p (by simp[hp])) ?_
    rw[show v.cells.zipIdx.foldl (fun cs x=>match x with|(c,j)=>cs.setIfInBounds (off+j) c) x=_ from e2]
    exact ok_foldL off _ 0 x (fun y hy=>okV_cells (k (i,v) (by simp)) y (by simpa using hy)) h
theorem still_mapA{P:Program}{α β:Type}{f:α→Sem β}(h:∀a,Still P (f a))(x:Array α):Still P (x.mapM f):=by
 rw[Array.mapM_eq_mapM_toList]
 obtain ⟨y,hyt,hy⟩:=still_mapL h x.toList
 cases y with
 |error q=>exact ⟨.error q,(fun p e=>by cases e;exact hyt _ rfl),fun w es=>by show ((x.toList.mapM f).bind _).runT P w es=_;rw[Sem.runT_bind',hy]⟩
 |ok a=>exact ⟨.ok a.toArray,(fun q e=>by cases e),fun w es=>by show ((x.toList.mapM f).bind _).runT P w es=_;rw[Sem.runT_bind',hy];rfl⟩
theorem sm_fill{c:Cx}{α β:Type}{R:α→β→Prop}(place:Nat→Option (Nat×Nat)){l l':List (Nat×Value)}{x x':Array Value}(hl:l'=l.map fun p=>(p.1,rnV c.r p.2))(ho:∀p∈l,okV c p.2)(hx:x'=x.map (rnV c.r))(hk:okVs c x)
  {f:Array Value→Sem α} {f':Array Value→Sem β} {g:Sem α} {g':Sem β} (hf:∀y,okVs c y→Sm c (f y) (f' (y.map (rnV c.r))) R) (hg:NoOk c.P g):
  Sm c (match Instr.fill place x l with|some y=>f y|_=>g) (match Instr.fill place x' l' with|some y=>f' y|_=>g') R:=by
 subst hl hx
 obtain ⟨h1,h2⟩:=rn_fill (c:=c) place l x ho hk
 rw[h1]
 cases hq:Instr.fill place x l with
 |none=>exact sm_none hg
 |some y=>exact hf y (h2 y hq)
theorem sm_build{c:Cx}(t:TypeId)(hz:ZeroAt c.P t){x y:Array (Nat×Value)}(h:y=x.map fun p=>(p.1,rnV c.r p.2))(ho:∀p∈x,okV c p.2):Sm c (Instr.build t x) (Instr.build t y) (VR c):=by
 subst h
 unfold Instr.build
 refine sm_bind (sm_zero t hz) ?_
 rintro v v' ⟨h1,h2,h3⟩
 subst h2
 refine sm_bind (sm_still (still_underlying t)) ?_
 rintro d d' ⟨rfl,-⟩
 cases d with
 |struct fs=>
  refine sm_bind (sm_still (still_mapA (fun f=>still_bind (still_sizeOf _) fun _=>still_pure _) fs)) ?_
  rintro ps ps' ⟨rfl,-⟩
  exact sm_fill _ (by simp) (fun p hp=>ho p (by simpa using hp)) (by rw[←rn_cells h3,←h1]) (okV_cells h3) (fun y hy=>sm_pure ⟨by simp[rnV],by simpa [okV,okVs] using hy⟩) (noOk_halt _)
 |array n e=>
  refine sm_bind (sm_still (still_sizeOf e)) ?_
  rintro s s' ⟨rfl,-⟩
  exact sm_fill _ (by simp) (fun p hp=>ho p (by simpa using hp)) (by rw[←rn_cells h3,←h1]) (okV_cells h3) (fun y hy=>sm_pure ⟨by simp[rnV],by simpa [okV,okVs] using hy⟩) (noOk_halt _)
 |_=>exact sm_halt
theorem Rl.lt{c:Cx}{w W:World}(h:Rl c w W){b:Nat}(hb:w.heap[b]?=none):W.heap[c.r b]?=none:=by
 rcases Nat.lt_or_ge b w.heap.size with q|q
 ·rw[Array.getElem?_eq_getElem q]at hb;cases hb
 ·have:=h.top (b - w.heap.size)
  rw[show w.heap.size+(b - w.heap.size)=b by omega]at this
  exact Array.getElem?_eq_none (by omega)
theorem sm_shape{c:Cx}{b:Nat}(hb:¬c.ob b):Sm c (shape b) (shape (c.r b)) (fun x y=>x=y):=by
 refine sm_of ?_ (fun w W hr q w' h=>by cases h)
 intro w W hr x w' h
 have h':(Sem.shape b .pure:Sem (Option (TypeId×Nat))).run c.P w=.ok x w':=h
 simp only[Sem.run]at h'
 cases h'
 refine ⟨W.shape? (c.r b),W,#[],fun es=>by show (Sem.shape (c.r b) .pure:Sem (Option (TypeId×Nat))).runT c.P W es=_;simp only[Sem.runT];simp,?_,hr,Gw.refl _,⟨rfl,rfl,rfl⟩,fun e he=>by simp at he⟩
 unfold World.shape?
 cases hx:w.heap[b]? with
 |none=>rw[hr.lt hx]
 |some o=>
  have ho:=hr.blk b o hb hx
  cases o with
  |cells a e z=>
   obtain ⟨-,-,z',hO,-⟩:=ho
   rw[hO]
   simp
  |loop l=>rw[ho.2.2.2.2.2.2.2]
  |deferred d=>rw[ho.2.2]
  |number a y=>rw[ho.2.2]
  |map es k=>rw[ho.2.2]
  |chan n bf cl s q tm=>rw[ho.2.2]
  |_=>exact ho.elim
def OR (c:Cx):Obj→Obj→Prop
 |.loop l,O=>okVs c l.tmps∧c.C l.assign∧c.C l.body∧(∀d,l.pending=some d→c.C d)∧c.G l.fn∧¬c.ob l.defers∧O=.loop (rnL c.r l)
 |.deferred ds,O=>(ds=none∨ds=some [])∧O=.deferred ds
 |.number a x,O=>¬c.ob a.block∧O=.number (rnA c.r a) x
 |.map es k,O=>(∀e,e∈es→okV c e.key∧okV c e.val)∧O=.map (es.map (rnE c.r)) k
 |.chan n bf cl s q tm,O=>okVs c bf∧O=.chan n (bf.map (rnV c.r)) cl s q tm
 |_,_=>False
theorem sm_getObj{c:Cx}{b:Nat}(hb:¬c.ob b):Sm c (getObj b) (getObj (c.r b)) (OR c):=by
 refine sm_of ?_ (fun w W hr q w' h=>by
  have h':(Sem.getObj b .pure:Sem Obj).run c.P w=.halt q w':=h
  simp only[Sem.run]at h'
  split at h'<;>cases h'<;>exact ⟨trivial,hr.hk⟩)
 intro w W hr x w' h
 have h':(Sem.getObj b .pure:Sem Obj).run c.P w=.ok x w':=h
 simp only[Sem.run]at h'
 have key:∀o O,w.heap[b]?=some o→W.heap[c.r b]?=some O→(∀a e z,O≠.cells a e z)→c.own b→OR c o O→Result.ok o w=Result.ok x w'→∃y W' nw,(∀es,(getObj (c.r b)).runT c.P W es=(.ok y W',es++nw))∧OR c x y∧Rl c w' W'∧Gw w w'∧(w'.drawn=w.drawn∧W'.tape=W.tape∧W'.drawn=W.drawn)∧∀e∈nw,EvOk c w' e:=by
  intro o O h1 h2 h3 h5 h6 h7
  cases h7
  refine ⟨O,W,#[⟨.obj (c.r b),false,O.isChan⟩],fun es=>?_,h6,hr,Gw.refl _,⟨rfl,rfl,rfl⟩,fun e he=>?_⟩
  ·show (Sem.getObj (c.r b) .pure:Sem Obj).runT c.P W es=_
   simp only[Sem.runT,h2]
   cases O with
   |cells a e z=>exact absurd rfl (h3 a e z)
   |_=>rfl
  ·simp only[Array.mem_singleton]at he
   exact .inr (.inl ⟨b,false,_,he,h5,hb⟩)
 cases hx:w.heap[b]? with
 |none=>rw[hx]at h';cases h'
 |some o=>
  rw[hx]at h'
  have ho:=hr.blk b o hb hx
  cases o with
  |cells a e z=>cases h'
  |loop l=>exact key _ _ hx ho.2.2.2.2.2.2.2 (fun _ _ _ q=>by cases q) ho.1 ⟨ho.2.1,ho.2.2.1,ho.2.2.2.1,ho.2.2.2.2.1,ho.2.2.2.2.2.1,ho.2.2.2.2.2.2.1,rfl⟩ h'
  |deferred d=>exact key _ _ hx ho.2.2 (fun _ _ _ q=>by cases q) ho.1 ⟨ho.2.1,rfl⟩ h'
  |number a y=>exact key _ _ hx ho.2.2 (fun _ _ _ q=>by cases q) ho.1 ⟨ho.2.1,rfl⟩ h'
  |map es k=>exact key _ _ hx ho.2.2 (fun _ _ _ q=>by cases q) ho.1 ⟨ho.2.1,rfl⟩ h'
  |chan n bf cl s q tm=>exact key _ _ hx ho.2.2 (fun _ _ _ q=>by cases q) ho.1 ⟨ho.2.1,rfl⟩ h'
  |_=>exact ho.elim
theorem sm_numberAt{c:Cx}{b:Nat}(hb:¬c.ob b):Sm c (numberAt b) (numberAt (c.r b)) (fun x y=>y=x.map (fun p=>(rnA c.r p.1,p.2))∧∀p,x=some p→¬c.ob p.1.block):=by
 unfold numberAt
 refine sm_bind (sm_shape hb) ?_
 rintro s s' rfl
 split
 ·exact sm_pure ⟨rfl,fun p hp=>by cases hp⟩
 ·refine sm_bind (sm_getObj hb) ?_
  intro o O ho
  cases o with
  |loop l=>rw[ho.2.2.2.2.2.2];exact sm_pure ⟨rfl,fun p hp=>by cases hp⟩
  |deferred d=>rw[ho.2];exact sm_pure ⟨rfl,fun p hp=>by cases hp⟩
  |number a y=>rw[ho.2];exact sm_pure ⟨rfl,fun p hp=>by cases hp;exact ho.1⟩
  |map es k=>rw[ho.2];exact sm_pure ⟨rfl,fun p hp=>by cases hp⟩
  |chan n bf cl s q tm=>rw[ho.2];exact sm_pure ⟨rfl,fun p hp=>by cases hp⟩
  |_=>exact ho.elim
theorem sm_viewAt{c:Cx}{b:Nat}(hb:¬c.ob b):Sm c (viewAt b) (viewAt (c.r b)) (fun x y=>x=none∧y=none):=by
 unfold viewAt
 refine sm_bind (sm_shape hb) ?_
 rintro s s' rfl
 split
 ·exact sm_pure ⟨rfl,rfl⟩
 ·refine sm_bind (sm_getObj hb) ?_
  intro o O ho
  cases o with
  |loop l=>rw[ho.2.2.2.2.2.2];exact sm_pure ⟨rfl,rfl⟩
  |deferred d=>rw[ho.2];exact sm_pure ⟨rfl,rfl⟩
  |number a y=>rw[ho.2];exact sm_pure ⟨rfl,rfl⟩
  |map es k=>rw[ho.2];exact sm_pure ⟨rfl,rfl⟩
  |chan n bf cl s q tm=>rw[ho.2];exact sm_pure ⟨rfl,rfl⟩
  |_=>exact ho.elim
theorem sm_behind{c:Cx}{a:Addr}(ha:¬c.ob a.block):Sm c (behindNumber a) (behindNumber (rnA c.r a)) (fun x y=>y=(rnA c.r x.1,x.2)∧¬c.ob x.1.block):=by
 unfold behindNumber
 refine sm_bind (sm_numberAt ha) ?_
 rintro x y ⟨rfl,h⟩
 cases x with
 |none=>exact sm_pure ⟨rfl,ha⟩
 |some p=>exact sm_pure ⟨rfl,h p rfl⟩
theorem sm_asNumber{c:Cx}{a:Addr}(ha:¬c.ob a.block)(l:Bool):Sm c (asNumber a l) (asNumber (rnA c.r a) l) (VR c):=by
 unfold asNumber
 refine sm_bind (sm_newObj (fun n hn=>⟨hn,ha,rfl⟩)) ?_
 rintro n n' ⟨rfl,-,hb⟩
 exact sm_pure ⟨by simp[rnV,rnA],by simpa [okV,okAd] using hb⟩
theorem sm_unsafeAdd{c:Cx}{t:TypeId}{a:Addr}(ha:¬c.ob a.block){y y':Value}(hy:VR c y y'):Sm c (Builtin.unsafeAdd_ #[] t #[.pointer (some a),y]) (Builtin.unsafeAdd_ #[] t #[.pointer (some (rnA c.r a)),y']) (fun v v'=>∃b,v=.pointer (some b)∧v'=.pointer (some (rnA c.r b))∧¬c.ob b.block):=by
 refine (show Sm c (asInt y >>=_) (asInt y' >>=_) _ from ?_)
 refine sm_bind (sm_asInt hy) ?_
 rintro n n' rfl
 extract_lets j0 j jp k0 k kp
 have h0:Sm c (j0 ()) (k0 ()) (fun v v'=>∃b,v=.pointer (some b)∧v'=.pointer (some (rnA c.r b))∧¬c.ob b.block):=by
  refine sm_bind (sm_shape ha) ?_
  rintro s s' rfl
  split
  ·refine sm_bind sm_program ?_
   rintro p p' ⟨rfl,rfl⟩
   rw[show (rnA c.r a).off=a.off from rfl]
   split
   ·exact sm_pure ⟨_,rfl,rfl,ha⟩
   ·exact sm_halt
  ·exact sm_halt
 have hj:Sm c (j ()) (k ()) (fun v v'=>∃b,v=.pointer (some b)∧v'=.pointer (some (rnA c.r b))∧¬c.ob b.block):=by
  by_cases hn:n<0
  ·exact sm_none (by dsimp only[j];rw[if_pos hn];exact noOk_bind' (noOk_halt _))
  ·dsimp only[j,k];rw[if_neg hn,if_neg hn];exact h0
 split
 ·refine sm_bind (sm_viewAt ha) ?_
  rintro x y ⟨rfl,rfl⟩
  exact sm_pure ⟨a,rfl,rfl,ha⟩
 ·exact hj
theorem sm_movedNumber{c:Cx}{t:TypeId}{a:Addr}(ha:¬c.ob a.block){y y':Value}(hy:VR c y y'):Sm c (movedNumber t (.pointer (some a)) y) (movedNumber t (.pointer (some (rnA c.r a))) y') (VR c):=by
 unfold movedNumber
 refine sm_bind (sm_still (still_underlying t)) ?_
 rintro d d' ⟨rfl,-⟩
 extract_lets j k
 have hj:Sm c (j ()) (k ()) (VR c):=by
  refine sm_bind (sm_behind ha) ?_
  rintro ⟨x,l⟩ y ⟨rfl,hx⟩
  refine sm_bind (sm_unsafeAdd hx hy) ?_
  rintro v v' ⟨b,rfl,rfl,hb⟩
  exact sm_asNumber hb l
 split
 ·exact sm_none (noOk_bind' (noOk_halt _))
 ·exact hj
def GloOk (c:Cx):Prop:=∀b,b<c.P.globals.size→c.ob b
theorem noOk_two{c:Cx}(hg:GloOk c){a b:Addr}(ha:¬c.ob a.block):NoOk c.P (Op.twoPlaces a b):=by
 unfold Op.twoPlaces
 intro w
 simp only[Sem.run_bind,run_program,Result.andThen]
 rw[if_pos (by
  rcases Nat.lt_or_ge a.block c.P.globals.size with q|q
  ·exact absurd (hg _ q) ha
  ·simp[q])]
 exact ⟨_,_,rfl,trivial,NoDf.refl _⟩
theorem sm_noView{c:Cx}{a:Addr}(ha:¬c.ob a.block):Sm c (noView a) (noView (rnA c.r a)) (fun _ _=>True):=by
 unfold noView
 refine sm_bind (sm_viewAt ha) ?_
 rintro x y ⟨rfl,rfl⟩
 exact sm_pure trivial
theorem sm_byteOf{c:Cx}{a:Addr}(ha:¬c.ob a.block):Sm c (byteOf a) (byteOf (rnA c.r a)) (fun x y=>x=y):=by
 unfold byteOf
 rw[show (rnA c.r a).spot=a.spot from rfl,show (rnA c.r a).off=a.off from rfl]
 split
 ·exact sm_pure rfl
 ·refine sm_bind sm_program ?_
  rintro p p' ⟨rfl,rfl⟩
  refine sm_bind (sm_noView ha) fun _ _ _=>?_
  refine sm_bind (sm_shape ha) ?_
  rintro s s' rfl
  split
  ·extract_lets q
   split
   ·exact sm_pure rfl
   ·split
    ·exact sm_pure rfl
    ·exact sm_halt
  ·exact sm_halt
theorem sm_addrMod{c:Cx}(k:IntKind){a:Addr}(ha:¬c.ob a.block)(n:Int):Sm c (Op.addrMod k a n) (Op.addrMod k (rnA c.r a) n) (VR c):=by
 unfold Op.addrMod
 refine sm_bind (sm_shape ha) ?_
 rintro s s' rfl
 split
 ·refine sm_bind (sm_still (still_typeInfo _)) ?_
  rintro i i' ⟨rfl,-⟩
  extract_lets q j k
  have hj:Sm c (j ()) (k ()) (VR c):=by
   refine sm_bind (sm_byteOf ha) ?_
   rintro x y rfl
   exact sm_pure ⟨by simp[rnV],by simp[okV]⟩
  split
  ·exact sm_none (noOk_bind' (noOk_halt _))
  ·exact hj
 ·exact sm_halt
theorem sm_int{c:Cx}(op:BinOp)(hop:op≠.shl∧op≠.shr)(t:TypeId)(k k':IntKind)(a b:Int):Sm c (binOp op t (.int k a) (.int k' b)) (binOp op t (.int k a) (.int k' b)) (VR c):=by
 unfold binOp
 cases op with
 |shl=>exact absurd rfl hop.1
 |shr=>exact absurd rfl hop.2
 |_=>
  simp only
  split
  ·exact sm_halt
  ·first
    |(unfold Op.intArith;exact sm_pure ⟨by simp[rnV],by simp[okV]⟩)
    |(unfold Op.intDiv;(split;exact sm_none (noOk_panic _);exact sm_pure ⟨by simp[rnV],by simp[okV]⟩))
    |(unfold Op.intBits;exact sm_pure ⟨by simp[rnV],by simp[okV]⟩)
    |(unfold Op.intCmp;exact sm_pure ⟨by simp[rnV],by simp[okV]⟩)
    |exact sm_halt
theorem tm_asInt{P:Program}(v:Value):Tm P (asInt v):=by
 unfold asInt
 refine tm_bind ?_ fun _=>tm_pure _
 cases v with
 |int k n=>exact tm_pure _
 |pointer a=>cases a<;>exact tm_halt
 |_=>exact tm_halt
theorem noOk_addNil{P:Program}(t:TypeId)(y:Value):NoOk P (Builtin.unsafeAdd_ #[] t #[.pointer none,y]):=by
 refine (show NoOk P (asInt y >>=_) from ?_)
 refine noOk_bind (tm_asInt y) fun n=>?_
 extract_lets j0 j
 have hj:NoOk P (j ()):=by
  dsimp only[j]
  split
  ·exact noOk_bind' (noOk_halt _)
  ·exact noOk_halt _
 split
 ·exact noOk_halt _
 ·exact hj
theorem noOk_moved{P:Program}(t:TypeId)(y:Value):NoOk P (movedNumber t (.pointer none) y):=by
 unfold movedNumber
 refine noOk_bind (tm_still (still_underlying t)) fun d=>?_
 extract_lets j
 have hj:NoOk P (j ()):=noOk_addNil t y
 split
 ·exact noOk_bind' (noOk_halt _)
 ·exact hj
theorem sm_moved{c:Cx}{t:TypeId}{q:Option Addr}(hq:okV c (.pointer q)){y y':Value}(hy:VR c y y'):Sm c (movedNumber t (.pointer q) y) (movedNumber t (rnV c.r (.pointer q)) y') (VR c):=by
 cases q with
 |none=>exact sm_none (noOk_moved _ _)
 |some a=>simp only[rnV,Option.map_some];exact sm_movedNumber (by simpa [okV,okAd] using hq) hy
theorem sm_ite{c:Cx}{α β:Type}{R:α→β→Prop}{p:Prop}[Decidable p]{s t:Sem α}{s' t':Sem β}(h:Sm c s s' R)(k:Sm c t t' R):Sm c (if p then s else t) (if p then s' else t') R:=by split<;>assumption
theorem sm_str{c:Cx}(op:BinOp)(a b:ByteArray):Sm c (Op.stringOp op a b) (Op.stringOp op a b) (VR c):=by
 unfold Op.stringOp
 extract_lets e l
 cases op<;>first
  |exact sm_pure ⟨by simp[rnV],by simp[okV]⟩
  |exact sm_halt
  |(refine sm_ite ?_ ?_<;>first|exact sm_halt|exact sm_pure ⟨by simp[rnV],by simp[okV]⟩)
theorem sm_num{c:Cx}(hg:GloOk c)(op:BinOp)(hop:op=.add∨op=.sub∨op=.mul∨op=.quo∨op=.rem∨op=.lss∨op=.leq∨op=.gtr∨op=.geq)(t:TypeId)(k:IntKind)(ht:c.P.underlying t=some (.int k)){x x' y y':Value}(hx:VR c x x')(hy:VR c y y'):Sm c (binOp op t x y) (binOp op t x' y') (VR c):=by
 obtain ⟨rfl,hx⟩:=hx
 obtain ⟨rfl,hy⟩:=hy
 have hsh:op≠.shl∧op≠.shr:=by rcases hop with h|h|h|h|h|h|h|h|h<;>(subst h;exact ⟨by decide,by decide⟩)
 have hun:∀{α β:Type} {R:α→β→Prop} {f:TypeDesc→Sem α} {f':TypeDesc→Sem β},Sm c (f (.int k)) (f' (.int k)) R→Sm c (underlying t >>=f) (underlying t >>=f') R:=by
  intro α β R f f' h
  refine sm_bind (sm_still (still_underlying t)) ?_
  rintro d d' ⟨rfl,hd⟩
  have:=run_under (hd default)
  rw[ht]at this
  cases this
  exact h
 cases x with
 |int kx a=>
  cases y with
  |int ky b=>simp only[rnV];exact sm_int op hsh t kx ky a b
  |pointer q=>
   rcases hop with h|h|h|h|h|h|h|h|h<;>subst h
   ·cases q with
    |none=>simp only[rnV,Option.map_none];exact sm_none (noOk_moved _ _)
    |some q=>simp only[rnV,Option.map_some];unfold binOp;exact sm_movedNumber (by simpa [okV,okAd] using hy) ⟨by simp[rnV],by simp[okV]⟩
   all_goals exact sm_halt
  |float k a=>simp[okV]at hy
  |complex k a b=>simp[okV]at hy
  |_=>rcases hop with h|h|h|h|h|h|h|h|h<;>subst h<;>exact sm_halt
 |pointer q=>
  cases y with
  |int ky b=>
   rcases hop with h|h|h|h|h|h|h|h|h<;>subst h
   ·have:=sm_moved (c:=c) (t:=t) hx (y:=.int ky b) (y':=.int ky b) ⟨by simp only[rnV],by simp[okV]⟩
    rw[show rnV c.r (.pointer q)=.pointer (q.map (rnA c.r)) by simp[rnV]]at this
    rw[show rnV c.r (.int ky b)=.int ky b by simp[rnV],show rnV c.r (.pointer q)=.pointer (q.map (rnA c.r)) by simp[rnV]]
    unfold binOp
    exact hun this
   ·have:=sm_moved (c:=c) (t:=t) hx (y:=.int ky (-b)) (y':=.int ky (-b)) ⟨by simp only[rnV],by simp[okV]⟩
    rw[show rnV c.r (.pointer q)=.pointer (q.map (rnA c.r)) by simp[rnV]]at this
    rw[show rnV c.r (.int ky b)=.int ky b by simp[rnV],show rnV c.r (.pointer q)=.pointer (q.map (rnA c.r)) by simp[rnV]]
    exact this
   ·exact sm_halt
   ·exact sm_halt
   ·cases q with
    |none=>exact sm_halt
    |some a=>
     have ha:¬c.ob a.block:=by simpa [okV,okAd] using hx
     simp only[rnV,Option.map_some]
     refine (show Sm c (behindNumber a >>=_) (behindNumber (rnA c.r a) >>=_) _ from ?_)
     refine sm_bind (sm_behind ha) ?_
     rintro p p' ⟨rfl,hp⟩
     exact sm_addrMod _ hp _
   all_goals (cases q<;>exact sm_halt)
  |pointer p=>
   cases q with
   |none=>cases p<;>rcases hop with h|h|h|h|h|h|h|h|h<;>subst h<;>exact sm_halt
   |some a=>
    have ha:¬c.ob a.block:=by simpa [okV,okAd] using hx
    cases p with
    |none=>rcases hop with h|h|h|h|h|h|h|h|h<;>subst h<;>exact sm_halt
    |some b=>
     have hb:¬c.ob b.block:=by simpa [okV,okAd] using hy
     have key:∀(f:Addr→Addr→Sem Value),(∀x y,¬c.ob x.block→NoOk c.P (f x y))→Sm c (behindNumber a >>=fun p=>behindNumber b >>=fun q=>f p.1 q.1) (behindNumber (rnA c.r a) >>=fun p=>behindNumber (rnA c.r b) >>=fun q=>f p.1 q.1) (VR c):=by
      intro f hf
      refine sm_bind (sm_behind ha) ?_
      rintro p p' ⟨-,hp⟩
      exact sm_bind (sm_behind hb) fun q q' _=>sm_none (hf _ _ hp)
     simp only[rnV,Option.map_some]
     rcases hop with h|h|h|h|h|h|h|h|h<;>subst h
     ·exact sm_halt
     ·exact key (Op.addrSub .u64) (fun x y h=>noOk_bind' (noOk_two hg h))
     ·exact sm_halt
     ·exact sm_halt
     ·exact sm_halt
     ·exact key (Op.addrCmp .lss) (fun x y h=>noOk_bind' (noOk_two hg h))
     ·exact key (Op.addrCmp .leq) (fun x y h=>noOk_bind' (noOk_two hg h))
     ·exact key (Op.addrCmp .gtr) (fun x y h=>noOk_bind' (noOk_two hg h))
     ·exact key (Op.addrCmp .geq) (fun x y h=>noOk_bind' (noOk_two hg h))
  |_=>cases q<;>rcases hop with h|h|h|h|h|h|h|h|h<;>subst h<;>exact sm_halt
 |float k a=>simp[okV]at hx
 |complex k a b=>simp[okV]at hx
 |string a=>
  cases y with
  |string b=>simp only[rnV];rcases hop with h|h|h|h|h|h|h|h|h<;>subst h<;>(unfold binOp;exact sm_str _ _ _)
  |_=>rcases hop with h|h|h|h|h|h|h|h|h<;>subst h<;>exact sm_halt
 |_=>cases y<;>rcases hop with h|h|h|h|h|h|h|h|h<;>subst h<;>exact sm_halt
theorem sm_nil{c:Cx}(t:TypeId)(ms:Array (String×TypeId))(ht:c.P.underlying t=some (.interface ms)){x x':Value}(hx:VR c x x'):Sm c (Op.equal t x .nilIface) (Op.equal t x' .nilIface) (fun a b=>a=b):=by
 obtain ⟨rfl,hx⟩:=hx
 unfold Op.equal Op.maxDepth Op.equalIn
 refine sm_bind (sm_still (still_underlying t)) ?_
 rintro d d' ⟨rfl,hd⟩
 have:=run_under (hd default)
 rw[ht]at this
 cases this
 cases x with
 |nilIface=>simp only[rnV];exact sm_pure rfl
 |iface u v=>simp only[rnV];exact sm_pure rfl
 |_=>exact sm_halt
theorem sm_nilS{c:Cx}(t e:TypeId)(ht:c.P.underlying t=some (.slice e)){x x':Value}(hx:VR c x x'):Sm c (Op.equal t x (.slice none 0 0)) (Op.equal t x' (.slice none 0 0)) (fun a b=>a=b):=by
 obtain ⟨rfl,hx⟩:=hx
 unfold Op.equal Op.maxDepth Op.equalIn
 refine sm_bind (sm_still (still_underlying t)) ?_
 rintro d d' ⟨rfl,hd⟩
 have:=run_under (hd default)
 rw[ht]at this
 cases this
 cases x with
 |slice a n k=>
  simp only[rnV]
  rcases (show okS c a n k by simpa only[okV] using hx).say with ⟨h1,h2,-⟩|⟨rfl,rfl,x,y,rfl,h2,-⟩
  ·rw[h2]
   cases a<;>exact sm_pure rfl
  ·rw[h2]
   exact sm_pure rfl
 |_=>exact sm_halt
end Go.Proofs.Ytniloklglpchfai
