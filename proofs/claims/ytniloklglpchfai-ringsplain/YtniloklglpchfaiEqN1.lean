/- Blocks of memory numbered otherwise: maps. No program in sight. -/
import Derived.Test.YtniloklglpchfaiPkEqJ
namespace Go.Proofs.Ytniloklglpchfai
open Go
theorem same_flatL(D:TypeDesc){u:Value}(h:flat u)(b:Value):Instr.sameNow D u b=none:=by
 cases u<;>first|exact h.elim|(cases D<;>cases b<;>rfl)
theorem same_flatR(D:TypeDesc){u:Value}(h:flat u)(a:Value):Instr.sameNow D a u=none:=by
 cases u<;>first|exact h.elim|(cases D<;>cases a<;>rfl)
theorem same_rn{c:Cx}(D:TypeDesc){a b:Value}(ha:okV c a)(hb:okV c b):Instr.sameNow D (rnV c.r a) (rnV c.r b)=Instr.sameNow D a b:=by
 by_cases h1:∃f x y,a=.func f x y
 ·obtain ⟨f,x,y,rfl⟩:=h1
  rw[same_flatL D (rn_func_flat ha),same_flatL D (show flat (.func f x y) from trivial)]
 by_cases h2:∃f x y,b=.func f x y
 ·obtain ⟨f,x,y,rfl⟩:=h2
  rw[same_flatR D (rn_func_flat hb),same_flatR D (show flat (.func f x y) from trivial)]
 cases D with
 |int k=>cases a<;>cases b<;>first|exact absurd ⟨_,_,_,rfl⟩ h1|exact absurd ⟨_,_,_,rfl⟩ h2|(simp only[rnV]<;>rfl)
 |string=>cases a<;>cases b<;>first|exact absurd ⟨_,_,_,rfl⟩ h1|exact absurd ⟨_,_,_,rfl⟩ h2|(simp only[rnV]<;>rfl)
 |bool=>cases a<;>cases b<;>first|exact absurd ⟨_,_,_,rfl⟩ h1|exact absurd ⟨_,_,_,rfl⟩ h2|(simp only[rnV]<;>rfl)
 |_=>rfl
theorem find_rn{c:Cx}(D:TypeDesc){k:Value}(hk:okV c k):∀(es:List MapEntry) (i:Nat),(∀e,e∈es→okV c e.key∧okV c e.val)→Instr.findNow D (rnV c.r k) (es.map (rnE c.r)) i=(Instr.findNow D k es i).map (fun x=>x.map (fun p=>(p.1,rnV c.r p.2)))
 |[],_,_=>rfl
 |e::es,i,h=>by
  simp only[List.map_cons,Instr.findNow]
  rw[show (rnE c.r e).key=rnV c.r e.key from rfl,same_rn D hk (h e (by simp)).1]
  cases Instr.sameNow D k e.key with
  |none=>rfl
  |some b=>cases b with
   |true=>rfl
   |false=>exact find_rn D hk es (i+1) (fun x hx=>h x (by simp[hx]))
theorem find_ok(D:TypeDesc)(k:Value):∀(es:List MapEntry) (i:Nat) (j:Nat) (v:Value),Instr.findNow D k es i=some (some (j,v))→∃e,e∈es∧v=e.val
 |[],_,_,_,h=>by simp[Instr.findNow]at h
 |e::es,i,j,v,h=>by
  simp only[Instr.findNow]at h
  cases hs:Instr.sameNow D k e.key with
  |none=>rw[hs]at h;cases h
  |some b=>cases b with
   |true=>rw[hs]at h;cases h;exact ⟨e,by simp,rfl⟩
   |false=>
    rw[hs]at h
    obtain ⟨x,hx,hv⟩:=find_ok D k es (i+1) j v h
    exact ⟨x,by simp[hx],hv⟩
def FdR (c:Cx) (x y:Option (Nat×Value)):Prop:=y=x.map (fun p=>(p.1,rnV c.r p.2))∧∀p,x=some p→okV c p.2
def EsOk (c:Cx) (es:List MapEntry):Prop:=∀e,e∈es→okV c e.key∧okV c e.val
theorem sm_findAsk{c:Cx}(hg:GloOk c){n:Nat}{t:TypeId}(ht:KeyTy c.P n t){k k':Value}(hk:VR c k k'):∀(es:List MapEntry) (i:Nat),EsOk c es→Sm c (Instr.findAsking t k es i) (Instr.findAsking t k' (es.map (rnE c.r)) i) (FdR c)
 |[],_,_=>sm_pure ⟨rfl,fun p h=>by cases h⟩
 |e::es,i,h=>by
  simp only[List.map_cons,Instr.findAsking]
  refine sm_bind (sm_keyIn hg n _ t ht _ _ _ _ hk ⟨rfl,(h e (by simp)).1⟩) ?_
  rintro a _ rfl
  cases a with
  |true=>exact sm_pure (R:=FdR c) (a:=some (i,e.val)) (b:=some (i,rnV c.r e.val)) ⟨rfl,fun p hp=>by cases hp;exact (h e (by simp)).2⟩
  |false=>exact sm_findAsk hg ht hk es (i+1) (fun x hx=>h x (by simp[hx]))
theorem sm_findKey{c:Cx}(hg:GloOk c){n:Nat}{t:TypeId}(ht:KeyTy c.P n t){k k':Value}(hk:VR c k k')(es:List MapEntry)(h:EsOk c es):Sm c (Instr.findKey t k es) (Instr.findKey t k' (es.map (rnE c.r))) (FdR c):=by
 unfold Instr.findKey
 refine sm_bind (sm_still (still_underlying t)) ?_
 rintro D _ ⟨rfl,-⟩
 have hk':=hk
 obtain ⟨rfl,hk2⟩:=hk'
 rw[find_rn D hk2 es 0 h]
 cases hf:Instr.findNow D k es 0 with
 |none=>exact sm_findAsk hg ht hk es 0 h
 |some x=>
  refine sm_pure (R:=FdR c) ⟨rfl,fun p hp=>?_⟩
  subst hp
  obtain ⟨e,he,hv⟩:=find_ok D k es 0 p.1 p.2 hf
  rw[hv]
  exact (h e he).2
theorem sm_checkKey{c:Cx}(b:Bool):∀(n d:Nat) (t:TypeId),KeyTy c.P n t→∀(x x':Value),VR c x x'→Sm c (Instr.checkKey b d t x) (Instr.checkKey b d t x') (fun _ _=>True)
 |0,_,_,h,_,_,_=>h.elim
 |n+1,0,t,_,x,x',_=>by unfold Instr.checkKey;exact sm_halt
 |n+1,d+1,t,h,x,x',hx=>by
  obtain ⟨rfl,hx⟩:=hx
  have hok:Sm c (pure ():Sem Unit) (pure ()) (fun _ _=>True):=sm_pure trivial
  unfold Instr.checkKey
  refine sm_bind (sm_still (still_underlying t)) ?_
  rintro D D' ⟨rfl,hd⟩
  rcases h with ⟨k,ht,hcc⟩|ht|ht|⟨fs,ht,hsi,hf⟩|⟨l,e,ht,he⟩
  ·obtain rfl:=under_of hd ht
   exact hok
  ·obtain rfl:=under_of hd ht
   exact hok
  ·obtain rfl:=under_of hd ht
   exact hok
  ·obtain rfl:=under_of hd ht
   cases x with
   |agg xs=>
    simp only[rnV]
    refine sm_bind (R:=fun _ _=>True) (sm_forA fs ?_ trivial) (fun _ _ _=>hok)
    intro f hfm _ _ _
    by_cases hn : f.name ≠ "_"
    ·rw[if_pos hn,if_pos hn]
     refine sm_bind (sm_part f.type (vr_part hx) f.offset) ?_
     intro u u' hu
     refine sm_bind (sm_checkKey b n d f.type (hf f hfm) _ _ hu) (fun _ _ _=>?_)
     exact sm_pure (R:=StR (fun _ _=>True)) (a:=.yield PUnit.unit) (b:=.yield PUnit.unit) trivial
    ·rw[if_neg hn,if_neg hn]
     exact sm_pure (R:=StR (fun _ _=>True)) (a:=.yield PUnit.unit) (b:=.yield PUnit.unit) trivial
   |_=>exact sm_halt
  ·obtain rfl:=under_of hd ht
   cases x with
   |agg xs=>
    simp only[rnV]
    refine sm_bind (R:=fun _ _=>True) (sm_forR l ?_ trivial) (fun _ _ _=>hok)
    intro i _ _ _
    refine sm_bind (sm_still (still_sizeOf e)) ?_
    rintro z _ ⟨rfl,-⟩
    refine sm_bind (sm_part e (vr_part hx) _) ?_
    intro u u' hu
    refine sm_bind (sm_checkKey b n d e he _ _ hu) (fun _ _ _=>?_)
    exact sm_pure (R:=StR (fun _ _=>True)) (a:=.yield PUnit.unit) (b:=.yield PUnit.unit) trivial
   |_=>exact sm_halt
theorem EsOk.of{c:Cx}{es:Array MapEntry}(h:∀e,e∈es→okV c e.key∧okV c e.val):EsOk c es.toList:=fun e he=>h e (by simpa using he)
def MapTy (P:Program) (t:TypeId):Prop:=∃n k e,P.underlying t=some (.map k e)∧KeyTy P n k
theorem sm_makeMap{c:Cx}(t:TypeId):Sm c (Instr.makeMap t none) (Instr.makeMap t none) (VR c):=by
 unfold Instr.makeMap
 refine sm_bind (sm_newObj (o:=.map #[] 0) (O:=.map #[] 0) (fun n hn=>⟨hn,(fun e he=>by simp at he),by simp⟩)) ?_
 rintro n _ ⟨rfl,-,hb⟩
 exact sm_pure ⟨by simp[rnV],by simpa [okV,okB] using hb⟩
theorem sm_getMap{c:Cx}{b:Nat}(hb:¬c.ob b):Sm c (getObj b) (getObj (c.r b)) (fun o O=>(∀es k,o=.map es k→(∀e,e∈es→okV c e.key∧okV c e.val)∧O=.map (es.map (rnE c.r)) k)∧((∀es k,o≠.map es k)→∀es k,O≠.map es k)):=by
 refine (sm_getObj hb).mono fun o O h=>⟨fun es k e=>by subst e;exact h,fun hn es k=>?_⟩
 cases o with
 |loop l=>rw[h.2.2.2.2.2.2];intro q;cases q
 |deferred d=>rw[h.2];intro q;cases q
 |number a x=>rw[h.2];intro q;cases q
 |map es k=>exact absurd rfl (hn es k)
 |chan n bf cl s q tm=>rw[h.2];intro q;cases q
 |_=>exact h.elim
theorem sm_lookup{c:Cx}(hg:GloOk c)(t:TypeId)(hz:∀k e,c.P.underlying t=some (.map k e)→ZeroAt c.P e)(ht:MapTy c.P t){m m' k k':Value}(hm:VR c m m')(hk:VR c k k')(ok:Bool):Sm c (Instr.lookup t m k ok) (Instr.lookup t m' k' ok) (VR c):=by
 obtain ⟨n,kt,et,hu,hkt⟩:=ht
 obtain ⟨rfl,hm⟩:=hm
 unfold Instr.lookup
 refine sm_bind (sm_still (still_underlying t)) ?_
 rintro D _ ⟨rfl,hd⟩
 obtain rfl:=under_of hd hu
 have key:∀es:Array MapEntry,(∀e,e∈es→okV c e.key∧okV c e.val)→Sm c (do
   Instr.checkKey es.isEmpty 10000 kt k
   let x←Instr.findKey kt k es.toList
   match x with
    |some (_,v)=>do let p←pure (v,true);(match p with|(v,o)=>pure (if ok=true then Value.tuple #[v,.bool o] else v))
    |none=>do let z←zeroValue et;let p←pure (z,false);(match p with|(v,o)=>pure (if ok=true then Value.tuple #[v,.bool o] else v))) (do
   Instr.checkKey (es.map (rnE c.r)).isEmpty 10000 kt k'
   let x←Instr.findKey kt k' (es.map (rnE c.r)).toList
   match x with
    |some (_,v)=>do let p←pure (v,true);(match p with|(v,o)=>pure (if ok=true then Value.tuple #[v,.bool o] else v))
    |none=>do let z←zeroValue et;let p←pure (z,false);(match p with|(v,o)=>pure (if ok=true then Value.tuple #[v,.bool o] else v))) (VR c):=by
  intro es hes
  have hv:∀(v v':Value) (o:Bool),VR c v v'→VR c (if ok=true then Value.tuple #[v,.bool o] else v) (if ok=true then Value.tuple #[v',.bool o] else v'):=by
   rintro v _ o ⟨rfl,h⟩
   split
   ·exact ⟨by simp[rnV],by simp[okV,h]⟩
   ·exact ⟨rfl,h⟩
  rw[show (es.map (rnE c.r)).isEmpty=es.isEmpty by simp[Array.isEmpty]]
  refine sm_bind (sm_checkKey _ n _ kt hkt _ _ hk) fun _ _ _=>?_
  rw[show (es.map (rnE c.r)).toList=es.toList.map (rnE c.r) by simp]
  refine sm_bind (sm_findKey hg hkt hk es.toList (EsOk.of hes)) ?_
  rintro x _ ⟨rfl,hx⟩
  cases x with
  |none=>
   refine sm_bind (sm_zero et (hz kt et hu)) ?_
   rintro z z' ⟨h1,-,h2⟩
   exact sm_pure (hv _ _ _ ⟨h1,h2⟩)
  |some p=>exact sm_pure (hv _ _ _ ⟨rfl,hx p rfl⟩)
 cases m with
 |map a=>
  cases a with
  |none=>
   have h0:=key #[] (fun e he=>by simp at he)
   rw[show (#[]:Array MapEntry).map (rnE c.r)=#[] from Array.map_empty]at h0
   simp only[rnV,Option.map_none]
   exact h0
  |some b=>
   simp only[rnV,Option.map_some]
   refine sm_bind (sm_getMap (by simpa [okV,okB] using hm)) ?_
   rintro o O ⟨h1,h2⟩
   cases o with
   |map es k=>
    obtain ⟨hes,rfl⟩:=h1 es k rfl
    exact key es hes
   |_=>exact sm_halt
 |_=>exact sm_halt
theorem erase_map(f:MapEntry→MapEntry)(es:Array MapEntry)(i:Nat):(es.eraseIdxIfInBounds i).map f=(es.map f).eraseIdxIfInBounds i:=by
 unfold Array.eraseIdxIfInBounds
 by_cases h:i<es.size
 ·rw[dif_pos h,dif_pos (by simpa using h)]
  apply Array.ext_getElem?
  intro j
  simp only[Array.getElem?_map,Array.getElem?_eraseIdx]
  split<;>rfl
 ·rw[dif_neg h,dif_neg (by simpa using h)]
theorem mem_erase{es:Array MapEntry}{i:Nat}{e:MapEntry}(h:e∈es.eraseIdxIfInBounds i):e∈es:=by
 unfold Array.eraseIdxIfInBounds at h
 split at h
 ·exact Array.mem_of_mem_eraseIdx h
 ·exact h
theorem sm_delete{c:Cx}(hg:GloOk c)(ts:Array TypeId)(t u:TypeId)(h0:ts[0]?=some t)(ht:MapTy c.P t){x y:Array Value}(h:VsR c x y):Sm c (Builtin.delete_ ts u x) (Builtin.delete_ ts u y) (VR c):=by
 obtain ⟨n,kt,et,hu,hkt⟩:=ht
 have hun:Sm c (pure (.tuple #[]):Sem Value) (pure (.tuple #[])) (VR c):=sm_pure ⟨by simp[rnV],by simp[okV]⟩
 unfold Builtin.delete_
 rcases h.get 0 with ⟨e1,e2⟩|⟨m,m',e1,e2,hm⟩
 ·rw[h0,e1,e2];exact sm_halt
 rcases h.get 1 with ⟨f1,f2⟩|⟨k,k',f1,f2,hk⟩
 ·rw[h0,e1,e2,f1,f2];exact sm_halt
 rw[h0,e1,e2,f1,f2]
 obtain ⟨rfl,hm⟩:=hm
 refine sm_bind (sm_still (still_underlying t)) ?_
 rintro D _ ⟨rfl,hd⟩
 obtain rfl:=under_of hd hu
 cases m with
 |map a=>
  cases a with
  |none=>simp only[rnV,Option.map_none];exact sm_bind (sm_checkKey _ n _ kt hkt _ _ hk) fun _ _ _=>hun
  |some b=>
   simp only[rnV,Option.map_some]
   have hb:¬c.ob b:=by simpa [okV,okB] using hm
   refine sm_bind (sm_getMap hb) ?_
   rintro o O ⟨h1,h2⟩
   cases o with
   |map es q=>
    obtain ⟨hes,rfl⟩:=h1 es q rfl
    simp only
    rw[show (es.map (rnE c.r)).isEmpty=es.isEmpty by simp[Array.isEmpty]]
    refine sm_bind (sm_checkKey _ n _ kt hkt _ _ hk) fun _ _ _=>?_
    rw[show (es.map (rnE c.r)).toList=es.toList.map (rnE c.r) by simp]
    refine sm_bind (sm_findKey hg hkt hk es.toList (EsOk.of hes)) ?_
    rintro x _ ⟨rfl,hx⟩
    cases x with
    |none=>exact sm_bind (sm_setObj hb ⟨hes,rfl⟩) fun _ _ _=>hun
    |some p=>exact sm_bind (sm_setObj hb ⟨fun e he=>hes e (mem_erase he),by rw[erase_map]⟩) fun _ _ _=>hun
   |_=>exact sm_halt
 |_=>exact sm_halt
theorem sm_clear{c:Cx}(ts:Array TypeId)(t u:TypeId)(h0:ts[0]?=some t)(ht:MapTy c.P t){x y:Array Value}(h:VsR c x y):Sm c (Builtin.clear_ ts u x) (Builtin.clear_ ts u y) (VR c):=by
 obtain ⟨n,kt,et,hu,hkt⟩:=ht
 have hun:Sm c (pure (.tuple #[]):Sem Value) (pure (.tuple #[])) (VR c):=sm_pure ⟨by simp[rnV],by simp[okV]⟩
 unfold Builtin.clear_
 rcases h.get 0 with ⟨e1,e2⟩|⟨m,m',e1,e2,hm⟩
 ·rw[h0,e1,e2];exact sm_halt
 rw[h0,e1,e2]
 obtain ⟨rfl,hm⟩:=hm
 refine sm_bind (sm_still (still_underlying t)) ?_
 rintro D _ ⟨rfl,hd⟩
 obtain rfl:=under_of hd hu
 cases m with
 |map a=>
  cases a with
  |none=>simp only[rnV,Option.map_none];exact hun
  |some b=>
   simp only[rnV,Option.map_some]
   have hb:¬c.ob b:=by simpa [okV,okB] using hm
   refine sm_bind (sm_getMap hb) ?_
   rintro o O ⟨h1,h2⟩
   cases o with
   |map es q=>
    obtain ⟨hes,rfl⟩:=h1 es q rfl
    exact sm_bind (sm_setObj hb ⟨fun e he=>by simp at he,by simp⟩) fun _ _ _=>hun
   |_=>exact sm_halt
 |slice a m k=>
  simp only[rnV]
  have hs:∃y,rnS c.r a k=y∧(a=none↔y=none):=by
   rcases (show okS c a m k by simpa only[okV] using hm).say with ⟨-,h2,-⟩|⟨-,-,x,y,rfl,h2,-⟩
   ·refine ⟨_,h2,?_⟩
    cases a<;>simp
   ·exact ⟨_,h2,by simp⟩
  obtain ⟨y,hy,hi⟩:=hs
  rw[hy]
  cases a with
  |none=>rw[hi.1 rfl];exact hun
  |some a=>cases y with
   |none=>exact absurd (hi.2 rfl) (by simp)
   |some y=>cases m with
    |zero=>exact hun
    |succ m=>exact sm_halt
 |_=>exact sm_halt
theorem sm_lenMap{c:Cx}(ts:Array TypeId)(t u:TypeId)(h0:ts[0]?=some t)(ht:MapTy c.P t){x y:Array Value}(h:VsR c x y):Sm c (Builtin.len_ ts u x) (Builtin.len_ ts u y) (VR c):=by
 obtain ⟨n,kt,et,hu,hkt⟩:=ht
 unfold Builtin.len_
 rcases h.get 0 with ⟨e1,e2⟩|⟨m,m',e1,e2,hm⟩
 ·rw[h0,e1,e2];exact sm_halt
 rw[h0,e1,e2]
 obtain ⟨rfl,hm⟩:=hm
 refine sm_bind (sm_still (still_underlying t)) ?_
 rintro D _ ⟨rfl,hd⟩
 obtain rfl:=under_of hd hu
 cases m with
 |map a=>
  cases a with
  |none=>simp only[rnV,Option.map_none];exact sm_pure ⟨by simp[rnV,goInt],by simp[okV,goInt]⟩
  |some b=>
   simp only[rnV,Option.map_some]
   have hb:¬c.ob b:=by simpa [okV,okB] using hm
   refine sm_bind (sm_getMap hb) ?_
   rintro o O ⟨h1,h2⟩
   cases o with
   |map es q=>
    obtain ⟨hes,rfl⟩:=h1 es q rfl
    exact sm_pure ⟨by simp[rnV,goInt],by simp[okV,goInt]⟩
   |_=>exact sm_halt
 |_=>exact sm_halt
end Go.Proofs.Ytniloklglpchfai
