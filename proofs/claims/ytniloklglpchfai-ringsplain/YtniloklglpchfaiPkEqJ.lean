/- Blocks of memory numbered otherwise: built-in functions. No program in sight. -/
import Derived.Test.YtniloklglpchfaiEqI
namespace Go.Proofs.Ytniloklglpchfai
open Go
theorem VsR.get{c:Cx}{x y:Array Value}(h:VsR c x y)(i:Nat):(x[i]?=none∧y[i]?=none)∨∃v v',x[i]?=some v∧y[i]?=some v'∧VR c v v':=by
 obtain ⟨rfl,h⟩:=h
 rw[Array.getElem?_map]
 cases hi:x[i]? with
 |none=>exact .inl ⟨rfl,rfl⟩
 |some v=>exact .inr ⟨v,_,rfl,rfl,rfl,h v (Array.mem_of_getElem? hi)⟩
theorem sm_buildSlice{c:Cx}(t:TypeId)(hz:ZeroSl c.P t)(n:Nat){x y:Array (Nat×Value)}(h:y=x.map fun p=>(p.1,rnV c.r p.2))(ho:∀p∈x,okV c p.2):Sm c (Instr.buildSlice t n x) (Instr.buildSlice t n y) (VR c):=by
 subst h
 unfold Instr.buildSlice
 refine sm_bind (sm_still (still_underlying t)) ?_
 rintro d d' ⟨rfl,hd⟩
 have hu:=run_under (hd default)
 clear hd
 cases d with
 |slice e=>
  refine sm_bind (sm_still (still_sizeOf e)) ?_
  rintro s s' ⟨rfl,-⟩
  extract_lets j0 j k0 k
  have h0:∀z:Array Value,z.map (rnV c.r)=z→okVs c z→Sm c (j0 z) (k0 z) (VR c):=fun z h1 h2=>
   sm_fill _ (by simp) (fun p hp=>ho p (by simpa using hp)) (rnVs_mk _ fun i=>rn_getB h1 _).symm (okVs_mk fun i=>ok_getB h2 _) (fun y hy=>by
    refine sm_bind (sm_newRow hy rfl) ?_
    rintro a a' ⟨rfl,-,hb,hs⟩
    exact sm_pure (vr_slice _ _ hb hs)) (noOk_halt _)
  have hj:Sm c (j ()) (k ()) (VR c):=by
   refine sm_ite ?_ ?_
   ·exact sm_bind (sm_pure (R:=fun x y=>x=#[]∧y=#[]) ⟨rfl,rfl⟩) (fun x y h=>by rw[h.1,h.2];exact h0 _ (by simp) (fun x hx=>by simp at hx))
   ·refine sm_bind (sm_zero e (hz e hu)) ?_
    rintro v v' ⟨h1,h2,h3⟩
    subst h2
    exact sm_bind (sm_pure (R:=fun x y=>x=v'.cells∧y=v'.cells) ⟨rfl,rfl⟩) (fun x y h=>by rw[h.1,h.2];exact h0 _ (by rw[←rn_cells h3,←h1]) (okV_cells h3))
  refine sm_ite (sm_none (noOk_bind' (noOk_halt _))) hj
 |_=>exact sm_halt
def LenOk (P:Program) (ts:Array TypeId):Prop:=∀t,ts[0]?=some t→(∀a b,P.underlying t≠some (.map a b))∧∀a b,P.underlying t≠some (.chan a b)
theorem sm_len{c:Cx}(ts:Array TypeId)(ht:LenOk c.P ts)(u:TypeId){x y:Array Value}(h:VsR c x y):Sm c (Builtin.len_ ts u x) (Builtin.len_ ts u y) (VR c):=by
 unfold Builtin.len_
 cases hq:ts[0]? with
 |none=>exact sm_halt
 |some t=>
  obtain ⟨hm,hch⟩:=ht t hq
  rcases h.get 0 with ⟨h1,h2⟩|⟨v,v',h1,h2,rfl,hv⟩
  ·simp only[h1];exact sm_halt
  ·simp only[h1,h2]
   refine sm_bind (sm_still (still_underlying t)) ?_
   rintro d d' ⟨rfl,hd⟩
   have hd:=run_under (hd default)
   cases d with
   |map a b=>exact absurd hd (hm a b)
   |chan a b=>exact absurd hd (hch a b)
   |string=>cases v<;>first|exact sm_halt|(simp only[rnV];exact sm_pure ⟨by simp[goInt,rnV],by simp[goInt,okV]⟩)
   |slice e=>cases v<;>first|exact sm_halt|(simp only[rnV];exact sm_pure ⟨by simp[goInt,rnV],by simp[goInt,okV]⟩)
   |array n e=>exact sm_pure ⟨by simp[goInt,rnV],by simp[goInt,okV]⟩
   |pointer e=>
    refine sm_bind (sm_still (still_underlying e)) ?_
    rintro d d' ⟨rfl,-⟩
    cases d<;>first|exact sm_halt|exact sm_pure ⟨by simp[goInt,rnV],by simp[goInt,okV]⟩
   |_=>exact sm_halt
theorem sm_max2{c:Cx}{x x' y y':Value}(hx:VR c x x')(hy:VR c y y'):Sm c (Builtin.max2 x y) (Builtin.max2 x' y') (VR c):=by
 obtain ⟨rfl,hx⟩:=hx
 obtain ⟨rfl,hy⟩:=hy
 cases x with
 |float k a=>simp[okV]at hx
 |complex k a b=>simp[okV]at hx
 |int k a=>
  cases y with
  |int k' b=>simp only[rnV,Builtin.max2];exact sm_pure ⟨by simp[rnV],by simp[okV]⟩
  |pointer q=>cases q<;>exact sm_halt
  |_=>exact sm_halt
 |string a=>
  cases y with
  |string b=>
   simp only[rnV,Builtin.max2]
   refine sm_bind (sm_str _ _ _) ?_
   intro v v' hv
   refine sm_bind (sm_asBool hv) ?_
   rintro b b' rfl
   exact sm_pure ⟨by simp[rnV],by simp[okV]⟩
  |pointer q=>cases q<;>exact sm_halt
  |_=>exact sm_halt
 |pointer q=>cases q<;>cases y<;>first|exact sm_halt|(rename_i p;cases p<;>exact sm_halt)
 |_=>cases y<;>first|exact sm_halt|(rename_i p;cases p<;>exact sm_halt)
theorem sm_min2{c:Cx}{x x' y y':Value}(hx:VR c x x')(hy:VR c y y'):Sm c (Builtin.min2 x y) (Builtin.min2 x' y') (VR c):=by
 obtain ⟨rfl,hx⟩:=hx
 obtain ⟨rfl,hy⟩:=hy
 cases x with
 |float k a=>simp[okV]at hx
 |complex k a b=>simp[okV]at hx
 |int k a=>
  cases y with
  |int k' b=>simp only[rnV,Builtin.min2];exact sm_pure ⟨by simp[rnV],by simp[okV]⟩
  |pointer q=>cases q<;>exact sm_halt
  |_=>exact sm_halt
 |string a=>
  cases y with
  |string b=>
   simp only[rnV,Builtin.min2]
   refine sm_bind (sm_str _ _ _) ?_
   intro v v' hv
   refine sm_bind (sm_asBool hv) ?_
   rintro b b' rfl
   exact sm_pure ⟨by simp[rnV],by simp[okV]⟩
  |pointer q=>cases q<;>exact sm_halt
  |_=>exact sm_halt
 |pointer q=>cases q<;>cases y<;>first|exact sm_halt|(rename_i p;cases p<;>exact sm_halt)
 |_=>cases y<;>first|exact sm_halt|(rename_i p;cases p<;>exact sm_halt)
theorem sm_foldM{c:Cx}{f:Value→Value→Sem Value}(hf:∀{x x' y y'},VR c x x'→VR c y y'→Sm c (f x y) (f x' y') (VR c)):∀(l:List Value) {x x':Value},VR c x x'→(∀v∈l,okV c v)→Sm c (l.foldlM f x) ((l.map (rnV c.r)).foldlM f x') (VR c)
 |[],x,x',h,_=>by simp only[List.map_nil,List.foldlM_nil];exact sm_pure h
 |v::l,x,x',h,k=>by
  simp only[List.map_cons,List.foldlM_cons]
  exact sm_bind (hf h ⟨rfl,k v (by simp)⟩) (fun a b hab=>sm_foldM hf l hab (fun y hy=>k y (by simp[hy])))
theorem sm_max{c:Cx}(ts:Array TypeId)(u:TypeId){x y:Array Value}(h:VsR c x y):Sm c (Builtin.max_ ts u x) (Builtin.max_ ts u y) (VR c):=by
 obtain ⟨rfl,h⟩:=h
 unfold Builtin.max_
 rw[Array.toList_map]
 cases hl:x.toList with
 |nil=>exact sm_halt
 |cons v l=>
  have hk:∀z∈v::l,okV c z:=fun z hz=>h z (by rw[←hl]at hz;simpa using hz)
  exact sm_foldM sm_max2 l ⟨rfl,hk v (by simp)⟩ (fun z hz=>hk z (by simp[hz]))
theorem sm_min{c:Cx}(ts:Array TypeId)(u:TypeId){x y:Array Value}(h:VsR c x y):Sm c (Builtin.min_ ts u x) (Builtin.min_ ts u y) (VR c):=by
 obtain ⟨rfl,h⟩:=h
 unfold Builtin.min_
 rw[Array.toList_map]
 cases hl:x.toList with
 |nil=>exact sm_halt
 |cons v l=>
  have hk:∀z∈v::l,okV c z:=fun z hz=>h z (by rw[←hl]at hz;simpa using hz)
  exact sm_foldM sm_min2 l ⟨rfl,hk v (by simp)⟩ (fun z hz=>hk z (by simp[hz]))
theorem sm_lenOf{c:Cx}{v v':Value}(h:VR c v v'):Sm c (Builtin.lenOf v) (Builtin.lenOf v') (fun a b=>a=b∧∀x n k,v=.slice x n k→a=n):=by
 obtain ⟨rfl,h⟩:=h
 cases v<;>first|exact sm_halt|(simp only[rnV,Builtin.lenOf];exact sm_pure ⟨rfl,fun x n k e=>by cases e;rfl⟩)|(simp only[rnV,Builtin.lenOf];exact sm_pure ⟨rfl,fun x n k e=>by cases e⟩)
theorem sm_first{c:Cx}(z n:Nat){v v':Value}(h:VR c v v')(hn:∀x m k,v=.slice x m k→n≤m):Sm c (Builtin.firstCells z n v) (Builtin.firstCells z n v') (fun a b=>VsR c a b∧(n=0→a=#[])):=by
 obtain ⟨rfl,h⟩:=h
 cases v with
 |slice a m k=>
  have hm:=hn a m k rfl
  simp only[rnV]
  rcases (show okS c a m k by simpa only[okV] using h).say with ⟨h1,h2,-⟩|⟨rfl,rfl,x,y,rfl,h2,-⟩
  ·rw[h2]
   cases a with
   |none=>simp only[Option.map_none,Builtin.firstCells];exact sm_pure ⟨⟨by simp,fun x hx=>by simp at hx⟩,fun _=>rfl⟩
   |some a=>
    simp only[Option.map_some,Builtin.firstCells]
    by_cases h0:n=0
    ·subst h0
     rw[Nat.zero_mul]
     exact sm_pure ⟨⟨by simp,fun x hx=>by simp at hx⟩,fun _=>rfl⟩
    ·exact (sm_loadCells a (h1 a rfl) _).mono fun _ _ q=>⟨q,fun e=>absurd e h0⟩
  ·rw[h2]
   obtain rfl:n=0:=by omega
   simp only[Builtin.firstCells,Nat.zero_mul]
   exact sm_pure ⟨⟨by simp,fun x hx=>by simp at hx⟩,fun _=>rfl⟩
 |string s=>
  simp only[rnV,Builtin.firstCells]
  refine sm_pure ⟨⟨?_,fun x hx=>?_⟩,fun e=>by subst e;apply Array.ext (by simp);intro i h1 h2;simp at h2⟩
  ·rw[Array.map_map]
   congr 1
   funext b
   simp[rnV]
  ·obtain ⟨b,-,rfl⟩:=Array.mem_map.1 hx
   simp[okV]
 |_=>exact sm_halt
theorem sm_store0{c:Cx}(a b:Addr):Sm c (storeCells a (#[]:Array Value).toList) (storeCells b ((#[]:Array Value).map (rnV c.r)).toList) (fun _ _=>True):=by
 rw[show (#[]:Array Value).toList=[] from rfl,show ((#[]:Array Value).map (rnV c.r)).toList=[] by simp]
 unfold storeCells
 exact sm_pure trivial
theorem VsR.app{c:Cx}{x y x' y':Array Value}(h:VsR c x x')(k:VsR c y y'):VsR c (x++y) (x'++y'):=by
 obtain ⟨rfl,h⟩:=h
 obtain ⟨rfl,k⟩:=k
 refine ⟨by simp,fun v hv=>?_⟩
 rcases Array.mem_append.1 hv with q|q
 ·exact h v q
 ·exact k v q
theorem zeros_rn{c:Cx}{x:Array Value}(h1:x.map (rnV c.r)=x)(h2:okVs c x)(n:Nat):VsR c (Builtin.zeroCells x n) (Builtin.zeroCells x n):=
 ⟨(rnVs_mk _ fun _=>rn_getB h1 _).symm,okVs_mk fun _=>ok_getB h2 _⟩
theorem tm_mayShare{P:Program}(z n m:Nat)(b:Option Addr)(v:Value):Tm P (Builtin.mayShare z n m b v):=by
 have hh:∀a k,Tm P (Builtin.holdsCells a k):=fun a k=>by
  unfold Builtin.holdsCells
  refine tm_bind (tm_shape _) fun s=>?_
  split<;>exact tm_pure _
 unfold Builtin.mayShare
 extract_lets j
 have hj:∀x,Tm P (j x):=fun x=>by
  dsimp only[j]
  split
  ·exact tm_pure _
  ·split
   ·exact tm_bind (hh _ _) fun _=>tm_pure _
   ·exact tm_pure _
 split
 ·exact tm_bind (tm_pure _) hj
 ·refine tm_bind (hh _ _) fun q=>?_
  exact tm_bind (tm_frozen _) fun _=>tm_bind (tm_pure _) hj
def AppOk (P:Program) (ts:Array TypeId):Prop:=(∀t k,ts[1]?=some t→P.underlying t≠some (.int k))∧∀t,ts[0]?=some t→ZeroSl P t
theorem sm_append{c:Cx}(ts:Array TypeId)(hts:AppOk c.P ts)(u:TypeId){x y:Array Value}(h:VsR c x y):Sm c (Builtin.append_ ts u x) (Builtin.append_ ts u y) (VR c):=by
 unfold Builtin.append_
 cases hq:ts[0]? with
 |none=>exact sm_halt
 |some t=>
  rcases h.get 0 with ⟨h1,h2⟩|⟨s,s',h1,h2,rfl,hs⟩
  ·rw[h1];exact sm_halt
  ·rcases h.get 1 with ⟨g1,g2⟩|⟨v,v',g1,g2,rfl,hv⟩
   ·rw[h1,g1];exact sm_halt
   ·rw[h1,h2,g1,g2]
    refine sm_bind (sm_still (still_underlying t)) ?_
    rintro d d' ⟨rfl,hd⟩
    have hu:=run_under (hd default)
    clear hd
    cases d with
    |slice e=>
     cases s with
     |slice b n k=>
      have hsl:=(show okS c b n k by simpa only[okV] using hs).say
      rw[show rnV c.r (.slice b n k)=.slice (rnS c.r b k) n k by simp only[rnV]]
      refine sm_bind (sm_still (still_sizeOf e)) ?_
      rintro z z' ⟨rfl,-⟩
      extract_lets a0 a1 a2
      have hA:Sm c (a1 false) (a2 false) (VR c):=by
       refine (show Sm c (Builtin.lenOf v >>=_) (Builtin.lenOf (rnV c.r v) >>=_) _ from ?_)
       refine sm_bind (sm_lenOf ⟨rfl,hv⟩) ?_
       rintro m m' ⟨rfl,hml⟩
       dsimp -zeta -zetaHave only
       extract_lets p q s1 j2 j1 p' s1' j2' j1'
       have hp:Sm c p p' (fun a b=>VsR c a b∧(m=0→a=#[])):=sm_first z m ⟨rfl,hv⟩ (fun x q k e=>by rw[hml x q k e];exact Nat.le_refl _)
       by_cases hfit:n+m≤k
       ·rw[if_pos hfit,if_pos hfit]
        refine sm_bind hp ?_
        rintro nw nw' ⟨⟨rfl,hn⟩,hn0⟩
        rcases hsl with ⟨g1,g2,g3⟩|⟨rfl,rfl,x,y,rfl,g2,⟨s,g3⟩,-⟩
        ·rw[g2]
         cases b with
         |none=>exact sm_pure ⟨by simp only[rnV,rnS_none],by simp only[okV];exact okS_nil _ _ _⟩
         |some a=>
          refine sm_bind (R:=fun _ _=>True) ?_ (fun _ _ _=>sm_pure (by rw[g2];exact vr_slice _ _ (g1 a rfl) (g3 a rfl)))
          show Sm c (storeCells (a.add (n*z)) nw.toList) (storeCells ((rnA c.r a).add (n*z)) (nw.map (rnV c.r)).toList) _
          rw[rn_add,Array.toList_map]
          exact sm_storeCells (a.add (n*z)) (by rw[blk_add];exact g1 a rfl) nw.toList 0 (fun y hy=>hn y (by simpa using hy))
        ·rw[g2]
         obtain rfl:m=0:=by omega
         rw[hn0 rfl]
         refine sm_bind (R:=fun _ _=>True) (sm_store0 _ _) (fun _ _ _=>sm_pure ⟨?_,?_⟩)
         ·simp only[rnV]
         ·obtain ⟨b,o,s'⟩:=x
          simp only[okV]
          exact .inr ⟨rfl,rfl,b,o,s,by rw[←g3]⟩
       ·rw[if_neg hfit,if_neg hfit]
        refine sm_bind (sm_still (still_typeInfo e)) ?_
        rintro i i' ⟨rfl,-⟩
        have h2:Sm c (j2 ()) (j2' ()) (VR c):=by
         refine sm_bind sm_choose ?_
         rintro nc nc' rfl
         refine sm_bind (sm_still (still_typeInfo e)) ?_
         rintro i i' ⟨rfl,-⟩
         refine sm_bind (sm_askRoom _) fun _ _ _=>?_
         refine sm_bind (sm_first z n (v:=.slice b n k) (v':=.slice (rnS c.r b k) n k) ⟨by simp only[rnV],hs⟩ (fun x m k e=>by cases e;exact Nat.le_refl _)) ?_
         rintro old old' ⟨hold,-⟩
         refine sm_bind hp ?_
         rintro nw nw' ⟨hnw,-⟩
         refine sm_bind (sm_zero e (hts.2 t hq e hu)) ?_
         rintro v v' ⟨h1,h2,h3⟩
         subst h2
         have hr:=(hold.app hnw).app (zeros_rn (c:=c) (x:=v'.cells) (by rw[←rn_cells h3,←h1]) (okV_cells h3) (nc - q))
         refine sm_bind (sm_newRow hr.2 hr.1) ?_
         rintro a a' ⟨rfl,-,hb,hs⟩
         exact sm_pure (vr_slice _ _ hb hs)
        have h1:Sm c (j1 ()) (j1' ()) (VR c):=by
         refine sm_bind (sm_still (still_typeInfo e)) ?_
         rintro i i' ⟨rfl,-⟩
         refine sm_ite (sm_none (noOk_bind' ?_)) h2
         refine (show NoOk c.P (Builtin.mayShare z n m b v >>=_) from ?_)
         refine noOk_bind (tm_mayShare _ _ _ _ _) fun x=>?_
         split
         ·exact noOk_bind (tm_mark _) fun _=>noOk_halt _
         ·exact noOk_halt _
        exact sm_ite (sm_none (noOk_bind' (noOk_panic _))) h1
      cases ht1:ts[1]? with
      |none=>exact hA
      |some tx=>
       refine sm_bind (sm_still (still_underlying tx)) ?_
       rintro d d' ⟨rfl,hd⟩
       have hd:=run_under (hd default)
       cases d with
       |int k=>exact absurd hd (hts.1 tx k ht1)
       |_=>exact hA
     |_=>exact sm_halt
    |_=>exact sm_halt
theorem sm_partAt{c:Cx}{a:Addr}(ha:¬c.ob a.block)(m n:Nat):Sm c (partAt a m n) (partAt (rnA c.r a) m n) (fun a a'=>a'=rnA c.r a∧¬c.ob a.block):=by
 unfold partAt
 refine sm_bind (sm_byteOf ha) ?_
 rintro b b' rfl
 extract_lets b p p'
 refine sm_bind (sm_byteOf (a:=p) ha) ?_
 rintro q q' rfl
 by_cases h:q=b
 ·rw[if_pos h,if_pos h];exact sm_pure ⟨rfl,ha⟩
 ·rw[if_neg h,if_neg h];exact sm_pure ⟨rfl,ha⟩
theorem sm_place{c:Cx}{a:Addr}(ha:¬c.ob a.block)(f:Field):Sm c (fieldPlace a f) (fieldPlace (rnA c.r a) f) (fun a a'=>a'=rnA c.r a∧¬c.ob a.block):=by
 unfold fieldPlace
 refine sm_bind (sm_still (still_sizeOf _)) ?_
 rintro n n' ⟨rfl,-⟩
 refine sm_ite (sm_partAt ha _ _) ?_
 rw[rn_add]
 exact sm_pure ⟨rfl,by rw[blk_add];exact ha⟩
theorem sm_asAddr{c:Cx}{v v':Value}(h:VR c v v'):Sm c (asAddr v) (asAddr v') (fun a a'=>a'=rnA c.r a∧¬c.ob a.block):=by
 obtain ⟨rfl,h⟩:=h
 cases v with
 |pointer q=>
  cases q with
  |none=>exact sm_none (show NoOk c.P (runtimePanic .nilDeref:Sem Addr) from noOk_panic _)
  |some a=>simp only[rnV,Option.map_some,asAddr];exact sm_pure ⟨rfl,by simpa [okV,okAd] using h⟩
 |_=>exact sm_halt
def PlR (c:Cx):Place→Place→Prop
 |.val v,p=>∃v',p=.val v'∧VR c v v'
 |.var a,p=>p=.var (rnA c.r a)∧¬c.ob a.block
theorem sm_get{c:Cx}(t:TypeId){p p':Place}(h:PlR c p p'):Sm c (p.get t) (p'.get t) (VR c):=by
 cases p with
 |val v=>obtain ⟨v',rfl,h⟩:=h;exact sm_pure h
 |var a=>obtain ⟨rfl,h⟩:=h;exact sm_loadVar t a h
theorem sm_follow{c:Cx}:∀(l:List FieldStep) (t:TypeId) {p p':Place},PlR c p p'→Sm c (follow l t p) (follow l t p') (fun x y=>y.1=x.1∧PlR c x.2 y.2)
 |[],t,p,p',h=>sm_pure ⟨rfl,h⟩
 |s::l,t,p,p',h=>by
  unfold follow
  refine sm_bind (sm_still (still_underlying _)) ?_
  rintro d d' ⟨rfl,-⟩
  cases d with
  |struct fs=>
   simp only
   cases hf:fs[s.index]? with
   |none=>exact sm_halt
   |some f=>
    simp only
    refine sm_ite ?_ ?_
    ·refine sm_bind (sm_get t h) ?_
     intro v v' hv
     refine sm_bind (sm_asAddr hv) ?_
     rintro a a' ⟨rfl,ha⟩
     refine sm_bind (sm_place ha f) ?_
     rintro b b' ⟨rfl,hb⟩
     exact sm_follow l f.type ⟨rfl,hb⟩
    ·cases p with
     |var a=>
      obtain ⟨rfl,ha⟩:=h
      refine sm_bind (sm_place ha f) ?_
      rintro b b' ⟨rfl,hb⟩
      exact sm_follow l f.type ⟨rfl,hb⟩
     |val v=>
      obtain ⟨v',rfl,rfl,hv⟩:=h
      cases v with
      |agg cs=>
       simp only[rnV]
       refine sm_bind (sm_part f.type ⟨rfl,by simpa [okV,okVs] using hv⟩ f.offset) ?_
       intro x x' hx
       exact sm_follow l f.type ⟨x',rfl,hx⟩
      |_=>exact sm_halt
  |_=>exact sm_halt
theorem sm_wrapNil {c : Cx} (t : TypeId) (n : String) {v v' : Value} (h : VR c v v') : Sm c (Builtin.ssaWrapNilChk_ #[t] t #[v, strVal "", strVal n]) (Builtin.ssaWrapNilChk_ #[t] t #[v', strVal "", strVal n]) (VR c) := by
 obtain ⟨rfl,h⟩:=h
 cases v with
 |pointer q=>
  cases q with
  |some a=>simp only[rnV,Option.map_some];exact (sm_pure ⟨by simp[rnV],h⟩:Sm c (pure (Value.pointer (some a))) (pure (Value.pointer (some (rnA c.r a)))) (VR c))
  |none=>
   refine sm_none ?_
   refine (show NoOk c.P (choose _ >>=_) from ?_)
   refine noOk_bind (tm_choose _) fun n=>?_
   extract_lets j
   have hj:NoOk c.P (j ()):=by
    dsimp only[j]
    refine noOk_bind (tm_still (still_underlying _)) fun d=>?_
    cases d with
    |pointer e=>
     refine noOk_bind (tm_still (still_typeInfo _)) fun i=>?_
     split
     ·split
      ·split
       ·exact noOk_panic _
       ·exact noOk_halt _
      ·exact noOk_halt _
     ·exact noOk_halt _
    |_=>exact noOk_halt _
   split
   ·exact noOk_bind' (noOk_panic _)
   ·exact hj
 |_=>exact sm_halt
theorem sm_recvAt{c:Cx}(t:TypeId){p p':Place}(h:PlR c p p')(b:Bool)(n:Option String):Sm c (receiverAt t p b n) (receiverAt t p' b n) (VR c):=by
 unfold receiverAt
 refine sm_bind (sm_still (still_underlying t)) ?_
 rintro d d' ⟨rfl,-⟩
 have hv:Sm c (p.get t) (p'.get t) (VR c):=sm_get t h
 cases d with
 |pointer e=>
  cases b with
  |true=>exact hv
  |false=>
   simp only
   refine sm_bind hv ?_
   intro v v' hvv
   cases n with
   |none=>
    refine sm_bind (sm_pure hvv) ?_
    intro v v' hvv
    refine sm_bind (sm_asAddr hvv) ?_
    rintro a a' ⟨rfl,ha⟩
    exact sm_loadVar e a ha
   |some nm=>
    refine sm_bind (sm_wrapNil t nm hvv) ?_
    intro x x' hx
    refine sm_bind (sm_asAddr hx) ?_
    rintro a a' ⟨rfl,ha⟩
    exact sm_loadVar e a ha
 |_=>
  cases b with
  |false=>exact hv
  |true=>
   cases p with
   |val v=>exact sm_halt
   |var a=>
    obtain ⟨rfl,ha⟩:=h
    exact (sm_pure ⟨by simp[rnV],by simpa [okV,okAd] using ha⟩:Sm c (pure (.pointer (some a))) (pure (.pointer (some (rnA c.r a)))) (VR c))
def MethOk (c:Cx) (nm:String):Prop:=∀t i m f b,c.P.info? t=some i→i.methods.find? (·.name==nm)=some m→m.func=some (f,b)→c.F f
theorem sm_method{c:Cx}{nm:String}(hm:MethOk c nm):∀(fuel:Nat) (t:TypeId) {v v':Value},VR c v v'→Sm c (method fuel t v nm) (method fuel t v' nm) (fun x y=>y.1=x.1∧VR c x.2 y.2∧c.F x.1)
 |0,t,v,v',_=>sm_halt
 |n+1,t,v,v',h=>by
  unfold method
  refine sm_bind (sm_still (still_typeInfo t)) ?_
  rintro i i' ⟨rfl,hi⟩
  cases hf:i.methods.find? (·.name==nm) with
  |none=>exact sm_halt
  |some m=>
   simp only
   refine sm_bind (sm_follow _ t ⟨v',rfl,h⟩) ?_
   rintro ⟨xt,x⟩ ⟨yt,y⟩ ⟨hxy,hp⟩
   cases hxy
   cases hmf:m.func with
   |none=>
    simp only
    refine sm_bind (sm_get _ hp) ?_
    rintro u u' ⟨rfl,hu⟩
    cases u with
    |iface t' v'=>simp only[rnV];exact sm_method hm n t' ⟨rfl,by simpa [okV] using hu⟩
    |nilIface=>exact sm_none (show NoOk c.P (runtimePanic .nilDeref:Sem (FuncId×Value)) from noOk_panic _)
    |_=>exact sm_halt
   |some fb=>
    obtain ⟨f,b⟩:=fb
    simp only
    refine sm_bind (sm_recvAt _ hp _ _) ?_
    intro u u' hu
    have hP:c.P.info? t=some i:=by
     have:=hi default
     unfold typeInfo at this
     cases q:c.P.info? t with
     |none=>simp only[Sem.run_bind,run_program,Result.andThen,q]at this;cases this
     |some j=>simp only[Sem.run_bind,run_program,Result.andThen,q,Sem.run_pure]at this;cases this;rfl
    exact sm_pure ⟨rfl,hu,hm t i m f b hP hf hmf⟩
theorem setObj_at{w:World}{b:Nat}{o x:Obj}(h:w.heap[b]?=some x)(i:Nat):(w.heap.setIfInBounds b o)[i]?=if i=b then some o else w.heap[i]?:=by
 rw[Array.getElem?_setIfInBounds]
 have:b<w.heap.size:=by
  rcases Nat.lt_or_ge b w.heap.size with q|q
  ·exact q
  ·rw[Array.getElem?_eq_none q]at h;cases h
 by_cases hb:b=i
 ·subst hb;simp[this]
 ·rw[if_neg hb,if_neg (fun e=>hb e.symm)]
theorem OR.obr{c:Cx}{b:Nat}{o O:Obj}(h:OR c o O)(hb:c.own b):ObR c b o (some O):=by
 cases o with
 |loop l=>exact ⟨hb,h.1,h.2.1,h.2.2.1,h.2.2.2.1,h.2.2.2.2.1,h.2.2.2.2.2.1,by rw[h.2.2.2.2.2.2]⟩
 |deferred d=>exact ⟨hb,h.1,by rw[h.2]⟩
 |number a x=>exact ⟨hb,h.1,by rw[h.2]⟩
 |map es k=>exact ⟨hb,h.1,by rw[h.2]⟩
 |chan n bf cl s q tm=>exact ⟨hb,h.1,by rw[h.2]⟩
 |_=>exact h.elim
theorem sm_setObj{c:Cx}{b:Nat}{o O:Obj}(hb:¬c.ob b)(h:OR c o O):Sm c (setObj b o) (setObj (c.r b) O) (fun _ _=>True):=by
 refine sm_of ?_ (fun w W hr q w' h=>by
  have h':(Sem.setObj b o (.pure ()):Sem Unit).run c.P w=.halt q w':=h
  simp only[Sem.run]at h'
  split at h'<;>cases h'<;>exact ⟨trivial,hr.hk⟩)
 intro w W hr x w' hx
 have h':(Sem.setObj b o (.pure ()):Sem Unit).run c.P w=.ok x w':=hx
 simp only[Sem.run]at h'
 have key:∀o0 O0,w.heap[b]?=some o0→(∀a e z,o0≠.cells a e z)→W.heap[c.r b]?=some O0→(∀a e z,O0≠.cells a e z)→c.own b→Result.ok () { w with heap:=w.heap.setIfInBounds b o }=Result.ok x w'→∃y W' nw,(∀es,(setObj (c.r b) O).runT c.P W es=(.ok y W',es++nw))∧True∧Rl c w' W'∧Gw w w'∧(w'.drawn=w.drawn∧W'.tape=W.tape∧W'.drawn=W.drawn)∧∀e∈nw,EvOk c w' e:=by
  intro o0 O0 h1 h2 h3 h4 h5 h6
  cases h6
  refine ⟨(),{ W with heap:=W.heap.setIfInBounds (c.r b) O },#[⟨.obj (c.r b),true,O.isChan⟩],fun es=>?_,trivial,⟨hr.inj,fun k=>by simp only[Array.size_setIfInBounds];exact hr.top k,fun k=>by simp only[Array.size_setIfInBounds];exact hr.new k,hr.down,fun i x hob hi=>?_,fun B hB=>by
   rw[setObj_at h3]
   split
   ·next q=>exact absurd (by first|exact q.symm|exact q) (hB _ h5)
   ·exact hr.out B hB,hr.rest⟩,⟨by simp,fun a ha=>?_,rfl,Nat.le_refl _⟩,⟨rfl,rfl,rfl⟩,fun e he=>?_⟩
  ·show (Sem.setObj (c.r b) O (.pure ()):Sem Unit).runT c.P W es=_
   simp only[Sem.runT,h3]
   cases O0 with
   |cells a e z=>exact absurd rfl (h4 a e z)
   |_=>rfl
  ·rw[setObj_at h1]at hi
   rw[setObj_at h3]
   by_cases hib:i=b
   ·subst hib
    rw[if_pos rfl]at hi
    cases hi
    rw[if_pos rfl]
    exact h.obr h5
   ·rw[if_neg hib]at hi
    rw[if_neg (fun q=>hib (hr.inj _ _ q))]
    exact hr.blk i x hob hi
  ·cases hq:w.cell? a with
   |none=>rw[hq]at ha;cases ha
   |some y=>
    obtain ⟨hs',x',e',z',hx',hu'⟩:=cell_spot hq
    unfold World.cell?
    rw[setObj_at h1,if_neg (fun q=>by rw[q,h1]at hx';exact h2 _ _ _ (Option.some.inj hx')),hx']
    simp[hs',hu']
  ·simp only[Array.mem_singleton]at he
   exact .inr (.inl ⟨b,true,_,he,h5,hb⟩)
 cases hq:w.heap[b]? with
 |none=>rw[hq]at h';cases h'
 |some o0=>
  rw[hq]at h'
  have ho:=hr.blk b o0 hb hq
  cases o0 with
  |cells a e z=>cases h'
  |loop l=>exact key _ _ hq (fun _ _ _ q=>by cases q) ho.2.2.2.2.2.2.2 (fun _ _ _ q=>by cases q) ho.1 h'
  |deferred d=>exact key _ _ hq (fun _ _ _ q=>by cases q) ho.2.2 (fun _ _ _ q=>by cases q) ho.1 h'
  |number a y=>exact key _ _ hq (fun _ _ _ q=>by cases q) ho.2.2 (fun _ _ _ q=>by cases q) ho.1 h'
  |map es k=>exact key _ _ hq (fun _ _ _ q=>by cases q) ho.2.2 (fun _ _ _ q=>by cases q) ho.1 h'
  |chan n bf cl s q tm=>exact key _ _ hq (fun _ _ _ q=>by cases q) ho.2.2 (fun _ _ _ q=>by cases q) ho.1 h'
  |_=>exact ho.elim
def LR (c:Cx) (l l':Loop):Prop:=l'=rnL c.r l∧okVs c l.tmps∧c.C l.assign∧c.C l.body∧(∀d,l.pending=some d→c.C d)∧c.G l.fn∧¬c.ob l.defers
theorem sm_getLoop{c:Cx}{b:Nat}(hb:¬c.ob b):Sm c (Instr.getLoop b) (Instr.getLoop (c.r b)) (LR c):=by
 unfold Instr.getLoop
 refine sm_bind (sm_getObj hb) ?_
 intro o O h
 cases o with
 |loop l=>rw[h.2.2.2.2.2.2];exact sm_pure ⟨rfl,h.1,h.2.1,h.2.2.1,h.2.2.2.1,h.2.2.2.2.1,h.2.2.2.2.2.1⟩
 |deferred d=>exact sm_halt
 |number a x=>exact sm_halt
 |map es k=>exact sm_halt
 |chan n bf cl s q tm=>exact sm_halt
 |_=>exact h.elim
theorem LR.or{c:Cx}{l l':Loop}(h:LR c l l')(s:LoopState)(p:Option Code)(hp:∀d,p=some d→c.C d):OR c (.loop { l with state:=s,pending:=p }) (.loop { l' with state:=s,pending:=p }):=by
 obtain ⟨rfl,h1,h2,h3,_,h5,h6⟩:=h
 exact ⟨h1,h2,h3,hp,h5,h6,rfl⟩
theorem LR.or'{c:Cx}{l l':Loop}(h:LR c l l')(s:LoopState):OR c (.loop { l with state:=s }) (.loop { l' with state:=s }):=by
 obtain ⟨rfl,h1,h2,h3,h4,h5,h6⟩:=h
 exact ⟨h1,h2,h3,h4,h5,h6,rfl⟩
theorem sm_yield{c:Cx}{l:Nat}(hl:¬c.ob l){x y:Array Value}(h:VsR c x y):Sm c (Instr.yield l x) (Instr.yield (c.r l) y) (NxR c):=by
 unfold Instr.yield
 refine sm_bind (sm_getLoop hl) ?_
 rintro r r' ⟨rfl,h1,h2,h3,h4,h5,h6⟩
 obtain ⟨rfl,h⟩:=h
 simp only[Array.size_map]
 rw[show (rnL c.r r).params=r.params from rfl]
 split
 ·exact sm_halt
 ·have hf:∀(ps:List (Tmp×Value)) (t:Array Value),(∀p∈ps,okV c p.2)→okVs c t→((ps.map fun p=>(p.1,rnV c.r p.2)).foldl (fun t (p:Tmp×Value)=>t.setIfInBounds p.1 p.2) (t.map (rnV c.r))=((ps.foldl (fun t (p:Tmp×Value)=>t.setIfInBounds p.1 p.2) t).map (rnV c.r)))∧okVs c (ps.foldl (fun t (p:Tmp×Value)=>t.setIfInBounds p.1 p.2) t):=by
   intro ps
   induction ps with
   |nil=>intro t _ ht;exact ⟨rfl,ht⟩
   |cons p ps ih=>
    intro t hp ht
    simp only[List.map_cons,List.foldl_cons]
    rw[←map_set]
    exact ih _ (fun q hq=>hp q (by simp[hq])) (ok_set _ ht (hp p (by simp)))
  have hz:(r.params.zip (x.map (rnV c.r))).toList=(r.params.zip x).toList.map fun p=>(p.1,rnV c.r p.2):=by
   simp[Array.toList_zip,List.zip_map_right]
  obtain ⟨e1,e2⟩:=hf (r.params.zip x).toList r.tmps (fun p hp=>h p.2 (by
   rw[Array.toList_zip]at hp
   have:=(List.of_mem_zip hp).2
   simpa using this)) h1
  refine sm_pure ⟨?_,?_,h2,h3,h5,hl⟩
  ·rw[←Array.foldl_toList,←Array.foldl_toList,hz]
   exact congrArg (fun t=>Next.round (c.r l) r.fn t r.assign r.body) e1
  ·rw[←Array.foldl_toList]
   exact e2
theorem sm_beginRound{c:Cx}{l:Nat}(hl:¬c.ob l):Sm c (Instr.beginRound l) (Instr.beginRound (c.r l)) (fun _ _=>True):=by
 unfold Instr.beginRound
 refine sm_bind (sm_getLoop hl) ?_
 intro r r' h
 refine sm_bind (sm_setObj hl (h.or' .busy)) fun _ _ _=>?_
 obtain ⟨rfl,-⟩:=h
 rw[show (rnL c.r r).state=r.state from rfl]
 cases r.state with
 |ready=>exact sm_pure trivial
 |_=>exact sm_none (noOk_panic _)
theorem sm_endRound{c:Cx}{l:Nat}(hl:¬c.ob l)(j:Option Code)(hj:∀d,j=some d→c.C d):Sm c (Instr.endRound l j) (Instr.endRound (c.r l) j) (VR c):=by
 unfold Instr.endRound
 refine sm_bind (sm_getLoop hl) ?_
 intro r r' h
 exact sm_bind (sm_setObj hl (h.or _ j hj)) fun _ _ _=>sm_pure ⟨by simp[rnV],by simp[okV]⟩
theorem sm_endLoop{c:Cx}{l:Nat}(hl:¬c.ob l):Sm c (Instr.endLoop l) (Instr.endLoop (c.r l)) (fun x y=>y=x∧∀d,x=some d→c.C d):=by
 unfold Instr.endLoop
 refine sm_bind (sm_getLoop hl) ?_
 intro r r' h
 have hs:r'.state=r.state:=by rw[h.1];rfl
 have hp:r'.pending=r.pending:=by rw[h.1];rfl
 rw[hs]
 split
 ·exact sm_none (noOk_bind' (noOk_panic _))
 ·exact sm_bind (sm_setObj hl (h.or' .exhausted)) fun _ _ _=>sm_pure ⟨hp,h.2.2.2.2.1⟩
theorem sm_takeDeferred{c:Cx}{b:Nat}(hb:¬c.ob b):Sm c (Instr.takeDeferred b) (Instr.takeDeferred (c.r b)) (fun x y=>x=[]∧y=[]):=by
 unfold Instr.takeDeferred
 refine sm_bind (sm_getObj hb) ?_
 intro o O h
 cases o with
 |loop l=>exact sm_halt
 |deferred d=>
  rcases h.1 with rfl|rfl
  ·exact sm_halt
  ·rw[h.2]
   exact sm_bind (sm_setObj hb ⟨.inl rfl,rfl⟩) fun _ _ _=>sm_pure ⟨rfl,rfl⟩
 |number a x=>exact sm_halt
 |map es k=>exact sm_halt
 |chan n bf cl s q tm=>exact sm_halt
 |_=>exact h.elim
def DfR (c:Cx) (d d':Deferred):Prop:=∃b,d={ target:=.collected b,args:=#[] }∧d'={ target:=.collected (c.r b),args:=#[] }∧¬c.ob b
theorem sm_enterLoop{c:Cx}(f:FuncId)(hf:c.G f){x y:Array Value}(h:VsR c x y)(ps:Array Tmp)(a b:Code)(ha:c.C a)(hb:c.C b)(o:Option Nat)(ho:∀l,o=some l→¬c.ob l):
  Sm c (Instr.enterLoop f x ps a b o) (Instr.enterLoop f y ps a b (o.map c.r)) (fun p q=>q.1=c.r p.1∧¬c.ob p.1∧((p.2=[]∧q.2=[])∨∃d d',p.2=[d]∧q.2=[d']∧DfR c d d')):=by
 obtain ⟨rfl,h⟩:=h
 unfold Instr.enterLoop
 cases o with
 |some l=>
  simp only[Option.map_some]
  refine sm_bind (sm_getLoop (ho l rfl)) ?_
  rintro r r' ⟨rfl,-,-,-,-,-,hd⟩
  refine sm_bind (sm_pure (R:=fun p q=>p=(r.defers,[])∧q=(c.r r.defers,[])) ⟨rfl,rfl⟩) ?_
  rintro _ _ ⟨rfl,rfl⟩
  refine sm_bind (sm_newObj (fun n hn=>⟨hn,h,ha,hb,(fun d q=>by cases q),hf,hd,rfl⟩)) ?_
  rintro n n' ⟨rfl,-,hn⟩
  exact sm_pure ⟨rfl,hn,.inl ⟨rfl,rfl⟩⟩
 |none=>
  simp only[Option.map_none]
  refine sm_bind (sm_newObj (fun n hn=>⟨hn,.inr rfl,rfl⟩)) ?_
  rintro m m' ⟨rfl,-,hm⟩
  refine sm_bind (sm_pure (R:=fun p q=>p=(m,[{ target:=.collected m,args:=#[] }])∧q=(c.r m,[{ target:=.collected (c.r m),args:=#[] }])) ⟨rfl,rfl⟩) ?_
  rintro _ _ ⟨rfl,rfl⟩
  refine sm_bind (sm_newObj (fun n hn=>⟨hn,h,ha,hb,(fun d q=>by cases q),hf,hm,rfl⟩)) ?_
  rintro n n' ⟨rfl,-,hn⟩
  exact sm_pure ⟨rfl,hn,.inr ⟨_,_,rfl,rfl,m,rfl,rfl,hm⟩⟩
end Go.Proofs.Ytniloklglpchfai
