/- Blocks of memory numbered otherwise: numbers compared; lists that grow. No program in sight. -/
import Derived.Test.YtniloklglpchfaiPkEqF
namespace Go.Proofs.Ytniloklglpchfai
open Go
theorem sm_part{c:Cx}(t:TypeId){x y:Array Value}(h:VsR c x y)(o:Nat):Sm c (part t x o) (part t y o) (VR c):=by
 unfold part
 refine sm_bind (sm_still (still_isAgg t)) ?_
 rintro b b' ⟨rfl,-⟩
 obtain ⟨rfl,h⟩:=h
 cases b with
 |true=>
  refine sm_bind (sm_still (still_sizeOf t)) ?_
  rintro n n' ⟨rfl,-⟩
  refine sm_pure ⟨by simp[rnV,Array.map_extract],?_⟩
  simp only[okV]
  intro v hv
  exact h v (by
   obtain ⟨i,hi,rfl⟩:=Array.mem_iff_getElem.1 hv
   rw[Array.getElem_extract]
   exact Array.getElem_mem _)
 |false=>
  simp only[Array.getElem?_map]
  cases hi:x[o]? with
  |none=>exact sm_halt
  |some v=>exact sm_pure ⟨rfl,h v (Array.mem_of_getElem? hi)⟩
theorem sm_eqIntIn {c : Cx} (hg : GloOk c) (n : Nat) (t : TypeId) (k : IntKind) (ht : c.P.underlying t = some (.int k)) (hcc : ∀ i d, c.P.info? t = some i → i.desc ≠ .named "sync.copyChecker" d) {x x' y y' : Value} (hx : VR c x x') (hy : VR c y y') : Sm c (Op.equalIn (n + 1) t x y) (Op.equalIn (n + 1) t x' y') (fun a b => a = b) := by
 obtain ⟨rfl,hx⟩:=hx
 obtain ⟨rfl,hy⟩:=hy
 unfold Op.equalIn
 refine sm_bind (sm_still (still_underlying t)) ?_
 rintro d d' ⟨rfl,hd⟩
 have:=run_under (hd default)
 rw[ht]at this
 cases this
 cases x with
 |int kx a=>
  cases y with
  |int ky b=>
   simp only[rnV]
   split
   ·exact sm_pure rfl
   ·exact sm_halt
  |pointer q=>
   cases q with
   |none=>cases a with
    |ofNat n=>cases n<;>exact sm_halt
    |negSucc n=>exact sm_halt
   |some q=>cases a with
    |ofNat n=>cases n with
     |zero=>simp only[rnV,Option.map_some];exact sm_pure rfl
     |succ n=>exact sm_halt
    |negSucc n=>exact sm_halt
  |_=>cases a with
   |ofNat n=>cases n<;>exact sm_halt
   |negSucc n=>exact sm_halt
 |pointer q=>
  cases q with
  |none=>cases y with
   |int ky b=>cases b with
    |ofNat n=>cases n<;>exact sm_halt
    |negSucc n=>exact sm_halt
   |pointer p=>cases p<;>exact sm_halt
   |_=>exact sm_halt
  |some a=>
   have ha:¬c.ob a.block:=by simpa [okV,okAd] using hx
   cases y with
   |int ky b=>cases b with
    |ofNat n=>cases n with
     |zero=>simp only[rnV,Option.map_some];exact sm_pure rfl
     |succ n=>exact sm_halt
    |negSucc n=>exact sm_halt
   |pointer p=>
    cases p with
    |none=>exact sm_halt
    |some b=>
     have hb:¬c.ob b.block:=by simpa [okV,okAd] using hy
     simp only[rnV,Option.map_some]
     refine sm_bind (sm_behind ha) ?_
     rintro p p' ⟨rfl,hp⟩
     refine sm_bind (sm_behind hb) ?_
     rintro q q' ⟨rfl,hq⟩
     refine sm_bind sm_program ?_
     rintro pp pp' ⟨rfl,rfl⟩
     have hn:¬p.1.block<c.P.globals.size:=fun e=>hp (hg _ e)
     refine sm_none ?_
     rw[if_neg (by simp[hn])]
     intro w
     unfold typeInfo
     cases hi:c.P.info? t with
     |none=>simp only[Sem.run_bind,run_program,Result.andThen,hi];exact ⟨_,_,rfl,trivial,NoDf.refl _⟩
     |some i=>
      simp only[Sem.run_bind,run_program,Result.andThen,hi,Sem.run_pure]
      split
      ·rename_i d hd
       exact absurd hd (hcc i d hi)
      ·exact ⟨_,_,rfl,trivial,NoDf.refl _⟩
   |_=>exact sm_halt
 |_=>cases y with
  |pointer p=>cases p<;>exact sm_halt
  |_=>exact sm_halt
theorem sm_eqInt {c : Cx} (hg : GloOk c) (t : TypeId) (k : IntKind) (ht : c.P.underlying t = some (.int k)) (hcc : ∀ i d, c.P.info? t = some i → i.desc ≠ .named "sync.copyChecker" d) {x x' y y' : Value} (hx : VR c x x') (hy : VR c y y') : Sm c (Op.equal t x y) (Op.equal t x' y') (fun a b => a = b) :=
 sm_eqIntIn hg 9999 t k ht hcc hx hy
def StR {β:Type} (R:β→β→Prop):ForInStep β→ForInStep β→Prop
 |.done a,.done b=>R a b
 |.yield a,.yield b=>R a b
 |_,_=>False
theorem sm_forL{c:Cx}{α β:Type}{R:β→β→Prop}{f f':α→β→Sem (ForInStep β)}:∀(l:List α),(∀a,a∈l→∀b b',R b b'→Sm c (f a b) (f' a b') (StR R))→∀b b',R b b'→Sm c (forIn l b f) (forIn l b' f') R
 |[],_,b,b',hb=>by rw[List.forIn_nil,List.forIn_nil];exact sm_pure hb
 |a::l,h,b,b',hb=>by
  rw[List.forIn_cons,List.forIn_cons]
  refine sm_bind (h a (by simp) b b' hb) ?_
  intro s s' hs
  cases s with
  |done x=>cases s' with
   |done y=>exact sm_pure hs
   |yield y=>exact hs.elim
  |yield x=>cases s' with
   |done y=>exact hs.elim
   |yield y=>exact sm_forL l (fun a ha=>h a (by simp[ha])) x y hs
theorem sm_forA{c:Cx}{α β:Type}{R:β→β→Prop}{f f':α→β→Sem (ForInStep β)}(l:Array α)(h:∀a,a∈l→∀b b',R b b'→Sm c (f a b) (f' a b') (StR R)){b b':β}(hb:R b b'):Sm c (forIn l b f) (forIn l b' f') R:=by
 rw[←Array.forIn_toList,←Array.forIn_toList]
 exact sm_forL l.toList (fun a ha=>h a (by simpa using ha)) b b' hb
theorem sm_forR{c:Cx}{β:Type}{R:β→β→Prop}{f f':Nat→β→Sem (ForInStep β)}(n:Nat)(h:∀a b b',R b b'→Sm c (f a b) (f' a b') (StR R)){b b':β}(hb:R b b'):Sm c (forIn [:n] b f) (forIn [:n] b' f') R:=by
 rw[Std.Legacy.Range.forIn_eq_forIn_range',Std.Legacy.Range.forIn_eq_forIn_range']
 exact sm_forL _ (fun a _=>h a) b b' hb
def KeyTy (P:Program):Nat→TypeId→Prop
 |0,_=>False
 | n + 1, t => (∃ k, P.underlying t = some (.int k) ∧ ∀ i d, P.info? t = some i → i.desc ≠ .named "sync.copyChecker" d) ∨ P.underlying t = some .bool ∨ P.underlying t = some .string ∨
   (∃fs,P.underlying t=some (.struct fs)∧P.stoodInHeld t=false∧∀f,f∈fs→KeyTy P n f.type)∨(∃l e,P.underlying t=some (.array l e)∧KeyTy P n e)
theorem under_of{c:Cx}{t:TypeId}{d D:TypeDesc}(hd:∀w,(underlying t).run c.P w=.ok d w)(ht:c.P.underlying t=some D):d=D:=by
 have:=run_under (hd default)
 rw[ht]at this
 cases this
 rfl
theorem vr_part{c:Cx}{xs:Array Value}(h:okV c (.agg xs)):VsR c xs (xs.map (rnV c.r)):=⟨rfl,by simpa [okV,okVs] using h⟩
theorem sm_keyIn{c:Cx}(hg:GloOk c):∀(n d:Nat) (t:TypeId),KeyTy c.P n t→∀(x x' y y':Value),VR c x x'→VR c y y'→Sm c (Op.equalIn d t x y) (Op.equalIn d t x' y') (fun a b=>a=b)
 |0,_,_,h,_,_,_,_,_,_=>h.elim
 |n+1,0,t,_,x,x',y,y',_,_=>by unfold Op.equalIn;exact sm_halt
 |n+1,d+1,t,h,x,x',y,y',hx,hy=>by
  rcases h with ⟨k,ht,hcc⟩|ht|ht|⟨fs,ht,hsi,hf⟩|⟨l,e,ht,he⟩
  ·exact sm_eqIntIn hg d t k ht hcc hx hy
  ·obtain ⟨rfl,hx⟩:=hx
   obtain ⟨rfl,hy⟩:=hy
   unfold Op.equalIn
   refine sm_bind (sm_still (still_underlying t)) ?_
   rintro D D' ⟨rfl,hd⟩
   obtain rfl:=under_of hd ht
   cases x with
   |bool a=>cases y with
    |bool b=>simp only[rnV];exact sm_pure rfl
    |_=>exact sm_halt
   |_=>exact sm_halt
  ·obtain ⟨rfl,hx⟩:=hx
   obtain ⟨rfl,hy⟩:=hy
   unfold Op.equalIn
   refine sm_bind (sm_still (still_underlying t)) ?_
   rintro D D' ⟨rfl,hd⟩
   obtain rfl:=under_of hd ht
   cases x with
   |string a=>cases y with
    |string b=>simp only[rnV];exact sm_pure rfl
    |_=>exact sm_halt
   |_=>exact sm_halt
  ·obtain ⟨rfl,hx⟩:=hx
   obtain ⟨rfl,hy⟩:=hy
   unfold Op.equalIn
   refine sm_bind (sm_still (still_underlying t)) ?_
   rintro D D' ⟨rfl,hd⟩
   obtain rfl:=under_of hd ht
   cases x with
   |agg xs=>cases y with
    |agg ys=>
     simp only[rnV]
     refine sm_bind sm_program ?_
     rintro p p' ⟨rfl,rfl⟩
     rw[if_neg (by rw[hsi];simp),if_neg (by rw[hsi];simp)]
     refine sm_bind (R:=fun a b=>a=b) (sm_forA fs ?_ rfl) ?_
     ·rintro f hfm b b' rfl
      by_cases hn : f.name ≠ "_"
      ·rw[if_pos hn,if_pos hn]
       refine sm_bind (sm_part f.type (vr_part hx) f.offset) ?_
       intro u u' hu
       refine sm_bind (sm_part f.type (vr_part hy) f.offset) ?_
       intro v v' hv
       refine sm_bind (sm_keyIn hg n d f.type (hf f hfm) _ _ _ _ hu hv) ?_
       rintro a _ rfl
       exact sm_ite (sm_pure rfl) (sm_pure rfl)
      ·rw[if_neg hn,if_neg hn]
       exact sm_pure rfl
     ·rintro ⟨a,u⟩ _ rfl
      cases a with
      |none=>exact sm_pure rfl
      |some a=>exact sm_pure rfl
    |_=>exact sm_halt
   |_=>exact sm_halt
  ·obtain ⟨rfl,hx⟩:=hx
   obtain ⟨rfl,hy⟩:=hy
   unfold Op.equalIn
   refine sm_bind (sm_still (still_underlying t)) ?_
   rintro D D' ⟨rfl,hd⟩
   obtain rfl:=under_of hd ht
   cases x with
   |agg xs=>cases y with
    |agg ys=>
     simp only[rnV]
     refine sm_bind (sm_still (still_sizeOf e)) ?_
     rintro z _ ⟨rfl,-⟩
     refine sm_bind (R:=fun a b=>a=b) (sm_forR l ?_ rfl) ?_
     ·rintro i b b' rfl
      refine sm_bind (sm_part e (vr_part hx) _) ?_
      intro u u' hu
      refine sm_bind (sm_part e (vr_part hy) _) ?_
      intro v v' hv
      refine sm_bind (sm_keyIn hg n d e he _ _ _ _ hu hv) ?_
      rintro a _ rfl
      exact sm_ite (sm_pure rfl) (sm_pure rfl)
     ·rintro ⟨a,u⟩ _ rfl
      cases a with
      |none=>exact sm_pure rfl
      |some a=>exact sm_pure rfl
    |_=>exact sm_halt
   |_=>exact sm_halt
def BinOk (P:Program) (op:BinOp) (t:TypeId) (y:Operand):Prop:=
 ((∃ k, P.underlying t = some (.int k)) ∧ op ≠ .shl ∧ op ≠ .shr ∧ op ≠ .and ∧ op ≠ .or ∧ op ≠ .xor ∧ op ≠ .andNot ∧ ∀ i d, P.info? t = some i → i.desc ≠ .named "sync.copyChecker" d) ∨
 ((∃ms,P.underlying t=some (.interface ms))∧(op=.eql∨op=.neq)∧y=.const .nilIface)∨
 ((∃n,KeyTy P n t)∧(op=.eql∨op=.neq))∨((∃e,P.underlying t=some (.slice e))∧(op=.eql∨op=.neq)∧y=.const (.slice none 0 0))
theorem noOk_known{P:Program}{α β:Type}{t:Sem α}{f:α→Sem β}{a:α}(h:∀w,t.run P w=.ok a w)(k:NoOk P (f a)):NoOk P (t >>=f):=fun w=>by
 obtain ⟨q,w',h1,h2⟩:=k w
 refine ⟨q,w',?_,h2⟩
 rw[Sem.run_bind,h w]
 exact h1
def isFn (x y:Value):Prop:=(∃f a b,x=.func f a b)∨∃f a b,y=.func f a b
theorem noOk_eqF{P:Program}{t:TypeId}{D:TypeDesc}(ht:P.underlying t=some D)(hD:∀a b c,D≠.func a b c){x y:Value}(h:isFn x y):∀n,NoOk P (Op.equalIn n t x y)
 |0=>by unfold Op.equalIn;exact noOk_halt _
 |n+1=>by
  unfold Op.equalIn
  refine noOk_known (a:=D) (fun w=>by unfold underlying;simp only[Sem.run_bind,run_program,Result.andThen,ht];rfl) ?_
  rcases h with ⟨f,a,b,rfl⟩|⟨f,a,b,rfl⟩
  ·cases D<;>first|exact absurd rfl (hD _ _ _)|(cases y<;>first|exact noOk_halt _|(rename_i p;cases p<;>exact noOk_halt _)|(rename_i p _ _;cases p<;>exact noOk_halt _))
  ·cases D<;>first|exact absurd rfl (hD _ _ _)|(cases x<;>first|exact noOk_halt _|(rename_i p;cases p<;>exact noOk_halt _)|(rename_i p _ _;cases p<;>exact noOk_halt _))
theorem sm_eq{c:Cx}{t:TypeId}{x x' y y':Value}(hF:isFn x y→NoOk c.P (Op.equal t x y))(h:Sm c (Op.equal t x y) (Op.equal t x' y') (fun a b=>a=b))(op:BinOp)(hop:op=.eql∨op=.neq)(hx:VR c x x')(hy:VR c y y'):Sm c (binOp op t x y) (binOp op t x' y') (VR c):=by
 obtain ⟨rfl,hx⟩:=hx
 obtain ⟨rfl,hy⟩:=hy
 have he:Sm c (Op.equal t x y >>=fun b=>pure (.bool b)) (Op.equal t (rnV c.r x) (rnV c.r y) >>=fun b=>pure (.bool b)) (VR c):=sm_bind h (fun a b e=>by rw[e];exact sm_pure ⟨by simp[rnV],by simp[okV]⟩)
 have hn:Sm c (Op.equal t x y >>=fun b=>pure (.bool !b)) (Op.equal t (rnV c.r x) (rnV c.r y) >>=fun b=>pure (.bool !b)) (VR c):=sm_bind h (fun a b e=>by rw[e];exact sm_pure ⟨by simp[rnV],by simp[okV]⟩)
 by_cases hfn:isFn x y
 ·have hno:=hF hfn
  rcases hfn with ⟨f,a,b,rfl⟩|⟨f,a,b,rfl⟩
  ·cases y<;>rcases hop with h|h<;>subst h<;>(unfold binOp;exact sm_none (noOk_bind' hno))
  ·cases x<;>rcases hop with h|h<;>subst h<;>(unfold binOp;exact sm_none (noOk_bind' hno))
 have hfx:∀f a b,x≠.func f a b:=fun f a b e=>hfn (.inl ⟨f,a,b,e⟩)
 have hfy:∀f a b,y≠.func f a b:=fun f a b e=>hfn (.inr ⟨f,a,b,e⟩)
 cases x with
 |float k a=>simp[okV]at hx
 |complex k a b=>simp[okV]at hx
 |func f a b=>exact absurd rfl (hfx _ _ _)
 |int kx a=>
  cases y with
  |func f a b=>exact absurd rfl (hfy _ _ _)
  |int ky b=>simp only[rnV];exact sm_int op (by rcases hop with h|h<;>subst h<;>exact ⟨by decide,by decide⟩) t kx ky a b
  |_=>simp only[rnV]at he hn ⊢;rcases hop with h|h<;>subst h<;>(unfold binOp;first|exact he|exact hn)
 |string a=>
  cases y with
  |func f a b=>exact absurd rfl (hfy _ _ _)
  |string b=>simp only[rnV];rcases hop with h|h<;>subst h<;>(unfold binOp;exact sm_str _ _ _)
  |_=>simp only[rnV]at he hn ⊢;rcases hop with h|h<;>subst h<;>(unfold binOp;first|exact he|exact hn)
 |_=>cases y<;>first|exact absurd rfl (hfy _ _ _)|(simp only[rnV]at he hn ⊢<;>rcases hop with h|h<;>subst h<;>(unfold binOp;first|exact he|exact hn))
theorem sm_guardIn{c:Cx}(t:TypeId)(k:IntKind)(ht:c.P.underlying t=some (.int k))(x x' y y':Value):Sm c (Op.eqGuardIn Op.maxDepth t x y) (Op.eqGuardIn Op.maxDepth t x' y') (fun a b=>a=false∧b=false):=by
 unfold Op.maxDepth Op.eqGuardIn
 refine sm_bind (sm_still (still_underlying t)) ?_
 rintro d d' ⟨rfl,hd⟩
 have:=run_under (hd default)
 rw[ht]at this
 cases this
 exact sm_pure ⟨rfl,rfl⟩
theorem sm_kguard{c:Cx}:∀(n d:Nat) (t:TypeId),KeyTy c.P n t→∀(x x' y y':Value),VR c x x'→VR c y y'→Sm c (Op.eqGuardIn d t x y) (Op.eqGuardIn d t x' y') (fun a b=>a=false∧b=false)
 |0,_,_,h,_,_,_,_,_,_=>h.elim
 |n+1,0,t,_,x,x',y,y',_,_=>by unfold Op.eqGuardIn;exact sm_halt
 |n+1,d+1,t,h,x,x',y,y',hx,hy=>by
  obtain ⟨rfl,hx⟩:=hx
  obtain ⟨rfl,hy⟩:=hy
  have hff:Sm c (pure false:Sem Bool) (pure false) (fun a b=>a=false∧b=false):=sm_pure ⟨rfl,rfl⟩
  unfold Op.eqGuardIn
  refine sm_bind (sm_still (still_underlying t)) ?_
  rintro D D' ⟨rfl,hd⟩
  rcases h with ⟨k,ht,hcc⟩|ht|ht|⟨fs,ht,hsi,hf⟩|⟨l,e,ht,he⟩
  ·obtain rfl:=under_of hd ht
   exact hff
  ·obtain rfl:=under_of hd ht
   exact hff
  ·obtain rfl:=under_of hd ht
   exact hff
  ·obtain rfl:=under_of hd ht
   cases x with
   |agg xs=>cases y with
    |agg ys=>
     simp only[rnV]
     refine sm_bind (R:=fun a b=>a.1=none∧b.1=none) (sm_forA fs ?_ ⟨rfl,rfl⟩) ?_
     ·rintro f hfm b b' -
      by_cases hn : f.name ≠ "_"
      ·rw[if_pos hn,if_pos hn]
       refine sm_bind (sm_part f.type (vr_part hx) f.offset) ?_
       intro u u' hu
       refine sm_bind (sm_part f.type (vr_part hy) f.offset) ?_
       intro v v' hv
       refine sm_bind (sm_kguard n d f.type (hf f hfm) _ _ _ _ hu hv) ?_
       rintro _ _ ⟨rfl,rfl⟩
       exact sm_pure ⟨rfl,rfl⟩
      ·rw[if_neg hn,if_neg hn]
       exact sm_pure ⟨rfl,rfl⟩
     ·rintro ⟨a,u⟩ ⟨b,v⟩ ⟨rfl,rfl⟩
      exact sm_pure ⟨rfl,rfl⟩
    |func f a b=>
     have hb:=rn_func_flat hy
     generalize rnV c.r (Value.func f a b)=u at hb ⊢
     simp only[rnV]
     cases u<;>first|exact hb.elim|exact hff
    |_=>simp only[rnV];exact hff
   |func f a b=>
    have hb:=rn_func_flat hx
    generalize rnV c.r (Value.func f a b)=u at hb ⊢
    cases u<;>first|exact hb.elim|exact hff
   |_=>simp only[rnV];exact hff
  ·obtain rfl:=under_of hd ht
   cases x with
   |agg xs=>cases y with
    |agg ys=>
     simp only[rnV]
     refine sm_bind (sm_still (still_sizeOf e)) ?_
     rintro z _ ⟨rfl,-⟩
     refine sm_bind (R:=fun a b=>a.1=none∧b.1=none) (sm_forR l ?_ ⟨rfl,rfl⟩) ?_
     ·rintro i b b' -
      refine sm_bind (sm_part e (vr_part hx) _) ?_
      intro u u' hu
      refine sm_bind (sm_part e (vr_part hy) _) ?_
      intro v v' hv
      refine sm_bind (sm_kguard n d e he _ _ _ _ hu hv) ?_
      rintro _ _ ⟨rfl,rfl⟩
      exact sm_pure ⟨rfl,rfl⟩
     ·rintro ⟨a,u⟩ ⟨b,v⟩ ⟨rfl,rfl⟩
      exact sm_pure ⟨rfl,rfl⟩
    |func f a b=>
     have hb:=rn_func_flat hy
     generalize rnV c.r (Value.func f a b)=u at hb ⊢
     simp only[rnV]
     cases u<;>first|exact hb.elim|exact hff
    |_=>simp only[rnV];exact hff
   |func f a b=>
    have hb:=rn_func_flat hx
    generalize rnV c.r (Value.func f a b)=u at hb ⊢
    cases u<;>first|exact hb.elim|exact hff
   |_=>simp only[rnV];exact hff
theorem keyTy_desc{P:Program}:∀{n:Nat} {t:TypeId},KeyTy P n t→∃D,P.underlying t=some D∧∀a b c,D≠.func a b c
 |0,_,h=>h.elim
 |n+1,t,h=>by
  rcases h with ⟨k,ht,-⟩|ht|ht|⟨fs,ht,-⟩|⟨l,e,ht,-⟩<;>exact ⟨_,ht,fun a b c e=>by cases e⟩
theorem sm_guard{c:Cx}(op:BinOp)(t:TypeId)(ex ey:Operand)(ho:BinOk c.P op t ey){x x' y y':Value}(hx:VR c x x')(hy:VR c y y')(hc:∀v,ey=.const v→y=v∧y'=v):Sm c (eqGuard op t ex ey x y) (eqGuard op t ex ey x' y') (fun _ _=>True):=by
 obtain ⟨rfl,hx⟩:=hx
 obtain ⟨rfl,hy⟩:=hy
 unfold eqGuard
 refine sm_ite (sm_pure trivial) ?_
 rcases ho with ⟨⟨k,ht⟩,-⟩|⟨-,-,he⟩|⟨⟨n,hk⟩,-⟩|⟨-,-,he⟩
 ·cases x with
  |nilIface=>
   cases y with
   |nilIface=>
    simp only[rnV]
    refine sm_ite (sm_pure trivial) ?_
    refine sm_bind (sm_guardIn t k ht _ _ _ _) ?_
    rintro a b ⟨rfl,rfl⟩
    exact sm_pure trivial
   |func f a b=>
    have hb:=rn_func_flat hy
    generalize rnV c.r (Value.func f a b)=u at hb ⊢
    simp only[rnV]
    cases u<;>first|exact hb.elim|exact sm_pure trivial
   |_=>simp only[rnV];exact sm_pure trivial
  |agg l=>
   cases y with
   |agg m=>
    simp only[rnV]
    refine sm_bind sm_program ?_
    rintro p p' ⟨rfl,rfl⟩
    refine sm_bind sm_program ?_
    rintro p p' ⟨rfl,rfl⟩
    refine sm_ite (sm_pure trivial) ?_
    refine sm_bind (sm_guardIn t k ht _ _ _ _) ?_
    rintro a b ⟨rfl,rfl⟩
    exact sm_pure trivial
   |func f a b=>
    have hb:=rn_func_flat hy
    generalize rnV c.r (Value.func f a b)=u at hb ⊢
    simp only[rnV]
    cases u<;>first|exact hb.elim|exact sm_pure trivial
   |_=>simp only[rnV];exact sm_pure trivial
  |func f a b=>
   have hb:=rn_func_flat hx
   generalize rnV c.r (Value.func f a b)=u at hb ⊢
   cases u<;>first|exact hb.elim|exact sm_pure trivial
  |_=>simp only[rnV];exact sm_pure trivial
 ·obtain ⟨rfl,-⟩:=hc _ he
  subst he
  cases x with
  |nilIface=>
   simp only[rnV,Bool.or_true,if_true]
   exact sm_pure trivial
  |func f a b=>
   have hb:=rn_func_flat hx
   generalize rnV c.r (Value.func f a b)=u at hb ⊢
   cases u<;>first|exact hb.elim|exact sm_pure trivial
  |_=>simp only[rnV];exact sm_pure trivial
 ·cases x with
  |nilIface=>
   cases y with
   |nilIface=>
    simp only[rnV]
    refine sm_ite (sm_pure trivial) ?_
    refine sm_bind (sm_kguard n _ t hk .nilIface .nilIface .nilIface .nilIface ⟨by simp[rnV],hx⟩ ⟨by simp[rnV],hy⟩) ?_
    rintro a b ⟨rfl,rfl⟩
    exact sm_pure trivial
   |func f a b=>
    have hb:=rn_func_flat hy
    generalize rnV c.r (Value.func f a b)=u at hb ⊢
    simp only[rnV]
    cases u<;>first|exact hb.elim|exact sm_pure trivial
   |_=>simp only[rnV];exact sm_pure trivial
  |agg l=>
   cases y with
   |agg m=>
    simp only[rnV]
    refine sm_bind sm_program ?_
    rintro p p' ⟨rfl,rfl⟩
    refine sm_bind sm_program ?_
    rintro p p' ⟨rfl,rfl⟩
    refine sm_ite (sm_pure trivial) ?_
    refine sm_bind (sm_kguard n _ t hk (.agg l) _ (.agg m) _ ⟨by simp[rnV],hx⟩ ⟨by simp[rnV],hy⟩) ?_
    rintro a b ⟨rfl,rfl⟩
    exact sm_pure trivial
   |func f a b=>
    have hb:=rn_func_flat hy
    generalize rnV c.r (Value.func f a b)=u at hb ⊢
    simp only[rnV]
    cases u<;>first|exact hb.elim|exact sm_pure trivial
   |_=>simp only[rnV];exact sm_pure trivial
  |func f a b=>
   have hb:=rn_func_flat hx
   generalize rnV c.r (Value.func f a b)=u at hb ⊢
   cases u<;>first|exact hb.elim|exact sm_pure trivial
  |_=>simp only[rnV];exact sm_pure trivial
 ·obtain ⟨rfl,-⟩:=hc _ he
  cases x with
  |func f a b=>
   have hb:=rn_func_flat hx
   generalize rnV c.r (Value.func f a b)=u at hb ⊢
   cases u<;>first|exact hb.elim|exact sm_pure trivial
  |_=>simp only[rnV];exact sm_pure trivial
theorem sm_bin{c:Cx}(hg:GloOk c)(op:BinOp)(t:TypeId)(ex ey:Operand)(ho:BinOk c.P op t ey){x x' y y':Value}(hx:VR c x x')(hy:VR c y y')(hc:∀v,ey=.const v→y=v∧y'=v):
  Sm c (do eqGuard op t ex ey x y;binOp op t x y) (do eqGuard op t ex ey x' y';binOp op t x' y') (VR c):=by
 refine sm_bind (sm_guard op t ex ey ho hx hy hc) fun _ _ _=>?_
 rcases ho with ⟨⟨k,ht⟩,h1,h2,h3,h4,h5,h6,h7⟩|⟨⟨ms,ht⟩,hop,he⟩|⟨⟨n,hk⟩,hop⟩|⟨⟨e,ht⟩,hop,he⟩
 ·by_cases hq:op=.eql∨op=.neq
  ·exact sm_eq (fun hf=>noOk_eqF ht (fun a b c e=>by cases e) hf _) (sm_eqInt hg t k ht h7 hx hy) op hq hx hy
  ·refine sm_num hg op ?_ t k ht hx hy
   cases op<;>simp_all
 ·obtain ⟨rfl,rfl⟩:=hc _ he
  exact sm_eq (fun hf=>noOk_eqF ht (fun a b c e=>by cases e) hf _) (sm_nil t ms ht hx) op hop hx hy
 ·obtain ⟨D,hD1,hD2⟩:=keyTy_desc hk
  exact sm_eq (fun hf=>noOk_eqF hD1 hD2 hf _) (sm_keyIn hg n Op.maxDepth t hk _ _ _ _ hx hy) op hop hx hy
 ·obtain ⟨rfl,e2⟩:=hc _ he
  rw[e2]at hy ⊢
  exact sm_eq (fun hf=>noOk_eqF ht (fun a b c e=>by cases e) hf _) (sm_nilS t e ht hx) op hop hx hy
end Go.Proofs.Ytniloklglpchfai
