/- Blocks of memory numbered otherwise: values, memory, and what an operation does with them. No program in sight. -/
import Derived.Test.YtniloklglpchfaiPkRgI
namespace Go.Proofs.Ytniloklglpchfai
open Go
structure Cx where
 P:Program
 F:Nat→Prop
 G:Nat→Prop
 r:Nat→Nat
 own:Nat→Prop
 ob:Nat→Prop
 ch:Nat→Prop
 C:Code→Prop
 kt:List Item
 lim:Nat→Prop
 base:World
def bare (w:World):World:={ w with heap:=#[],tape:=fun _ _=>0,drawn:=0 }
def rnA (r:Nat→Nat) (a:Addr):Addr:={ a with block:=r a.block }
def rnF (r:Nat→Nat):Fn→Fn
 |.yield l=>.yield (r l)
 |f=>f
def pz (v : Value) : Value := .func (.method "") #[.nilIface] #[v]
def flat:Value→Prop
 |.pointer a=>a≠none
 |.slice a _ _=>a≠none
 |.map m=>m≠none
 |.chan m=>m≠none
 |.func _ _ _=>True
 |.iface _ _=>True
 |.float _ _=>True
 |.complex _ _ _=>True
 |_=>False
def isPz (fn : Fn) (a b : Array Value) : Prop := fn = .method "" ∧ a = #[.nilIface] ∧ ∃ v, b = #[v] ∧ flat v
def pzOr (fn:Fn) (b:Array Value) (x:Value):Value:=
 match fn with
 |.method _=>(b[0]?).getD (.bool false)
 |_=>x
def dcS:Nat→Option Nat
 |0=>none
 |s+1=>some s
def enS:Option Nat→Nat
 |none=>0
 |some s=>s+1
def rnS (r:Nat→Nat):Option Addr→Nat→Option Addr
 |some ⟨b,o,some s⟩,0=>some ⟨b,o,dcS s⟩
 |a,_=>a.map (rnA r)
def rnV (r:Nat→Nat):Value→Value
 |.pointer a=>.pointer (a.map (rnA r))
 |.slice a n k=>.slice (rnS r a k) n k
 |.map m=>.map (m.map r)
 |.chan m=>.chan (m.map r)
 |.func fn a b=>pzOr fn b (.func (rnF r fn) (a.map (rnV r)) (b.map (rnV r)))
 |.iface t v=>.iface t (rnV r v)
 |.agg c=>.agg (c.map (rnV r))
 |.tuple c=>.tuple (c.map (rnV r))
 |.bool b=>.bool b
 |.int k n=>.int k n
 |.float k n=>.float k n
 |.complex k a b=>.complex k a b
 |.string s=>.string s
 |.nilFunc=>.nilFunc
 |.nilIface=>.nilIface
def okF (F:Nat→Prop):Fn→Prop
 |.func f=>F f
 |.yield _=>True
 |_=>False
def okAd (c:Cx) (a:Option Addr):Prop:=∀x,a=some x→¬c.ob x.block
def okS (c:Cx) (a:Option Addr) (n k:Nat):Prop:=(okAd c a∧∀x,a=some x→x.spot=none)∨(n=0∧k=0∧∃b o s,a=some ⟨b,o,some s⟩)
def okB (c:Cx) (a:Option Nat):Prop:=∀x,a=some x→¬c.ob x
def okC (c:Cx) (a:Option Nat):Prop:=∀x,a=some x→c.ch x∨¬c.ob x
def okV (c:Cx):Value→Prop
 |.pointer a=>okAd c a
 |.slice a n k=>okS c a n k
 |.map m=>okB c m
 |.chan m=>okC c m
 |.float _ _=>False
 |.complex _ _ _=>False
 |.func fn a b=>(okF c.F fn∧(∀l,fn=.yield l→¬c.ob l)∧(∀x,x∈a→okV c x)∧(∀x,x∈b→okV c x))∨isPz fn a b
 |.iface _ v=>okV c v
 |.agg d=>∀x,x∈d→okV c x
 |.tuple d=>∀x,x∈d→okV c x
 |_=>True
theorem rnS_none(r:Nat→Nat)(k:Nat):rnS r none k=none:=rfl
theorem rnS_at(r:Nat→Nat)(b o k:Nat):rnS r (some ⟨b,o,none⟩) k=some ⟨r b,o,none⟩:=rfl
theorem rnS_ok(r:Nat→Nat){a:Option Addr}(k:Nat)(h:∀x,a=some x→x.spot=none):rnS r a k=a.map (rnA r):=by
 unfold rnS
 split
 ·cases h _ rfl
 ·rfl
theorem rnS_id{a:Option Addr}(k:Nat)(h:∀x,a=some x→x.spot=none):rnS id a k=a:=by
 rw[rnS_ok id k h];cases a<;>rfl
theorem okS_nil(c:Cx)(n k:Nat):okS c none n k:=.inl ⟨fun x h=>(by cases h),fun x h=>(by cases h)⟩
theorem okS_some{c:Cx}{a:Addr}(n k:Nat)(h:¬c.ob a.block)(hs:a.spot=none):okS c (some a) n k:=.inl ⟨fun x e=>(by cases e;exact h),fun x e=>(by cases e;exact hs)⟩
theorem okS.say{c:Cx}{a:Option Addr}{n k:Nat}(h:okS c a n k):(okAd c a∧rnS c.r a k=a.map (rnA c.r)∧∀x,a=some x→x.spot=none)∨(n=0∧k=0∧∃x y,a=some x∧rnS c.r a k=some y∧(∃s,x.spot=some s)∧∀d,rnS d a k=some y):=by
 rcases h with ⟨h1,h2⟩|⟨rfl,rfl,b,o,s,rfl⟩
 ·exact .inl ⟨h1,rnS_ok _ _ h2,h2⟩
 ·exact .inr ⟨rfl,rfl,_,_,rfl,rfl,⟨s,rfl⟩,fun _=>rfl⟩
theorem pzOr_ok{F:Nat→Prop}{fn:Fn}(h:okF F fn)(b:Array Value)(x:Value):pzOr fn b x=x:=by
 cases fn<;>first|rfl|exact h.elim
theorem rnV_pz(r:Nat→Nat)(v:Value):rnV r (pz v)=v:=by simp[pz,rnV,pzOr]
theorem isPz_eq{fn:Fn}{a b:Array Value}(h:isPz fn a b):∃v,flat v∧Value.func fn a b=pz v:=by
 obtain ⟨rfl,rfl,v,rfl,hv⟩:=h
 exact ⟨v,hv,rfl⟩
theorem rn_func_flat{c:Cx}{fn:Fn}{a b:Array Value}(h:okV c (.func fn a b)):flat (rnV c.r (.func fn a b)):=by
 rcases (show _∨_ by simpa only[okV] using h) with q|q
 ·simp only[rnV]
  rw[pzOr_ok q.1]
  trivial
 ·obtain ⟨v,hv,hq⟩:=isPz_eq q
  rw[hq,rnV_pz]
  exact hv
theorem rn_agg{c:Cx}{v:Value}(h:okV c v){cs:Array Value}(e:rnV c.r v=.agg cs):∃cs',v=.agg cs':=by
 cases v with
 |agg d=>exact ⟨d,rfl⟩
 |func fn a b=>
  rcases (show _∨_ by simpa only[okV] using h) with q|q
  ·simp only[rnV]at e
   rw[pzOr_ok q.1]at e
   cases e
  ·obtain ⟨v,hv,hq⟩:=isPz_eq q
   rw[hq]at e
   simp only[pz,rnV,pzOr]at e
   have e:v=.agg cs:=by simpa using e
   subst e
   exact hv.elim
 |_=>simp[rnV]at e
theorem rn_tuple{c:Cx}{v:Value}(h:okV c v){cs:Array Value}(e:rnV c.r v=.tuple cs):∃cs',v=.tuple cs':=by
 cases v with
 |tuple d=>exact ⟨d,rfl⟩
 |func fn a b=>
  rcases (show _∨_ by simpa only[okV] using h) with q|q
  ·simp only[rnV]at e
   rw[pzOr_ok q.1]at e
   cases e
  ·obtain ⟨v,hv,hq⟩:=isPz_eq q
   rw[hq]at e
   simp only[pz,rnV,pzOr]at e
   have e:v=.tuple cs:=by simpa using e
   subst e
   exact hv.elim
 |_=>simp[rnV]at e
def okVs (c:Cx) (x:Array Value):Prop:=∀y,y∈x→okV c y
def rnE (r:Nat→Nat) (e:MapEntry):MapEntry:={ e with key:=rnV r e.key,val:=rnV r e.val }
def rnL (r:Nat→Nat) (l:Loop):Loop:={ l with tmps:=l.tmps.map (rnV r),defers:=r l.defers }
def ObR (c:Cx) (b:Nat):Obj→Option Obj→Prop
 |.cells a e z,O=>(¬c.own b→z.1=0∧a.size≤z.2)∧okVs c a∧∃z',O=some (.cells (a.map (rnV c.r)) e z')∧∀i,z'.1≤i→i<z'.2→z.1≤i∧i<z.2
 |.loop l,O=>c.own b∧okVs c l.tmps∧c.C l.assign∧c.C l.body∧(∀d,l.pending=some d→c.C d)∧c.G l.fn∧¬c.ob l.defers∧O=some (.loop (rnL c.r l))
 |.deferred ds,O=>c.own b∧(ds=none∨ds=some [])∧O=some (.deferred ds)
 |.number a x,O=>c.own b∧¬c.ob a.block∧O=some (.number (rnA c.r a) x)
 |.map es k,O=>c.own b∧(∀e,e∈es→okV c e.key∧okV c e.val)∧O=some (.map (es.map (rnE c.r)) k)
 |.chan n bf cl s q tm,O=>c.own b∧okVs c bf∧O=some (.chan n (bf.map (rnV c.r)) cl s q tm)
 |_,_=>False
structure Rl (c:Cx) (w W:World):Prop where
 inj:∀a b,c.r a=c.r b→a=b
 top:∀k,c.r (w.heap.size+k)=W.heap.size+k
 new:∀k,c.own (w.heap.size+k)∧(c.lim (w.heap.size+k+1)→¬c.ob (w.heap.size+k))
 down:∀m n,m≤n→c.lim n→c.lim m
 blk:∀b o,¬c.ob b→w.heap[b]?=some o→ObR c b o W.heap[c.r b]?
 out:∀B,(∀b,c.own b→c.r b≠B)→W.heap[B]?=c.base.heap[B]?
 rest:bare W=bare c.base
structure Gw (w w':World):Prop where
 size:w.heap.size≤w'.heap.size
 cell:∀a,(w.cell? a).isSome→(w'.cell? a).isSome
 tape:w'.tape=w.tape
 drawn:w.drawn≤w'.drawn
theorem Gw.refl(w:World):Gw w w:=⟨Nat.le_refl _,fun _ h=>h,rfl,Nat.le_refl _⟩
theorem Gw.trans{a b c:World}(h:Gw a b)(g:Gw b c):Gw a c:=⟨Nat.le_trans h.1 g.1,fun x q=>g.2 x (h.2 x q),g.3.trans h.3,Nat.le_trans h.4 g.4⟩
def Ag (w W:World) (n:Nat):Prop:=∀i q,i<n→w.tape (w.drawn+i) q=W.tape (W.drawn+i) q
def Dr (w w' W W':World):Prop:=W'.tape=W.tape∧W'.drawn=W.drawn+(w'.drawn - w.drawn)
theorem Dr.trans{a b c A B C:World}(h:Dr a b A B)(k:Dr b c B C)(h1:a.drawn≤b.drawn)(h2:b.drawn≤c.drawn):Dr a c A C:=⟨k.1.trans h.1,by rw[k.2,h.2];omega⟩
def likeW (w W:World):World:={ W with tape:=fun j q=>w.tape (w.drawn+(j - W.drawn)) q }
theorem ag_like(w W:World)(n:Nat):Ag w (likeW w W) n:=fun i q _=>by
 show w.tape (w.drawn+i) q=w.tape (w.drawn+(W.drawn+i - W.drawn)) q
 rw[show W.drawn+i - W.drawn=i by omega]
theorem Rl.like{c:Cx}{w W:World}(h:Rl c w W):Rl c w (likeW w W):=⟨h.inj,h.top,h.new,h.down,h.blk,h.out,h.rest⟩
def EvOk (c:Cx) (w:World) (e:Event):Prop:=
 (∃a wr,e=⟨.cell (rnA c.r a),wr,false⟩∧(w.cell? a).isSome∧¬c.ob a.block∧(wr=true→c.own a.block))∨(∃b wr s,e=⟨.obj (c.r b),wr,s⟩∧c.own b∧¬c.ob b)∨e=⟨.mark .noRoom,false,true⟩
theorem EvOk.grown{c:Cx}{w w':World}{e:Event}(h:EvOk c w e)(g:Gw w w'):EvOk c w' e:=by
 rcases h with ⟨a,wr,h1,h2,h3⟩|h|h
 ·exact .inl ⟨a,wr,h1,g.cell a h2,h3⟩
 ·exact .inr (.inl h)
 ·exact .inr (.inr h)
def tame:Halt→Prop
 |.panic _=>True
 |.stuck _=>True
 |.unsupported (.initOrder _)=>False
 |.unsupported _=>True
 |_=>False
def Hk (c:Cx) (w:World):Prop:=∀b ds,¬c.ob b→w.heap[b]?=some (.deferred ds)→ds=none∨ds=some []
theorem Rl.hk{c:Cx}{w W:World}(h:Rl c w W):Hk c w:=fun b _ hb e=>(h.blk b _ hb e).2.1
def Sm (c:Cx) {α β:Type} (t:Sem α) (t':Sem β) (R:α→β→Prop):Prop:=
 ∀w W,Rl c w W→(∀a w',t.run c.P w=.ok a w'→c.lim w'.heap.size→Gw w w'∧(Ag w W (w'.drawn - w.drawn)→∃b W' nw,(∀es,t'.runT c.P W es=(.ok b W',es++nw))∧R a b∧Rl c w' W'∧(∀e∈nw,EvOk c w' e)∧Dr w w' W W'))∧∀q w',t.run c.P w=.halt q w'→c.lim w'.heap.size→tame q∧Hk c w'
theorem sm_of{c:Cx}{α β:Type}{R:α→β→Prop}{t:Sem α}{t':Sem β}(h:∀w W,Rl c w W→∀a w',t.run c.P w=.ok a w'→∃b W' nw,(∀es,t'.runT c.P W es=(.ok b W',es++nw))∧R a b∧Rl c w' W'∧Gw w w'∧(w'.drawn=w.drawn∧W'.tape=W.tape∧W'.drawn=W.drawn)∧∀e∈nw,EvOk c w' e)(k:∀w W,Rl c w W→∀q w',t.run c.P w=.halt q w'→tame q∧Hk c w'):Sm c t t' R:=fun w W hr=>⟨fun a w' ht _=>by
  obtain ⟨b,W',nw,e1,e2,e3,e4,⟨d1,d2,d3⟩,e5⟩:=h w W hr a w' ht
  exact ⟨e4,fun _=>⟨b,W',nw,e1,e2,e3,e5,d2,by omega⟩⟩,fun q w' ht _=>k w W hr q w' ht⟩
theorem sm_pure{c:Cx}{α β:Type}{R:α→β→Prop}{a:α}{b:β}(h:R a b):Sm c (pure a) (pure b) R:=by
 refine sm_of ?_ (fun w W hr q w' hq=>by cases hq)
 intro w W hr x w' hx
 cases hx
 exact ⟨b,W,#[],fun es=>by simp[Pure.pure],h,hr,Gw.refl _,⟨rfl,rfl,rfl⟩,fun e he=>by simp at he⟩
theorem sm_bind{c:Cx}{α β γ δ:Type}{R:α→β→Prop}{S:γ→δ→Prop}{t:Sem α}{t':Sem β}{f:α→Sem γ}{f':β→Sem δ}
  (h:Sm c t t' R) (k:∀a b,R a b→Sm c (f a) (f' b) S):Sm c (t >>=f) (t' >>=f') S:=by
 intro w W hr
 refine ⟨fun x w' hx hl=>?_,fun q w' hx hl=>?_⟩
 ·have hx':(t.bind f).run c.P w=.ok x w':=hx
  rw[Sem.run_bind']at hx'
  cases ht:t.run c.P w with
  |halt q w1=>rw[ht]at hx';cases hx'
  |ok a w1=>
   rw[ht]at hx'
   have hl1:c.lim w1.heap.size:=hr.down _ _ (mo_ok (t:=f a) hx').size hl
   obtain ⟨g1,r1⟩:=(h w W hr).1 a w1 ht hl1
   obtain ⟨bl,Wl,-,-,hbl,rl,-,-⟩:=((h w _ hr.like).1 a w1 ht hl1).2 (ag_like _ _ _)
   obtain ⟨g2,-⟩:=(k a bl hbl w1 Wl rl).1 x w' hx' hl
   refine ⟨g1.trans g2,fun hag=>?_⟩
   obtain ⟨b,W1,n1,h1,h2,h3,h5,h6⟩:=r1 (fun i q hi=>hag i q (by have:=g1.drawn;have:=g2.drawn;omega))
   obtain ⟨y,W2,n2,q1,q2,q3,q5,q6⟩:=((k a b h2 w1 W1 h3).1 x w' hx' hl).2 (fun i q hi=>by
    have d1:=g1.drawn
    have:=hag (w1.drawn - w.drawn+i) q (by have:=g2.drawn;omega)
    rw[show w.drawn+(w1.drawn - w.drawn+i)=w1.drawn+i by omega]at this
    rw[g1.tape,h6.1,h6.2,this]
    congr 1
    omega)
   refine ⟨y,W2,n1++n2,fun es=>?_,q2,q3,fun e he=>?_,h6.trans q6 g1.drawn g2.drawn⟩
   ·show (t'.bind f').runT c.P W es=_
    rw[Sem.runT_bind',h1 es]
    show (f' b).runT c.P W1 (es++n1)=_
    rw[q1,Array.append_assoc]
   ·rcases Array.mem_append.1 he with q|q
    ·exact (h5 e q).grown g2
    ·exact q5 e q
 ·have hx':(t.bind f).run c.P w=.halt q w':=hx
  rw[Sem.run_bind']at hx'
  cases ht:t.run c.P w with
  |halt p w1=>rw[ht]at hx';cases hx';exact (h w W hr).2 q w' ht hl
  |ok a w1=>
   rw[ht]at hx'
   have hl1:c.lim w1.heap.size:=hr.down _ _ (mo_halt (t:=f a) hx').size hl
   obtain ⟨bl,Wl,-,-,hbl,rl,-,-⟩:=((h w _ hr.like).1 a w1 ht hl1).2 (ag_like _ _ _)
   exact (k a bl hbl w1 Wl rl).2 q w' hx' hl
theorem sm_halt{c:Cx}{α β:Type}{R:α→β→Prop}{q:Halt}{t':Sem β}(hq:tame q:=by trivial):Sm c (.halt q:Sem α) t' R:=by
 refine sm_of (fun w W hr a w' h=>by cases h) (fun w W hr p w' h=>?_)
 cases h
 exact ⟨hq,hr.hk⟩
theorem Sm.mono{c:Cx}{α β:Type}{R S:α→β→Prop}{t:Sem α}{t':Sem β}(h:Sm c t t' R)(k:∀a b,R a b→S a b):Sm c t t' S:=by
 intro w W hr
 refine ⟨fun a w' ht hl=>⟨((h w W hr).1 a w' ht hl).1,fun hag=>?_⟩,(h w W hr).2⟩
 obtain ⟨b,W',n,h1,h2,h3⟩:=((h w W hr).1 a w' ht hl).2 hag
 exact ⟨b,W',n,h1,k a b h2,h3⟩
end Go.Proofs.Ytniloklglpchfai
