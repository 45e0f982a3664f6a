/- Blocks of memory numbered otherwise: a call's beginning in company, and what others do meanwhile. No program in sight. -/
import Derived.Test.YtniloklglpchfaiPkEqR
namespace Go.Proofs.Ytniloklglpchfai
open Go
theorem san_ex(c:Cx):∀v:Value,∃u,okV c u∧rnV id u=v
 |.agg d=>by
  have h:∀i:Fin d.size,∃u,okV c u∧rnV id u=d[i]:=fun i=>san_ex c d[i]
  obtain ⟨f,hf⟩:=Classical.axiomOfChoice h
  refine ⟨.agg (Array.ofFn f),?_,?_⟩
  ·simp only[okV]
   intro x hx
   obtain ⟨i,rfl⟩:=Array.mem_ofFn.1 hx
   exact (hf i).1
  ·simp only[rnV]
   congr 1
   apply Array.ext (by simp)
   intro i h1 h2
   simp only[Array.getElem_map,Array.getElem_ofFn]
   exact (hf ⟨i,h2⟩).2
 |.tuple d=>by
  have h:∀i:Fin d.size,∃u,okV c u∧rnV id u=d[i]:=fun i=>san_ex c d[i]
  obtain ⟨f,hf⟩:=Classical.axiomOfChoice h
  refine ⟨.tuple (Array.ofFn f),?_,?_⟩
  ·simp only[okV]
   intro x hx
   obtain ⟨i,rfl⟩:=Array.mem_ofFn.1 hx
   exact (hf i).1
  ·simp only[rnV]
   congr 1
   apply Array.ext (by simp)
   intro i h1 h2
   simp only[Array.getElem_map,Array.getElem_ofFn]
   exact (hf ⟨i,h2⟩).2
 |.bool b=>⟨.bool b,by simp[okV],by simp[rnV]⟩
 |.int k n=>⟨.int k n,by simp[okV],by simp[rnV]⟩
 |.string x=>⟨.string x,by simp[okV],by simp[rnV]⟩
 |.nilFunc=>⟨.nilFunc,by simp[okV],by simp[rnV]⟩
 |.nilIface=>⟨.nilIface,by simp[okV],by simp[rnV]⟩
 |.pointer none=>⟨.pointer none,by simp[okV,okAd],by simp[rnV]⟩
 |.slice none n k=>⟨.slice none n k,by simp only[okV];exact okS_nil _ _ _,by simp[rnV,rnS_none]⟩
 |.map none=>⟨.map none,by simp[okV,okB],by simp[rnV]⟩
 |.chan none=>⟨.chan none,by simp[okV,okC],by simp[rnV]⟩
 |.pointer (some a)=>⟨pz (.pointer (some a)),by simp only[pz,okV];exact .inr ⟨rfl,rfl,_,rfl,by simp[flat]⟩,rnV_pz _ _⟩
 |.slice (some ⟨b,o,s⟩) 0 0=>⟨.slice (some ⟨b,o,some (enS s)⟩) 0 0,by simp only[okV];exact .inr ⟨rfl,rfl,b,o,_,rfl⟩,by cases s<;>simp[rnV,rnS,enS,dcS]⟩
 |.slice (some a) (n+1) k=>⟨pz (.slice (some a) (n+1) k),by simp only[pz,okV];exact .inr ⟨rfl,rfl,_,rfl,by simp[flat]⟩,rnV_pz _ _⟩
 |.slice (some a) 0 (k+1)=>⟨pz (.slice (some a) 0 (k+1)),by simp only[pz,okV];exact .inr ⟨rfl,rfl,_,rfl,by simp[flat]⟩,rnV_pz _ _⟩
 |.map (some a)=>⟨pz (.map (some a)),by simp only[pz,okV];exact .inr ⟨rfl,rfl,_,rfl,by simp[flat]⟩,rnV_pz _ _⟩
 |.chan (some a)=>⟨pz (.chan (some a)),by simp only[pz,okV];exact .inr ⟨rfl,rfl,_,rfl,by simp[flat]⟩,rnV_pz _ _⟩
 |.func f a b=>⟨pz (.func f a b),by simp only[pz,okV];exact .inr ⟨rfl,rfl,_,rfl,trivial⟩,rnV_pz _ _⟩
 |.iface t v=>⟨pz (.iface t v),by simp only[pz,okV];exact .inr ⟨rfl,rfl,_,rfl,trivial⟩,rnV_pz _ _⟩
 |.float k n=>⟨pz (.float k n),by simp only[pz,okV];exact .inr ⟨rfl,rfl,_,rfl,trivial⟩,rnV_pz _ _⟩
 |.complex k a b=>⟨pz (.complex k a b),by simp only[pz,okV];exact .inr ⟨rfl,rfl,_,rfl,trivial⟩,rnV_pz _ _⟩
def Stands (c:Cx) (s:Value→Value):Prop:=∀v,okV c (s v)∧rnV id (s v)=v∧(okV c v→rnV id v=v→s v=v)∧∀a,v=.slice (some a) 0 0→∃b,s v=.slice (some b) 0 0
theorem wd_ex(c:Cx)(a:Addr):∃b,okV c (.slice (some b) 0 0)∧rnV id (.slice (some b) 0 0)=.slice (some a) 0 0:=by
 obtain ⟨b,o,s⟩:=a
 exact ⟨⟨b,o,some (enS s)⟩,by simp only[okV];exact .inr ⟨rfl,rfl,b,o,_,rfl⟩,by cases s<;>simp[rnV,rnS,enS,dcS]⟩
theorem stands_ex(c:Cx):∃s,Stands c s:=by
 have h:∀v,∃u,okV c u∧rnV id u=v∧(okV c v→rnV id v=v→u=v)∧∀a,v=.slice (some a) 0 0→∃b,u=.slice (some b) 0 0:=fun v=>by
  by_cases q:okV c v∧rnV id v=v
  ·exact ⟨v,q.1,q.2,fun _ _=>rfl,fun a e=>⟨a,e⟩⟩
  ·by_cases hw:∃a,v=.slice (some a) 0 0
   ·obtain ⟨a,rfl⟩:=hw
    obtain ⟨b,h1,h2⟩:=wd_ex c a
    exact ⟨_,h1,h2,fun a b=>absurd ⟨a,b⟩ q,fun _ _=>⟨b,rfl⟩⟩
   ·obtain ⟨u,h1,h2⟩:=san_ex c v
    exact ⟨u,h1,h2,fun a b=>absurd ⟨a,b⟩ q,fun a e=>absurd ⟨a,e⟩ hw⟩
 exact Classical.axiomOfChoice h
def frz (s:Value→Value):Obj→Obj
 |.cells a e z=>.cells (a.map s) e (0,max a.size z.2)
 |o=>o
def hereW (own:Nat→Prop) [DecidablePred own] (s:Value→Value) (W:World) (σ:Nat→Question→Nat):World:=
 { W with heap:=W.heap.mapIdx (fun b o=>if own b then o else frz s o),tape:=σ,drawn:=0 }
theorem here_at(own:Nat→Prop)[DecidablePred own](s:Value→Value)(W:World)(σ:Nat→Question→Nat)(b:Nat):(hereW own s W σ).heap[b]?=(W.heap[b]?).map (fun o=>if own b then o else frz s o):=by
 unfold hereW
 simp
def Ready (d:Cx) [DecidablePred d.own] (s:Value→Value) (W:World):Prop:=∀b o,¬d.ob b→W.heap[b]?=some o→ObR (d.bnd W.heap.size) b (if d.own b then o else frz s o) (some o)
theorem rl_here{d:Cx}[DecidablePred d.own](hid:d.r=id){s:Value→Value}{W:World}(hbase:d.base=W)(hown:∀b,W.heap.size≤b→d.own b)(hrd:Ready d s W)(σ:Nat→Question→Nat):Rl (d.bnd W.heap.size) (hereW d.own s W σ) W:=by
 have hsz:(hereW d.own s W σ).heap.size=W.heap.size:=by unfold hereW;simp
 refine ⟨fun a b e=>?_,fun k=>?_,fun k=>⟨?_,fun hl=>?_⟩,fun m n hmn hn=>Nat.le_trans hmn hn,fun b o hb ho=>?_,fun B _=>by show _=d.base.heap[B]?;rw[hbase],by show _=bare d.base;rw[hbase]⟩
 ·have e:d.r a=d.r b:=e
  rw[hid]at e
  exact e
 ·rw[hsz]
  show d.r _=_
  rw[hid]
  rfl
 ·rw[hsz];exact hown _ (by omega)
 ·have hl:(hereW d.own s W σ).heap.size+k+1≤W.heap.size:=hl
  omega
 ·rw[here_at]at ho
  cases hW:W.heap[b]? with
  |none=>rw[hW]at ho;cases ho
  |some p=>
   rw[hW]at ho
   cases ho
   have:=hrd b p (fun q=>hb (.inl q)) hW
   show ObR (d.bnd W.heap.size) b _ W.heap[d.r b]?
   rw[hid]
   show ObR (d.bnd W.heap.size) b _ W.heap[b]?
   rw[hW]
   exact this
theorem inv_start{d:Cx}[DecidablePred d.own](hid:d.r=id)(hE:∀N,Ev1 (d.bnd N)){R:Value→World→Prop}{f:FuncId}(hf:d.F f){args:Array Value}(har:args.map (rnV id)=args){s:Value→Value}{W:World}(hbase:d.base=W)(hown:∀b,W.heap.size≤b→d.own b)(hob:∀b,W.heap.size≤b→¬d.ob b)(hrd:Ready d s W)(ha:okVs (d.bnd W.heap.size) args)
  (h:∀σ,Calls d.P f args (hereW d.own s W σ) (fun e w'=>∃v,e=.returned v∧R v w')):∃ρ,Inv d R ρ (Frame.enter d.P f args .normal) [] W:=by
 suffices hx:∀σ:Nat→Question→Nat,∃n x fs w,FrR (d.bnd w.heap.size) x (Frame.enter d.P f args .normal)∧FsR (d.bnd w.heap.size) fs []∧Rl (d.bnd w.heap.size) w W∧Fut d w∧(∀i q,w.tape (w.drawn+i) q=σ i q)∧TgtG d.P R n (mkG x (fs++[trap d.P])) w from
  ⟨fun σ=>Classical.choose (hx σ),fun σ=>Classical.choose_spec (hx σ)⟩
 intro σ
 have hsz:(hereW d.own s W σ).heap.size=W.heap.size:=by unfold hereW;simp
 obtain ⟨e,w',fr,⟨v,rfl,hR⟩,hc,-,hl⟩:=h σ [trap d.P]
 obtain ⟨n,hn⟩:Steps d.P _ _:=hc
 refine ⟨n,Frame.enter d.P f args .normal,[],hereW d.own s W σ,?_,trivial,?_,fun b hb=>hob b (by rw[hsz]at hb;exact hb),fun i q=>by show σ (0+i) q=_;rw[Nat.zero_add],fr,w',v,hn,hl,hR⟩
 ·rw[hsz]
  exact FrR.enter (c:=d.bnd W.heap.size) (hE _) hf ⟨by show args=args.map (rnV d.r);rw[hid,har],ha⟩
 ·rw[hsz]
  exact rl_here hid hbase hown hrd σ
def Cx.re (c:Cx) (r2:Nat→Nat) (V:World):Cx:={ c with r:=r2,base:=V }
theorem okV_re{c:Cx}{r2:Nat→Nat}{V:World}:∀v,okV c v→okV (c.re r2 V) v
 |.pointer a,h=>by simp only[okV]at h ⊢;exact h
 |.slice a _ _,h=>by simp only[okV]at h ⊢;exact h
 |.map m,h=>by simp only[okV]at h ⊢;exact h
 |.chan m,h=>by simp only[okV]at h ⊢;exact h
 |.func fn a b,h=>by
  simp only[okV]at h ⊢
  exact h.imp (fun h=>⟨h.1,h.2.1,fun x hx=>okV_re x (h.2.2.1 x hx),fun x hx=>okV_re x (h.2.2.2 x hx)⟩) id
 |.iface t v,h=>by
  simp only[okV]at h ⊢
  exact okV_re v h
 |.agg d,h=>by
  simp only[okV]at h ⊢
  exact fun x hx=>okV_re x (h x hx)
 |.tuple d,h=>by
  simp only[okV]at h ⊢
  exact fun x hx=>okV_re x (h x hx)
 |.float _ _,h=>by simp[okV]at h
 |.complex _ _ _,h=>by simp[okV]at h
 |.bool _,_=>by simp[okV]
 |.int _ _,_=>by simp[okV]
 |.string _,_=>by simp[okV]
 |.nilFunc,_=>by simp[okV]
 |.nilIface,_=>by simp[okV]
theorem rnA_congr{c:Cx}{r2:Nat→Nat}(hr:∀b,(¬c.ob b∨c.ch b)→r2 b=c.r b){a:Option Addr}(h:okAd c a):a.map (rnA r2)=a.map (rnA c.r):=by
 cases a with
 |none=>rfl
 |some a=>simp only[Option.map_some,rnA,hr _ (.inl (h a rfl))]
theorem rnB_congr{c:Cx}{r2:Nat→Nat}(hr:∀b,(¬c.ob b∨c.ch b)→r2 b=c.r b){a:Option Nat}(h:okB c a):a.map r2=a.map c.r:=by
 cases a with
 |none=>rfl
 |some a=>simp only[Option.map_some,hr _ (.inl (h a rfl))]
theorem rnC_congr{c:Cx}{r2:Nat→Nat}(hr:∀b,(¬c.ob b∨c.ch b)→r2 b=c.r b){a:Option Nat}(h:okC c a):a.map r2=a.map c.r:=by
 cases a with
 |none=>rfl
 |some a=>simp only[Option.map_some,hr _ (h a rfl).symm]
theorem rnV_congr{c:Cx}{r2:Nat→Nat}(hr:∀b,(¬c.ob b∨c.ch b)→r2 b=c.r b):∀v,okV c v→rnV r2 v=rnV c.r v
 |.pointer a,h=>by simp only[okV]at h;simp only[rnV];rw[rnA_congr hr h]
 |.slice a n k,h=>by
  simp only[okV]at h
  simp only[rnV]
  rcases h.say with ⟨h1,h2,h3⟩|⟨rfl,rfl,x,y,rfl,h2,-,h3⟩
  ·rw[h2,rnS_ok _ _ h3,rnA_congr hr h1]
  ·rw[h2,h3]
 |.map m,h=>by simp only[okV]at h;simp only[rnV];rw[rnB_congr hr h]
 |.chan m,h=>by simp only[okV]at h;simp only[rnV];rw[rnC_congr hr h]
 |.func fn a b,h=>by
  simp only[okV]at h
  rcases h with h|h
  ·simp only[rnV]
   rw[pzOr_ok h.1,pzOr_ok h.1]
   congr 1
   ·cases fn with
    |yield l=>simp only[rnF,hr _ (.inl (h.2.1 l rfl))]
    |_=>rfl
   ·exact Array.map_congr_left fun x hx=>rnV_congr hr x (h.2.2.1 x hx)
   ·exact Array.map_congr_left fun x hx=>rnV_congr hr x (h.2.2.2 x hx)
  ·obtain ⟨v,-,hq⟩:=isPz_eq h
   rw[hq,rnV_pz,rnV_pz]
 |.iface t v,h=>by simp only[okV]at h;simp only[rnV];rw[rnV_congr hr v h]
 |.agg d,h=>by
  simp only[okV]at h
  simp only[rnV]
  congr 1
  exact Array.map_congr_left fun x hx=>rnV_congr hr x (h x hx)
 |.tuple d,h=>by
  simp only[okV]at h
  simp only[rnV]
  congr 1
  exact Array.map_congr_left fun x hx=>rnV_congr hr x (h x hx)
 |.float _ _,h=>by simp[okV]at h
 |.complex _ _ _,h=>by simp[okV]at h
 |.bool _,_=>by simp[rnV]
 |.int _ _,_=>by simp[rnV]
 |.string _,_=>by simp[rnV]
 |.nilFunc,_=>by simp[rnV]
 |.nilIface,_=>by simp[rnV]
theorem rnVs_congr{c:Cx}{r2:Nat→Nat}(hr:∀b,(¬c.ob b∨c.ch b)→r2 b=c.r b){x:Array Value}(h:okVs c x):x.map (rnV r2)=x.map (rnV c.r):=Array.map_congr_left fun v hv=>rnV_congr hr v (h v hv)
theorem okVs_re{c:Cx}{r2:Nat→Nat}{V:World}{x:Array Value}(h:okVs c x):okVs (c.re r2 V) x:=fun v hv=>okV_re v (h v hv)
theorem OdOk.re{c:Cx}{r2:Nat→Nat}{V:World}(hr:∀b,(¬c.ob b∨c.ch b)→r2 b=c.r b){x:Operand}(h:OdOk c x):OdOk (c.re r2 V) x:=by
 cases x with
 |const v=>exact ⟨(rnV_congr hr v h.2).trans h.1,okV_re v h.2⟩
 |tmp t=>exact h
 |global g=>exact h
 |func f=>exact h
theorem ItOk.re{c:Cx}{r2:Nat→Nat}{V:World}(hr:∀b,(¬c.ob b∨c.ch b)→r2 b=c.r b){i:Item}(h:ItOk c i):ItOk (c.re r2 V) i∧rnI r2 i=rnI c.r i:=by
 cases i with
 |inRegion ops q=>exact ⟨fun x hx=>⟨fun z hz=>((h x hx).1 z hz).re hr,(h x hx).2⟩,rfl⟩
 |inRangeFunc q=>exact ⟨h,by simp only[rnI,hr _ (.inl h)]⟩
 |endRangeFunc q=>exact ⟨h,by simp only[rnI,hr _ (.inl h)]⟩
 |_=>exact ⟨h,rfl⟩
theorem FrR.re{c:Cx}{r2:Nat→Nat}{V:World}(hr:∀b,(¬c.ob b∨c.ch b)→r2 b=c.r b){x y:Frame}(h:FrR c x y):FrR (c.re r2 V) x y:=by
 refine ⟨h.fn,h.f,⟨h.tmps.1.trans (rnVs_congr hr h.tmps.2).symm,okVs_re h.tmps.2⟩,(let ⟨it,s,e1,e2,hi,hs⟩:=h.todo;⟨it,s,e1,e2.trans (congrArg (·++sft c s) (List.map_congr_left fun i hm=>((hi i hm).re (V:=V) hr).2.symm)),fun i hm=>((hi i hm).re hr).1,hs⟩),h.defers.trans ?_,h.dok,h.mode,h.run,h.kind,h.normal,h.round.trans ?_,h.rok⟩
 ·refine List.map_congr_left fun z hz=>?_
  obtain ⟨b,rfl,hb⟩:=h.dok z hz
  simp only[rnD]
  show _=({ target:=Target.collected (r2 b),args:=#[] }:Deferred)
  rw[hr b (.inl hb)]
 ·cases hro:x.roundOf with
  |none=>rfl
  |some l=>
   show some (c.r l)=some (r2 l)
   rw[hr l (.inl (h.rok l hro))]
theorem FsR.re{c:Cx}{r2:Nat→Nat}{V:World}(hr:∀b,(¬c.ob b∨c.ch b)→r2 b=c.r b):∀{x y:List Frame},FsR c x y→FsR (c.re r2 V) x y
 |[],[],_=>trivial
 |_::_,_::_,h=>⟨⟨h.1.1.re hr,h.1.2⟩,FsR.re hr h.2⟩
theorem ObR.re{c:Cx}{r2:Nat→Nat}{V:World}(hr:∀b,(¬c.ob b∨c.ch b)→r2 b=c.r b){b:Nat}{p:Obj}{O:Option Obj}(h:ObR c b p O):ObR (c.re r2 V) b p O:=by
 cases p with
 |cells a e z=>
  obtain ⟨h1,h2,z',h3,h4⟩:=h
  exact ⟨h1,okVs_re h2,z',by rw[h3];exact congrArg (fun t=>some (Obj.cells t e z')) (rnVs_congr hr h2).symm,h4⟩
 |loop q=>
  obtain ⟨h1,h2,h3,h4,h5,h6,h7,h8⟩:=h
  refine ⟨h1,okVs_re h2,h3,h4,h5,h6,h7,?_⟩
  rw[h8]
  unfold rnL
  show _=some (Obj.loop { q with tmps:=q.tmps.map (rnV r2),defers:=r2 q.defers })
  rw[rnVs_congr hr h2,hr _ (.inl h7)]
 |deferred d=>exact h
 |number a x=>
  obtain ⟨h1,h2,h3⟩:=h
  refine ⟨h1,h2,?_⟩
  rw[h3]
  unfold rnA
  show _=some (Obj.number { a with block:=r2 a.block } x)
  rw[hr _ (.inl h2)]
 |map es k=>
  obtain ⟨h1,h2,h3⟩:=h
  refine ⟨h1,fun e he=>⟨okV_re _ (h2 e he).1,okV_re _ (h2 e he).2⟩,?_⟩
  rw[h3]
  refine congrArg (fun t=>some (Obj.map t k)) (Array.map_congr_left fun e he=>?_)
  unfold rnE
  show _=({ e with key:=rnV r2 e.key,val:=rnV r2 e.val }:MapEntry)
  rw[rnV_congr hr _ (h2 e he).2,rnV_congr hr _ (h2 e he).1]
 |chan n bf cl s q tm=>
  obtain ⟨h1,h2,h3⟩:=h
  refine ⟨h1,okVs_re h2,?_⟩
  rw[h3]
  exact congrArg (fun t=>some (Obj.chan n t cl s q tm)) (rnVs_congr hr h2).symm
 |_=>exact h.elim
theorem not_acc{α:Type}{r:α→α→Prop}{x:α}(h:¬Acc r x):∃y,r y x∧¬Acc r y:=by
 apply Classical.byContradiction
 intro hn
 exact h ⟨x,fun y hy=>Classical.byContradiction fun hc=>hn ⟨y,hy,hc⟩⟩
theorem down_seq{α:Type}{r:α→α→Prop}{x:α}(h:¬Acc r x):∃s:Nat→α,s 0=x∧∀n,r (s (n+1)) (s n):=by
 have nx:∀p:{ y:α // ¬Acc r y },∃q:{ y:α // ¬Acc r y },r q.1 p.1:=fun p=>by
  obtain ⟨y,h1,h2⟩:=not_acc p.2
  exact ⟨⟨y,h2⟩,h1⟩
 refine ⟨fun n=>(Nat.rec (motive:=fun _=>{ y:α // ¬Acc r y }) ⟨x,h⟩ (fun _ p=>Classical.choose (nx p)) n).1,rfl,fun n=>?_⟩
 exact Classical.choose_spec (nx _)
def sumK (k:Nat→Nat):Nat→Nat
 |0=>0
 |n+1=>sumK k n+k n
theorem sumK_mono(k:Nat→Nat){m n:Nat}(h:m≤n):sumK k m≤sumK k n:=by
 induction h with
 |refl=>exact Nat.le_refl _
 |step _ ih=>exact Nat.le_trans ih (Nat.le_add_right _ _)
theorem less_acc{α:Type}[Inhabited α](ρ:(Nat→α)→Nat):Acc Less ρ:=by
 apply Classical.byContradiction
 intro hn
 obtain ⟨s,h0,hs⟩:=down_seq hn
 have hk:∃k:Nat→Nat,∃a:Nat→Nat→α,∀n σ,s n (cat (k n) (a n) σ)=s (n+1) σ+1:=
  ⟨fun n=>Classical.choose (hs n),fun n=>Classical.choose (Classical.choose_spec (hs n)),fun n=>Classical.choose_spec (Classical.choose_spec (hs n))⟩
 obtain ⟨k,a,hk⟩:=hk
 -- all the answers,one behind the other
 obtain ⟨τ,hτ⟩:∃τ:Nat→α,∀n i,i<k n→τ (sumK k n+i)=a n i:=by
  have ex:∀j,∃v:α,∀n i,i<k n→j=sumK k n+i→v=a n i:=fun j=>by
   by_cases hj:∃n i,i<k n∧j=sumK k n+i
   ·obtain ⟨n,i,hi,e⟩:=hj
    refine ⟨a n i,fun n' i' hi' e'=>?_⟩
    have hnn:n=n':=by
     rcases Nat.lt_trichotomy n n' with q|q|q
     ·have:=sumK_mono k (show n+1≤n' from q)
      have e2:sumK k (n+1)=sumK k n+k n:=rfl
      omega
     ·exact q
     ·have:=sumK_mono k (show n'+1≤n from q)
      have e2:sumK k (n'+1)=sumK k n'+k n':=rfl
      omega
    subst hnn
    have:i=i':=by omega
    subst this
    rfl
   ·exact ⟨default,fun n i hi e=>absurd ⟨n,i,hi,e⟩ hj⟩
  exact ⟨fun j=>Classical.choose (ex j),fun n i hi=>Classical.choose_spec (ex _) n i hi rfl⟩
 have key:∀n,ρ τ=s n (fun i=>τ (sumK k n+i))+n:=fun n=>by
  induction n with
  |zero=>
   rw[h0]
   show ρ τ=ρ (fun i=>τ (0+i))+0
   simp only[Nat.zero_add,Nat.add_zero]
  |succ n ih=>
   have e:(fun i=>τ (sumK k n+i))=cat (k n) (a n) (fun i=>τ (sumK k (n+1)+i)):=by
    funext i
    unfold cat
    split
    ·next q=>exact hτ n i q
    ·next q=>
     show τ _=τ (sumK k n+k n+(i - k n))
     congr 1
     omega
   rw[ih,e,hk]
   omega
 have:=key (ρ τ+1)
 omega
theorem less_wf{α:Type}[Inhabited α]:WellFounded (Less (α:=α)):=⟨less_acc⟩
theorem Rl.low{d:Cx}{N:Nat}{w W:World}(hr:Rl (d.bnd N) w W){b:Nat}(hb:b<w.heap.size):d.r b<W.heap.size:=by
 rcases Nat.lt_or_ge (d.r b) W.heap.size with q|q
 ·exact q
 ·have h1:d.r (w.heap.size+(d.r b - W.heap.size))=W.heap.size+(d.r b - W.heap.size):=hr.top _
  have h2:=hr.inj b (w.heap.size+(d.r b - W.heap.size)) (by show d.r b=d.r _;rw[h1];omega)
  omega
def TgtP (P:Program) (N:Frame→World→Prop) (R:Value→World→Prop) (n:Nat) (g:Goroutine) (w:World):Prop:=
 (∃fr w',runN P n (machG g w)=.next (lone fr [trap P] w')∧fr.todo=[trapI]∧fr.mode=.run∧N fr w')∨TgtG P R n g w
theorem first_p{d:Cx}(hd:∀n,d.lim n)(h02:Ev1 d){N:Frame→World→Prop}{R:Value→World→Prop}{n:Nat}{x y:Frame}{fs fs':List Frame}{w W:World}(hf:FrR d x y)(hs:FsR d fs fs')(hr:Rl d w W)(ht:TgtP d.P N R n (mkG x (fs++[trap d.P])) w):
  (x.todo=[trapI]∧x.mode=.run∧fs=[]∧N x w)∨
  ∃g1 w1 es,stepG d.P true (mkG x (fs++[trap d.P])) w=.go g1 w1 es∧Gw w w1∧¬Pan d (trap d.P) [] g1 w1∧((∃x1 fs1 n1,g1=mkG x1 (fs1++[trap d.P])∧n=n1+1∧TgtP d.P N R n1 g1 w1)∨∃v,g1=mkG ((trap d.P).finish v) []∧R v w1):=by
 rcases ht with ⟨fr,w',hn,ht1,ht2,hN⟩|ht
 case inr=>
  obtain ⟨g1,w1,es,h1,h2,h3,h4⟩:=first hd h02 hf hs hr ht
  refine .inr ⟨g1,w1,es,h1,h2,h3,h4.imp ?_ id⟩
  rintro ⟨x1,fs1,n1,e1,e2,e3⟩
  exact ⟨x1,fs1,n1,e1,e2,.inr e3⟩
 have hn:runN d.P n (lone x (fs++[trap d.P]) w)=.next (lone fr [trap d.P] w'):=hn
 cases n with
 |zero=>
  obtain ⟨rfl,e2,rfl⟩:=lone_inj (Stepped.next.inj hn)
  have hfs:=app_trap e2
  subst hfs
  exact .inl ⟨ht1,ht2,rfl,hN⟩
 |succ n=>
  right
  unfold runN at hn
  have hg:=goE_step hd h02 (b:=trap d.P) (bs:=[]) hf hs true hr
  cases hst:stepG d.P true (mkG x (fs++[trap d.P])) w with
  |ended o w2 es=>rw[step_end hst]at hn;cases hn
  |go g1 w1 es=>
   rcases step_sim (c:=d) (d:=d) (z:=[trap d.P]) rfl rfl rfl hd h02 h02 hf hs hf hs true true hr.like hr.like hst (hd _) with hp|⟨hz,-⟩|⟨gw,hrest⟩
   ·exfalso
    obtain ⟨x2,fs2,ch,hg1,hk2,hm2,hd2,hfs2⟩:=hp
    rw[hg1]at hst
    rw[step_go hst]at hn
    exact pan_no n (mkG x2 (fs2++[trap d.P])) w1 ⟨x2,fs2,ch,rfl,hk2,hm2,hd2,hfs2⟩ fr w' hn (fun ch e=>by rw[ht2]at e;cases e)
   ·cases hz
   ·obtain ⟨Gl,Wl,esl,-,-,-,hout,-⟩:=hrest (ag_like _ _ _)
    rcases hout with ⟨x1,y1,fs1,fs1',hg1,-,hf1,-⟩|⟨v1,_,_,-,-,hg1,-⟩
    ·have hnp:¬Pan d (trap d.P) [] g1 w1:=by
      rintro ⟨x2,fs2,ch,hg2,-,hm2,-⟩
      rw[hg1]at hg2
      have:x1=x2:=congrArg Goroutine.frame hg2
      subst this
      rcases hf1.run with q|q<;>(rw[q]at hm2;cases hm2)
     refine ⟨g1,w1,es,rfl,gw,hnp,.inl ⟨x1,fs1,n,hg1,rfl,.inl ⟨fr,w',?_,ht1,ht2,hN⟩⟩⟩
     have hst':=hst
     rw[hg1]at hst'
     rw[step_go hst']at hn
     rw[hg1]
     exact hn
    ·exfalso
     have hst':=hst
     rw[hg1]at hst'
     rw[step_go hst']at hn
     cases n with
     |zero=>
      have:=(lone_inj (Stepped.next.inj hn)).2.1
      simp at this
     |succ n=>
      unfold runN at hn
      dsimp only at hn
      obtain ⟨o,w2,es2,e⟩:=(trap_back d.P v1 w1).out
      rw[step_end e]at hn
      cases hn
  |_=>rw[hst]at hg;exact hg.elim
def KtOk (d:Cx):Prop:=∃j l,d.kt=j::l∧∀i,ItOk d i→rnI d.r i≠j
theorem arr_one{d:Cx}(hk:KtOk d){N:Nat}{x y:Frame}(hf:FrR (d.bnd N) x y):x.todo=[trapI]↔y.todo=d.kt:=by
 obtain ⟨j,l,e,hj⟩:=hk
 obtain ⟨it,s,e1,e2,hi,-⟩:=hf.todo
 have e2:y.todo=it.map (rnI d.r)++(if s then d.kt else []):=e2
 constructor
 ·intro h
  rw[h]at e1
  obtain ⟨e3,e4⟩:=td_one (c:=d.bnd N) (d:=d.bnd N) (it:=[]) (s:=true) (it':=it) (s':=s) e1 (fun i hi=>by simp at hi) hi
  subst e3 e4
  simpa using e2
 ·intro h
  rw[h,e]at e2
  cases it with
  |nil=>
   cases s with
   |true=>exact e1
   |false=>cases e2
  |cons i it=>
   exfalso
   have h1:j=rnI d.r i:=(List.cons.inj e2).1
   exact hj i ((hi i (by simp)).wk (c:=d.bnd N) (o:=d.ob) (l:=d.lim) (fun _ q=>.inl q)) h1.symm
def KnD (d:Cx) (B:Nat):Prop:=∃b,¬d.ob b∧d.r b=B
def OwD (d:Cx) (B:Nat):Prop:=∃b,d.own b∧¬d.ob b∧d.r b=B
theorem OwD.kn{d:Cx}{B:Nat}(h:OwD d B):KnD d B:=let ⟨b,_,h2,h3⟩:=h;⟨b,h2,h3⟩
def EvT (d:Cx) (top:Nat) (e:Event):Prop:=
 (∃a wr,e=⟨.cell a,wr,false⟩∧KnD d a.block∧a.block<top∧(wr=true→OwD d a.block))∨(∃B wr s,e=⟨.obj B,wr,s⟩∧OwD d B∧B<top)∨e=⟨.mark .noRoom,false,true⟩
theorem EvOk.t{d:Cx}{w1 W1:World}{e:Event}(h:EvOk (d.bnd w1.heap.size) w1 e)(hr:Rl (d.bnd w1.heap.size) w1 W1):EvT d W1.heap.size e:=by
 have low:∀b,¬(d.bnd w1.heap.size).ob b→¬d.ob b∧d.r b<W1.heap.size:=fun b hb=>⟨fun q=>hb (.inl q),hr.low (by
  rcases Nat.lt_or_ge b w1.heap.size with q|q
  ·exact q
  ·exact absurd (.inr q) hb)⟩
 rcases h with ⟨a,wr,rfl,-,h2,h3⟩|⟨b,wr,s,rfl,h2,h3⟩|h
 ·obtain ⟨q1,q2⟩:=low _ h2
  exact .inl ⟨_,wr,rfl,⟨a.block,q1,rfl⟩,q2,fun e=>⟨a.block,h3 e,q1,rfl⟩⟩
 ·obtain ⟨q1,q2⟩:=low _ h3
  exact .inr (.inl ⟨_,wr,s,rfl,⟨b,h2,q1,rfl⟩,q2⟩)
 ·exact .inr (.inr h)
theorem rl_size{d:Cx}{n n1:Nat}{w w1 W W1:World}(h:Rl (d.bnd n) w W)(h1:Rl (d.bnd n1) w1 W1)(hs:w.heap.size≤w1.heap.size):W.heap.size≤W1.heap.size:=by
 have a:d.r (w1.heap.size+0)=W1.heap.size+0:=h1.top 0
 have b:d.r (w.heap.size+(w1.heap.size - w.heap.size))=W.heap.size+(w1.heap.size - w.heap.size):=h.top _
 rw[show w.heap.size+(w1.heap.size - w.heap.size)=w1.heap.size+0 by omega,a]at b
 omega
theorem both_p{d:Cx}(hd:∀n,d.lim n)(h02:Ev1 d)(hE:∀N,Ev1 (d.bnd N)){N:Frame→World→Prop}{R:Value→World→Prop}{n:Nat}{x y:Frame}{fs fs':List Frame}{w W:World}(hf:FrR (d.bnd w.heap.size) x y)(hs:FsR (d.bnd w.heap.size) fs fs')(hr:Rl (d.bnd w.heap.size) w W)(hfu:Fut d w)(ht:TgtP d.P N R n (mkG x (fs++[trap d.P])) w)(hna:¬(x.todo=[trapI]∧x.mode=.run∧fs=[])):
  ∃w1,Gw w w1∧∀(V:World) (m':Bool) (z:List Frame),(z=[]→∀v w,¬R v w)→Rl (d.bnd w.heap.size) w V→Ag w V (w1.drawn - w.drawn)→∃G1 W1 es,stepG d.P m' (mkG y (fs'++z)) V=.go G1 W1 es∧(∀e,e∈es→EvT d W1.heap.size e)∧Dr w w1 V W1∧Rl (d.bnd w1.heap.size) w1 W1∧Fut d w1∧
   ((∃x1 y1 fs1 fs1' n1,G1=mkG y1 (fs1'++z)∧FrR (d.bnd w1.heap.size) x1 y1∧FsR (d.bnd w1.heap.size) fs1 fs1'∧n=n1+1∧TgtP d.P N R n1 (mkG x1 (fs1++[trap d.P])) w1)∨
    (∃v b' bs',z=b'::bs'∧okV (d.bnd w1.heap.size) v∧G1=mkG (b'.finish (rnV d.r v)) bs'∧R v w1)):=by
 rcases first_p hd h02 hf.wide hs.wide (hr.wide (Nat.le_refl _) hfu hd) ht with ⟨q1,q2,q3,-⟩|⟨g1,w1,es,hst,gw,hnp,halt⟩
 ·exact absurd ⟨q1,q2,q3⟩ hna
 have hfu1:Fut d w1:=fun b hb=>hfu b (Nat.le_trans gw.size hb)
 refine ⟨w1,gw,fun V m' z hz0 hr hag=>?_⟩
 have hr2:Rl d w V:=hr.wide (Nat.le_refl _) hfu hd
 rcases step_sim (c:=d.bnd w1.heap.size) (d:=d) (z:=z) rfl rfl rfl hd (hE _) h02 (hf.up gw.size) (hs.up gw.size) hf.wide hs.wide true m' (hr.up (Nat.le_refl _) gw.size hfu) hr2 hst (Nat.le_refl _) with hp|⟨hz,v0,hg0⟩|⟨-,hrest⟩
 ·exact absurd hp hnp
 ·exfalso
  rcases halt with ⟨x2,fs2,n1,hg2,-⟩|⟨v2,-,hR⟩
  ·rw[hg0]at hg2
   have:=congrArg Goroutine.callers hg2
   simp[mkG]at this
  ·exact hz0 hz _ _ hR
 ·obtain ⟨G1,W1,es1,e1,e2,e3,hout,e5⟩:=hrest hag
  refine ⟨G1,W1,es1,e1,fun e he=>(e3 e he).t e2,e5,e2,hfu1,?_⟩
  rcases hout with ⟨x1,y1,fs1,fs1',hg1,hG1,hf1,hs1⟩|⟨v,b',bs',hzz,hv,hg1,hG1⟩
  ·rcases halt with ⟨x2,fs2,n1,-,hn1,ht2⟩|⟨v,hg2,-⟩
   ·exact .inl ⟨x1,y1,fs1,fs1',n1,hG1,hf1,hs1,hn1,by rw[←hg1];exact ht2⟩
   ·rw[hg1]at hg2
    have:=congrArg Goroutine.callers hg2
    simp[mkG]at this
  ·rcases halt with ⟨x2,fs2,n1,hg2,-⟩|⟨v2,hg2,hR⟩
   ·rw[hg1]at hg2
    have:=congrArg Goroutine.callers hg2
    simp[mkG]at this
   ·rw[hg1]at hg2
    have ev:=trap_inj (congrArg Goroutine.frame hg2)
    exact .inr ⟨v,b',bs',hzz,hv,hG1,by rw[ev];exact hR⟩
def InvP (d:Cx) (N:Frame→World→Prop) (R:Value→World→Prop) (ρ:(Nat→Question→Nat)→Nat) (y:Frame) (fs':List Frame) (W:World):Prop:=
 ∀σ:Nat→Question→Nat,∃x fs w,FrR (d.bnd w.heap.size) x y∧FsR (d.bnd w.heap.size) fs fs'∧Rl (d.bnd w.heap.size) w W∧Fut d w∧(∀i q,w.tape (w.drawn+i) q=σ i q)∧TgtP d.P N R (ρ σ) (mkG x (fs++[trap d.P])) w
theorem FsR.nil_iff{c:Cx}:∀{x y:List Frame},FsR c x y→(x=[]↔y=[])
 |[],[],_=>⟨fun _=>rfl,fun _=>rfl⟩
 |[],_::_,h=>h.elim
 |_::_,[],h=>h.elim
 |_::_,_::_,_=>⟨(fun h=>by cases h),fun h=>by cases h⟩
theorem invp_step{d:Cx}(hd:∀n,d.lim n)(h02:Ev1 d)(hE:∀N,Ev1 (d.bnd N))(hk:KtOk d){N:Frame→World→Prop}{R:Value→World→Prop}{ρ:(Nat→Question→Nat)→Nat}{y:Frame}{fs':List Frame}{W:World}(h:InvP d N R ρ y fs' W)(m':Bool)(z:List Frame)(hz0:z=[]→∀v w,¬R v w):
  (y.todo=d.kt∧y.mode=.run∧fs'=[]∧∃x w,FrR (d.bnd w.heap.size) x y∧Rl (d.bnd w.heap.size) w W∧Fut d w∧N x w)∨
  ∃G1 W1 es,stepG d.P m' (mkG y (fs'++z)) W=.go G1 W1 es∧(∀e,e∈es→EvT d W1.heap.size e)∧W1.tape=W.tape∧W.drawn≤W1.drawn∧W.heap.size≤W1.heap.size∧(∀B,(∀b,d.own b→d.r b≠B)→W1.heap[B]?=W.heap[B]?)∧bare W1=bare W∧
   ((∃y1 fs1 ρ1,G1=mkG y1 (fs1++z)∧Less ρ1 ρ∧InvP d N R ρ1 y1 fs1 W1)∨(∃v w1 b' bs',z=b'::bs'∧okV (d.bnd w1.heap.size) v∧G1=mkG (b'.finish (rnV d.r v)) bs'∧Rl (d.bnd w1.heap.size) w1 W1∧Fut d w1∧R v w1)):=by
 obtain ⟨x,fs,w,hf,hs,hr,hfu,htp,ht⟩:=h (fun i q=>W.tape (W.drawn+i) q)
 by_cases hna:x.todo=[trapI]∧x.mode=.run∧fs=[]
 ·left
  rcases first_p hd h02 hf.wide hs.wide (hr.wide (Nat.le_refl _) hfu hd) ht with ⟨q1,q2,q3,q4⟩|⟨g1,w1,es,hst,-,-,-⟩
  ·exact ⟨(arr_one hk hf).1 q1,hf.mode.trans q2,hs.nil_iff.1 q3,x,w,hf,hr,hfu,q4⟩
  ·exfalso
   unfold stepG mkG at hst
   simp only[hna.2.1]at hst
   unfold stepG.exec at hst
   simp only[hna.1,trapI]at hst
   rw [show Extern.next "fmt's door of nobody" = none by rfl] at hst
   cases hst
 right
 have hnay:¬(y.todo=d.kt∧y.mode=.run∧fs'=[]):=fun q=>hna ⟨(arr_one hk hf).2 q.1,hf.mode.symm.trans q.2.1,hs.nil_iff.2 q.2.2⟩
 obtain ⟨w1,gw,hall⟩:=both_p hd h02 hE hf hs hr hfu ht hna
 obtain ⟨G1,W1,es,e1,e2,e3,e4,e5,e6⟩:=hall W m' z hz0 hr (fun i q _=>htp i q)
 refine ⟨G1,W1,es,e1,e2,e3.1,by rw[e3.2];omega,rl_size hr e4 gw.size,fun B hB=>(e4.out B hB).trans (hr.out B hB).symm,e4.rest.trans hr.rest.symm,?_⟩
 rcases e6 with ⟨x1,y1,fs1,fs1',n1,hG1,-,-,-⟩|⟨v,b',bs',rfl,hv,hG1,hR⟩
 ·left
  -- as many answers as this step has drawn,and then those that are asked for
  obtain ⟨k,hk'⟩:=gM (w1.drawn - w.drawn)
  suffices key:∀σ,∃n2,ρ (cat k (fun i q=>W.tape (W.drawn+i) q) σ)=n2+1∧∃x fs w,FrR (d.bnd w.heap.size) x y1∧FsR (d.bnd w.heap.size) fs fs1'∧Rl (d.bnd w.heap.size) w W1∧Fut d w∧(∀i q,w.tape (w.drawn+i) q=σ i q)∧TgtP d.P N R n2 (mkG x (fs++[trap d.P])) w by
   refine ⟨y1,fs1',fun σ=>ρ (cat k (fun i q=>W.tape (W.drawn+i) q) σ) - 1,hG1,⟨k,(fun i q=>W.tape (W.drawn+i) q),fun σ=>?_⟩,fun σ=>?_⟩
   ·obtain ⟨n2,e,-⟩:=key σ
    dsimp only
    omega
   ·obtain ⟨n2,e,hx⟩:=key σ
    dsimp only
    rw[e]
    exact hx
  intro σ
  obtain ⟨x',fsx,w',hf',hs',hr',hfu',htp',ht'⟩:=h (cat k (fun i q=>W.tape (W.drawn+i) q) σ)
  have htp':∀i q,w'.tape (w'.drawn+i) q=if i<k then W.tape (W.drawn+i) q else σ (i - k) q:=fun i q=>by rw[htp' i q];unfold cat;split<;>rfl
  have hna':¬(x'.todo=[trapI]∧x'.mode=.run∧fsx=[]):=fun q=>hnay ⟨(arr_one hk hf').1 q.1,hf'.mode.trans q.2.1,hs'.nil_iff.1 q.2.2⟩
  obtain ⟨w1',gw',hall'⟩:=both_p hd h02 hE hf' hs' hr' hfu' ht' hna'
  -- the same number of answers is drawn:held against a tape that fits both
  have hk2:w1'.drawn - w'.drawn=k:=by
   obtain ⟨V,hV⟩:∃V:World,V={ W with tape:=fun j q=>if j<W.drawn+k then W.tape j q else σ (j - W.drawn - k) q }:=⟨_,rfl⟩
   have hrV:Rl (d.bnd w.heap.size) w V:=by subst hV;exact ⟨hr.inj,hr.top,hr.new,hr.down,hr.blk,hr.out,hr.rest⟩
   have hrV':Rl (d.bnd w'.heap.size) w' V:=by subst hV;exact ⟨hr'.inj,hr'.top,hr'.new,hr'.down,hr'.blk,hr'.out,hr'.rest⟩
   obtain ⟨Ga,Wa,ea,a1,-,a3,-⟩:=hall V m' z hz0 hrV (fun i q hi=>by
    rw[htp i q,hV]
    show _=if W.drawn+i<W.drawn+k then W.tape (W.drawn+i) q else _
    rw[if_pos (by omega)])
   obtain ⟨Gb,Wb,eb,b1,-,b3,-⟩:=hall' V m' z hz0 hrV' (fun i q hi=>by
    rw[htp' i q,hV]
    show _=if W.drawn+i<W.drawn+k then W.tape (W.drawn+i) q else σ (W.drawn+i - W.drawn - k) q
    by_cases hik:i<k
    ·rw[if_pos hik,if_pos (by omega)]
    ·rw[if_neg hik,if_neg (by omega),show W.drawn+i - W.drawn - k=i - k by omega])
   rw[a1]at b1
   cases b1
   have:=a3.2
   have:=b3.2
   omega
  obtain ⟨G2,W2,e2',c1,-,c3,c4,c5,c6⟩:=hall' W m' z hz0 hr' (fun i q hi=>by
   rw[htp' i q]
   rw[if_pos (by omega)])
  rw[e1]at c1
  cases c1
  rcases c6 with ⟨x1',y1',fsx',fs1'',n2,hG2,d1,d2,dn,d3⟩|⟨v,b',bs',rfl,-,hG2,-⟩
  ·rw[hG1]at hG2
   have ey:y1=y1':=congrArg Goroutine.frame hG2
   have ec:fs1'++z=fs1''++z:=congrArg Goroutine.callers hG2
   have ef:=List.append_cancel_right ec
   subst ey ef
   refine ⟨n2,dn,x1',fsx',w1',d1,d2,c4,c5,fun i q=>?_,d3⟩
   have hdr:=gw'.drawn
   rw[gw'.tape,show w1'.drawn+i=w'.drawn+(k+i) by omega,htp',if_neg (by omega),show k+i - k=i by omega]
  ·rw[hG1]at hG2
   have:=congrArg (fun g=>g.callers.length) hG2
   simp only[mkG,List.length_append,List.length_cons]at this
   omega
 ·exact .inr ⟨v,w1,b',bs',rfl,hv,hG1,e4,e5,hR⟩
end Go.Proofs.Ytniloklglpchfai
