/- Blocks of memory numbered otherwise: a piece's beginning in company, and what others do meanwhile. No program in sight. -/
import Derived.Test.YtniloklglpchfaiPkEqX
import Derived.Conc.Beside
namespace Go.Proofs.Ytniloklglpchfai
open Go
theorem invp_start{d:Cx}[DecidablePred d.own](hid:d.r=id){N:Frame→World→Prop}{R:Value→World→Prop}{b:Frame}{a a0:Act}{it:List Item}{s:Value→Value}{W:World}(hbase:d.base=W)(hown:∀b,W.heap.size≤b→d.own b)(hob:∀b,W.heap.size≤b→¬d.ob b)(hrd:Ready d s W)
  (hG:d.G b.fn) (hbk:b.kind=.normal) (hi:∀i,i∈it→ItOk (d.bnd W.heap.size) i) (hir:it.map (rnI id)=it) (har:a.tmps=a0.tmps.map (rnV id)) (ha:okVs (d.bnd W.heap.size) a0.tmps) (hdf:a.defers=[]) (hdf0:a0.defers=[])
  (h:∀σ,∃n,TgtP d.P N R n (mkG (b.at a0 (it++[trapI])) [trap d.P]) (hereW d.own s W σ)):∃ρ,InvP d N R ρ (b.at a (it++d.kt)) [] W:=by
 refine ⟨fun σ=>Classical.choose (h σ),fun σ=>?_⟩
 have hsz:(hereW d.own s W σ).heap.size=W.heap.size:=by unfold hereW;simp
 refine ⟨b.at a0 (it++[trapI]),[],hereW d.own s W σ,?_,trivial,?_,fun b hb=>hob b (by rw[hsz]at hb;exact hb),fun i q=>by show σ (0+i) q=_;rw[Nat.zero_add],Classical.choose_spec (h σ)⟩
 ·rw[hsz]
  refine ⟨rfl,hG,⟨?_,ha⟩,⟨it,true,rfl,?_,hi,fun _=>rfl⟩,?_,(fun z hz=>?_),rfl,.inl rfl,rfl,hbk,rfl,fun l e=>by cases e⟩
  ·show a.tmps=a0.tmps.map (rnV d.r)
   rw[hid,har]
  ·show it++d.kt=it.map (rnI d.r)++d.kt
   rw[hid,hir]
  ·show a.defers=a0.defers.map _
   rw[hdf,hdf0]
   rfl
  ·have hz:z∈a0.defers:=hz
   rw[hdf0]at hz
   simp at hz
 ·rw[hsz]
  exact rl_here hid hbase hown hrd σ
theorem tgt_of_wp{P:Program}{c:Code}{Q:Exit→Act→World→Prop}{a:Act}{w:World}(b:Frame)(hbk:b.kind=.normal)(h:c.wp P Q a w){N:Frame→World→Prop}{R:Value→World→Prop}
  (hN:∀a' w',Q .normal a' w'→N (b.at a' [trapI]) w') (hR:∀a' w',Q .ret a' w'→a'.defers=[]∧∃fn v,P.funcs[b.fn]?=some fn∧(results fn a'.tmps).run P w'=.ok v w'∧R v w') (hno:∀e a' w',Q e a' w'→e=.normal∨e=.ret):
  ∃n,TgtP P N R n (mkG (b.at a ([.code c]++[trapI])) [trap P]) w:=by
 obtain ⟨e,a',w',hq,harr⟩:=h b [trapI] [trap P]
 rcases hno e a' w' hq with rfl|rfl
 ·obtain ⟨n,hn⟩:Steps P _ _:=harr
  exact ⟨n,.inl ⟨_,w',hn,rfl,rfl,hN a' w' hq⟩⟩
 ·obtain ⟨todo,n,hn⟩:=harr
  obtain ⟨hd,fn,v,hf,hr,hR⟩:=hR a' w' hq
  exact ⟨n,.inr ⟨_,w',v,hn,⟨rfl,hd,hbk,fn,hf,hr⟩,hR⟩⟩
theorem invp_others{d:Cx}{N:Frame→World→Prop}{R:Value→World→Prop}{ρ:(Nat→Question→Nat)→Nat}{y:Frame}{fs':List Frame}{W W2:World}{j:Nat}(h:InvP d N R ρ y fs' W)(hsz:W2.heap.size=W.heap.size+j)(hkeep:∀b,¬d.ob b→d.r b<W.heap.size→W2.heap[d.r b]?=W.heap[d.r b]?)(hch:∀b,d.ch b→d.r b<W.heap.size):
  InvP (d.re (fun b=>if d.r b<W.heap.size then d.r b else d.r b+j) W2) N R ρ y fs' W2:=by
 intro σ
 obtain ⟨x,fs,w,hf,hs,hr,hfu,htp,ht⟩:=h σ
 have hlow:∀b,b<w.heap.size→d.r b<W.heap.size:=fun b hb=>hr.low hb
 have hhigh:∀k,d.r (w.heap.size+k)=W.heap.size+k:=hr.top
 have hr2:∀b,(¬(d.bnd w.heap.size).ob b∨(d.bnd w.heap.size).ch b)→(fun b=>if d.r b<W.heap.size then d.r b else d.r b+j) b=(d.bnd w.heap.size).r b:=fun b hb=>by
  rcases hb with hb|hb
  case inr=>
   show (if d.r b<W.heap.size then d.r b else d.r b+j)=d.r b
   rw[if_pos (hch b hb)]
  have hlt:b<w.heap.size:=by
   rcases Nat.lt_or_ge b w.heap.size with q|q
   ·exact q
   ·exact absurd (.inr q) hb
  show (if d.r b<W.heap.size then d.r b else d.r b+j)=d.r b
  rw[if_pos (hlow b hlt)]
 refine ⟨x,fs,w,hf.re (c:=d.bnd w.heap.size) hr2,hs.re (c:=d.bnd w.heap.size) hr2,⟨fun a b e=>?_,fun k=>?_,hr.new,hr.down,fun b o hb ho=>?_,fun _ _=>rfl,rfl⟩,hfu,htp,ht⟩
 ·have e:(if d.r a<W.heap.size then d.r a else d.r a+j)=(if d.r b<W.heap.size then d.r b else d.r b+j):=e
  refine hr.inj a b (show d.r a=d.r b from ?_)
  split at e<;>split at e<;>omega
 ·show (if d.r (w.heap.size+k)<W.heap.size then d.r (w.heap.size+k) else d.r (w.heap.size+k)+j)=W2.heap.size+k
  rw[hhigh,if_neg (by omega),hsz]
  omega
 ·have hlt:=lt_of_some ho
  have e2:=hr2 b (.inl hb)
  have e2:(if d.r b<W.heap.size then d.r b else d.r b+j)=d.r b:=e2
  have:=(hr.blk b o hb ho).re (V:=W2) hr2
  show ObR ((d.bnd w.heap.size).re _ W2) b o W2.heap[if d.r b<W.heap.size then d.r b else d.r b+j]?
  rw[e2,hkeep b (fun q=>hb (.inl q)) (hlow b hlt)]
  exact this
def LtN {α:Type} (r:α→α→Prop) (m:Nat) (f' f:Nat→α):Prop:=(∀i,i<m→f' i=f i∨r (f' i) (f i))∧∃i,i<m∧r (f' i) (f i)
theorem ltN_wf{α:Type}{r:α→α→Prop}(hr:WellFounded r)(m:Nat):WellFounded (LtN r m):=by
 induction m with
 |zero=>exact ⟨fun f=>⟨f,fun g h=>by obtain ⟨-,i,hi,-⟩:=h;omega⟩⟩
 |succ m ih=>
  have hp:=(Prod.lex ⟨r,hr⟩ ⟨LtN r m,ih⟩).wf
  refine Subrelation.wf (r:=InvImage (Prod.Lex r (LtN r m)) (fun f:Nat→α=>(f m,f))) ?_ (InvImage.wf _ hp)
  rintro f' f ⟨h1,i,hi,h2⟩
  show Prod.Lex r (LtN r m) (f' m,f') (f m,f)
  rcases h1 m (Nat.lt_succ_self m) with e|e
  ·by_cases him:i=m
   ·rw[him]at h2
    exact .left _ _ h2
   ·rw[e]
    exact .right _ ⟨fun j hj=>h1 j (by omega),i,by omega,h2⟩
  ·exact .left _ _ e
abbrev Rk:=Nat×Nat×((Nat→Question→Nat)→Nat)
def LtK:Rk→Rk→Prop:=Prod.Lex (·<·) (Prod.Lex (·<·) Less)
theorem ltK_wf:WellFounded LtK:=(Prod.lex Nat.lt_wfRel (Prod.lex Nat.lt_wfRel ⟨Less,less_wf⟩)).wf
structure Env where
 P:Program
 F:Nat→Prop
 G:Nat→Prop
 C:Code→Prop
structure Env.Fit (E:Env) (d:Cx):Prop where
 P:d.P=E.P
 lim:∀n,d.lim n
 ev:∀r V,Ev1 (d.re r V)
 evn:∀r V N,Ev1 ((d.re r V).bnd N)
 kt:∀r V,KtOk (d.re r V)
 own:∀b,d.own b→¬d.ob b
theorem Env.Fit.re{E:Env}{d:Cx}(h:E.Fit d)(r:Nat→Nat)(V:World):E.Fit (d.re r V):=⟨h.P,h.lim,h.ev,h.evn,h.kt,h.own⟩
structure Ext (kn:Nat→Prop) (W W':World):Prop where
 size:W.heap.size≤W'.heap.size
 keep:∀B,kn B→B<W.heap.size→W'.heap[B]?=W.heap[B]?
 bare:bare W'=bare W
theorem Ext.refl(kn:Nat→Prop)(W:World):Ext kn W W:=⟨Nat.le_refl _,fun _ _ _=>rfl,rfl⟩
theorem Ext.trans{kn:Nat→Prop}{a b c:World}(h:Ext kn a b)(k:Ext kn b c):Ext kn a c:=
 ⟨Nat.le_trans h.size k.size,fun B h1 h2=>(k.keep B h1 (Nat.lt_of_lt_of_le h2 h.size)).trans (h.keep B h1 h2),k.bare.trans h.bare⟩
def Kb (d:Cx) (W:World) (B:Nat):Prop:=KnD d B∧B<W.heap.size
def Ob (d:Cx) (W:World) (B:Nat):Prop:=OwD d B∧B<W.heap.size
abbrev Rho:=(Nat→Question→Nat)→Nat
def EvS (kn ow:Nat→Prop) (top top1:Nat) (e:Event):Prop:=
 (∃a wr,e=⟨.cell a,wr,false⟩∧a.block<top1∧(a.block<top→kn a.block∧(wr=true→ow a.block)))∨(∃B wr s,e=⟨.obj B,wr,s⟩∧B<top1∧(B<top→ow B∧kn B))∨e=⟨.mark .noRoom,false,true⟩
structure Own1 (kn ow kn1 ow1:Nat→Prop) (W W1:World) (es:Array Event):Prop where
 tape:W1.tape=W.tape
 drawn:W.drawn≤W1.drawn
 size:W.heap.size≤W1.heap.size
 bare:bare W1=bare W
 keep:∀B,B<W.heap.size→¬ow B→W1.heap[B]?=W.heap[B]?
 evs:∀e,e∈es→EvS kn ow W.heap.size W1.heap.size e
 kn:∀B,kn1 B→B<W.heap.size→kn B
 ow:∀B,ow1 B→B<W.heap.size→ow B
 knl:∀B,kn1 B→B<W1.heap.size
 owk:∀B,ow1 B→kn1 B
def Path (E:Env) (Goal:Goroutine→World→(Nat→Prop)→(Nat→Prop)→Prop):Nat→Rho→Goroutine→World→(Nat→Prop)→(Nat→Prop)→Prop
 |0,_,g,W,kn,ow=>∀W',Ext kn W W'→Goal g W' kn ow
 |n+1,ρ,g,W,kn,ow=>
  (∀W',Ext kn W W'→Goal g W' kn ow)∨
  (∃(d:Cx) (N0:Nat) (N:Frame→World→Prop) (R:Value→World→Prop) (y:Frame) (fs z:List Frame),g=mkG y (fs++z)∧E.Fit d∧(z=[]→∀v w,¬R v w)∧InvP d N R ρ y fs W∧kn=Kb d W∧ow=Ob d W∧(∀x,d.ch x→d.r x<W.heap.size)∧(N0≤W.heap.size∧∀b,b<N0→d.r b=b)∧
   (∀r V W' y' x w,(∀b,b<N0→r b=b)→y'.todo=d.kt→y'.mode=.run→FrR ((d.re r V).bnd w.heap.size) x y'→Rl ((d.re r V).bnd w.heap.size) w W'→Fut (d.re r V) w→N x w→∃ρ',Path E Goal n ρ' (mkG y' z) W' (Kb (d.re r V) W') (Ob (d.re r V) W'))∧
   (∀b bs,z=b::bs→∀r V W' v w,(∀b,b<N0→r b=b)→okV ((d.re r V).bnd w.heap.size) v→Rl ((d.re r V).bnd w.heap.size) w W'→Fut (d.re r V) w→R v w→∃ρ',Path E Goal n ρ' (mkG (b.finish (rnV r v)) bs) W' (Kb (d.re r V) W') (Ob (d.re r V) W')))∨
  (g.status=.running∧∀W',Ext kn W W'→∀m,∃g1 W1 es kn1 ow1,stepG E.P m g W'=.go g1 W1 es∧g1.status=.running∧Own1 kn ow kn1 ow1 W' W1 es∧∃ρ',Path E Goal n ρ' g1 W1 kn1 ow1)
theorem Path.done{E:Env}{Goal:Goroutine→World→(Nat→Prop)→(Nat→Prop)→Prop}{n:Nat}{ρ:Rho}{g:Goroutine}{W:World}{kn ow:Nat→Prop}(h:∀W',Ext kn W W'→Goal g W' kn ow):Path E Goal n ρ g W kn ow:=by
 cases n with
 |zero=>exact h
 |succ n=>exact .inl h
theorem kn_re{d:Cx}{W W2:World}{j:Nat}(hsz:W2.heap.size=W.heap.size+j)(B:Nat):Kb (d.re (fun b=>if d.r b<W.heap.size then d.r b else d.r b+j) W2) W2 B↔Kb d W B:=by
 constructor
 ·rintro ⟨⟨b,h1,h2⟩,h3⟩
  have h2:(if d.r b<W.heap.size then d.r b else d.r b+j)=B:=h2
  split at h2
  ·next q=>subst h2;exact ⟨⟨b,h1,rfl⟩,q⟩
  ·omega
 ·rintro ⟨⟨b,h1,h2⟩,h3⟩
  subst h2
  exact ⟨⟨b,h1,if_pos h3⟩,by omega⟩
theorem ow_re{d:Cx}{W W2:World}{j:Nat}(hsz:W2.heap.size=W.heap.size+j)(B:Nat):Ob (d.re (fun b=>if d.r b<W.heap.size then d.r b else d.r b+j) W2) W2 B↔Ob d W B:=by
 constructor
 ·rintro ⟨⟨b,h0,h1,h2⟩,h3⟩
  have h2:(if d.r b<W.heap.size then d.r b else d.r b+j)=B:=h2
  split at h2
  ·next q=>subst h2;exact ⟨⟨b,h0,h1,rfl⟩,q⟩
  ·omega
 ·rintro ⟨⟨b,h0,h1,h2⟩,h3⟩
  subst h2
  exact ⟨⟨b,h0,h1,if_pos h3⟩,by omega⟩
theorem Path.ext{E:Env}{Goal:Goroutine→World→(Nat→Prop)→(Nat→Prop)→Prop}{n:Nat}{ρ:Rho}{g:Goroutine}{W W2:World}{kn ow:Nat→Prop}(h:Path E Goal n ρ g W kn ow)(hx:Ext kn W W2):Path E Goal n ρ g W2 kn ow:=by
 cases n with
 |zero=>exact fun W' h'=>h W' (hx.trans h')
 |succ n=>
  rcases h with h|⟨d,N0,N,R,y,fs,z,h1,h2,hz0,h3,h4,h5,h6,h0,h7,h8⟩|⟨h1,h2⟩
  ·exact .inl fun W' h'=>h W' (hx.trans h')
  ·obtain ⟨j,hj⟩:∃j,W2.heap.size=W.heap.size+j:=⟨W2.heap.size - W.heap.size,by have:=hx.size;omega⟩
   refine .inr (.inl ⟨d.re (fun b=>if d.r b<W.heap.size then d.r b else d.r b+j) W2,N0,N,R,y,fs,z,h1,h2.re _ _,hz0,invp_others h3 hj (fun x hx1 hx2=>hx.keep _ (by rw[h4];exact ⟨⟨x,hx1,rfl⟩,hx2⟩) hx2) h6,?_,?_,?_,⟨by have:=h0.1;omega,fun x q=>?_⟩,h7,h8⟩)
   ·rw[h4];funext B;exact propext (kn_re hj B).symm
   ·rw[h5];funext B;exact propext (ow_re hj B).symm
   ·intro x q
    have:=h6 x q
    show (if d.r x<W.heap.size then d.r x else d.r x+j)<W2.heap.size
    rw[if_pos this]
    omega
   ·have e:=h0.2 x q
    show (if d.r x<W.heap.size then d.r x else d.r x+j)=x
    rw[e,if_pos (by have:=h0.1;omega)]
  ·exact .inr (.inr ⟨h1,fun W' h'=>h2 W' (hx.trans h')⟩)
theorem Path.step{E:Env}{Goal:Goroutine→World→(Nat→Prop)→(Nat→Prop)→Prop}:∀{n:Nat} {ρ:Rho} {g:Goroutine} {W:World} {kn ow:Nat→Prop},Path E Goal n ρ g W kn ow→(∀B,kn B→B<W.heap.size)→(∀B,ow B→kn B)→∀m:Bool,
  (∀W',Ext kn W W'→Goal g W' kn ow)∨
  ∃g1 W1 es kn1 ow1 n1 ρ1,g.status=.running∧stepG E.P m g W=.go g1 W1 es∧g1.status=.running∧Own1 kn ow kn1 ow1 W W1 es∧Path E Goal n1 ρ1 g1 W1 kn1 ow1∧Prod.Lex (·<·) Less (n1,ρ1) (n,ρ):=by
 intro n
 induction n with
 |zero=>exact fun h _ _ _=>.inl h
 |succ n ih=>
  intro ρ g W kn ow h hkl hok m
  rcases h with h|⟨d,N0,N,R,y,fs,z,h1,h2,hz0,h3,h4,h5,h6,h0,h7,h8⟩|⟨h1,h2⟩
  ·exact .inl h
  ·rcases invp_step h2.lim (h2.ev d.r d.base) (h2.evn d.r d.base) (h2.kt d.r d.base) h3 m z hz0 with ⟨a1,a2,a3,x,w,a4,a5,a6,a7⟩|⟨G1,W1,es,e1,e2,e3,e4,e5,e6,e7,e8⟩
   ·subst a3
    obtain ⟨ρ',hp⟩:=h7 d.r d.base W y x w h0.2 a1 a2 a4 a5 a6 a7
    have hp:Path E Goal n ρ' g W kn ow:=by rw[h1,h4,h5];exact hp
    rcases ih hp hkl hok m with q|⟨g1,W1,es,kn1,ow1,n1,ρ1,q0,q1,q2,q3,q4,q5⟩
    ·exact .inl q
    ·refine .inr ⟨g1,W1,es,kn1,ow1,n1,ρ1,q0,q1,q2,q3,q4,?_⟩
     cases q5 with
     |left _ _ h=>exact .left _ _ (by omega)
     |right _ h=>exact .left _ _ (by omega)
   ·right
    have hstep:stepG E.P m g W=.go G1 W1 es:=by rw[h1,←h2.P];exact e1
    have hev:∀e,e∈es→EvS kn ow W.heap.size W1.heap.size e:=fun e he=>by
     rcases e2 e he with ⟨a,wr,q1,q2,q3,q4⟩|⟨B,wr,s,q1,q2,q3⟩|q
     ·exact .inl ⟨a,wr,q1,q3,fun q=>⟨by rw[h4];exact ⟨q2,q⟩,fun z=>by rw[h5];exact ⟨q4 z,q⟩⟩⟩
     ·exact .inr (.inl ⟨B,wr,s,q1,q3,fun q=>⟨by rw[h5];exact ⟨q2,q⟩,by rw[h4];exact ⟨q2.kn,q⟩⟩⟩)
     ·exact .inr (.inr q)
    have hkp:∀B,B<W.heap.size→¬ow B→W1.heap[B]?=W.heap[B]?:=fun B hB ho=>e6 B (fun x hx q=>ho (by rw[h5];exact ⟨⟨x,hx,h2.own x hx,q⟩,hB⟩))
    have hown:Own1 kn ow (Kb d W1) (Ob d W1) W W1 es:=⟨e3,e4,e5,e7,hkp,hev,(fun B q hB=>by rw[h4];exact ⟨q.1,hB⟩),(fun B q hB=>by rw[h5];exact ⟨q.1,hB⟩),(fun B q=>q.2),fun B q=>⟨q.1.kn,q.2⟩⟩
    rcases e8 with ⟨y1,fs1,ρ1,q1,q2,q3⟩|⟨v,w1,b,bs,hzz,q1,q2,q3,q4,q5⟩
    ·exact ⟨G1,W1,es,_,_,n+1,ρ1,by rw[h1];rfl,hstep,by rw[q1];rfl,hown,.inr (.inl ⟨d,N0,N,R,y1,fs1,z,q1,h2,hz0,q3,rfl,rfl,fun x q=>Nat.lt_of_lt_of_le (h6 x q) e5,⟨Nat.le_trans h0.1 e5,h0.2⟩,h7,h8⟩),.right _ q2⟩
    ·obtain ⟨ρ',hp⟩:=h8 b bs hzz d.r d.base W1 v w1 h0.2 q1 q3 q4 q5
     exact ⟨G1,W1,es,_,_,n,ρ',by rw[h1];rfl,hstep,by rw[q2];rfl,hown,by rw[q2];exact hp,.left _ _ (by omega)⟩
  ·right
   obtain ⟨g1,W1,es,kn1,ow1,q1,q2,q3,ρ',q4⟩:=h2 W (Ext.refl _ _) m
   exact ⟨g1,W1,es,kn1,ow1,n,ρ',h1,q1,q2,q3,q4,.left _ _ (by omega)⟩
section
variable (P:Program) (fB:Nat→Bool)
def odB:Operand→Bool
 |.tmp _=>true
 |.const v=>vB v
 |.global _=>false
 |.func f=>fB f
def binB (op:BinOp) (t:TypeId) (y:Operand):Bool:=
 match P.underlying t with
 |some (.int _)=>!(op==.shl||op==.shr||op==.and||op==.or||op==.xor||op==.andNot)&&(match P.info? t with
  |some i=>(match i.desc with
   | .named n _ => !(n == "sync.copyChecker")
   |_=>true)
  |none=>true)
 |some (.interface _)=>(op==.eql||op==.neq)&&(match y with
  |.const .nilIface=>true
  |_=>false)
 |some (.slice _)=>(op==.eql||op==.neq)&&(match y with
  |.const (.slice none 0 0)=>true
  |_=>false)
 |_=>false
def zB (t:TypeId):Bool:=match P.info? t with
 |some i=>(match i.zero with
  |some v=>vB v
  |none=>true)
 |none=>true
def zsB (t:TypeId):Bool:=match P.underlying t with
 |some (.slice e)=>zB P e
 |_=>true
def callB (k:Call):Bool:=
 match k.callee with
 |.value _=>true
 |.invoke _ _=>false
 |.builtin .append=>(match k.argTypes[1]? with
  |some t=>(match P.underlying t with
   |some (.int _)=>false
   |_=>true)
  |none=>true)&&(match k.argTypes[0]? with
  |some t=>zsB P t
  |none=>true)
 |.builtin .len=>(match k.argTypes[0]? with
  |some t=>(match P.underlying t with
   |some (.map _ _)=>false
   |some (.chan _ _)=>false
   |_=>true)
  |none=>true)
 |.builtin .max|.builtin .min|.builtin .copy=>true
 |_=>false
def opB (o:Op):Bool:=
 o.operands.all (odB fB)&&match o with
 |.move _|.assign _|.pick _ _ _|.box _ _|.load _ _|.store _ _ _|.unOp _ _ _|.makeInterface _ _|.indexAddr _ _ _|.fieldAddr _ _ _|.extract _ _|.nilCheck _|.makeChan _ _=>true
 |.alloc t|.build t _=>zB P t
 |.buildSlice t _ _|.makeSlice t _ _=>zsB P t
 |.binOp op t _ y _=>binB P op t y
 |.makeFunc (.func f) _ _=>fB f
 |.call k=>callB P k
 |.slice t _ _ _ _=>(match P.underlying t with
  |some (.slice _)=>true
  |_=>false)
 |_=>false
def cdB:Code→Bool
 |.skip|.ret|.exit _=>true
 |.region _ ops _=>ops.all fun o=>opB P fB o.op
 |.seq a b=>cdB a&&cdB b
 |.cond x a b=>odB fB x&&cdB a&&cdB b
 |.block _ b=>cdB b
 |.loop b=>cdB b
 |_=>false
end
section
variable {P:Program} {fB:Nat→Bool} {c:Cx} (hP:c.P=P) (hF:∀f,fB f=true→c.F f) (hC:∀k,cdB P fB k=true→c.C k)
theorem odB_ok(hF:∀f,fB f=true→c.F f){x:Operand}(h:odB fB x=true):OdOk c x:=by
 cases x with
 |tmp _=>trivial
 |const v=>exact vB_ok h
 |global _=>cases h
 |func f=>exact hF f h
theorem binB_ok{op:BinOp}{t:TypeId}{y:Operand}(h:binB P op t y=true):BinOk P op t y:=by
 unfold binB at h
 split at h
 ·next k hk=>
  simp only[Bool.and_eq_true,Bool.not_eq_true',Bool.or_eq_false_iff,beq_eq_false_iff_ne]at h
  obtain ⟨⟨⟨⟨⟨⟨h1,h2⟩,h3⟩,h4⟩,h5⟩,h6⟩,h7⟩:=h
  refine .inl ⟨⟨k,hk⟩,h1,h2,h3,h4,h5,h6,fun i d hi hd=>?_⟩
  rw[hi]at h7
  simp[hd]at h7
 ·next k hk=>
  simp only[Bool.and_eq_true,Bool.or_eq_true,beq_iff_eq]at h
  obtain ⟨h1,h2⟩:=h
  refine .inr (.inl ⟨⟨k,hk⟩,h1,?_⟩)
  split at h2
  ·rfl
  ·cases h2
 ·next k hk=>
  simp only[Bool.and_eq_true,Bool.or_eq_true,beq_iff_eq]at h
  obtain ⟨h1,h2⟩:=h
  refine .inr (.inr (.inr ⟨⟨k,hk⟩,h1,?_⟩))
  split at h2
  ·rfl
  ·cases h2
 ·cases h
theorem zB_ok{t:TypeId}(h:zB P t=true):ZeroAt P t:=fun i v hi hv=>by
 unfold zB at h
 rw[hi]at h
 simpa [hv] using h
theorem zsB_ok{t:TypeId}(h:zsB P t=true):ZeroSl P t:=fun e he=>by
 unfold zsB at h
 rw[he]at h
 exact zB_ok h
theorem callB_ok(hP:c.P=P){k:Call}(h:callB P k=true):CallOk c k:=by
 unfold callB at h
 unfold CallOk
 split at h
 ·next q=>rw[q];trivial
 ·cases h
 ·next q=>
  rw[q]
  rw[Bool.and_eq_true]at h
  refine .inl ⟨rfl,fun t z ht hz=>?_,fun t ht=>?_⟩
  ·have h:=h.1
   rw[hP]at hz
   rw[ht]at h
   simp[hz]at h
  ·have h:=h.2
   rw[ht]at h
   rw[hP]
   exact zsB_ok h
 ·next q=>
  rw[q]
  refine .inr (.inl ⟨rfl,fun t ht=>⟨fun a b hz=>?_,fun a b hz=>?_⟩⟩)
  ·rw[hP]at hz
   rw[ht]at h
   simp[hz]at h
  ·rw[hP]at hz
   rw[ht]at h
   simp[hz]at h
 ·next q=>rw[q];exact .inr (.inr (.inl rfl))
 ·next q=>rw[q];exact .inr (.inr (.inr (.inl rfl)))
 ·next q=>rw[q];exact .inr (.inr (.inr (.inr (.inl rfl))))
 ·cases h
theorem opB_ok(hP:c.P=P)(hF:∀f,fB f=true→c.F f){o:Op}(h:opB P fB o=true):OpOk c o:=by
 unfold opB at h
 rw[Bool.and_eq_true,Array.all_eq_true_iff_forall_mem]at h
 refine ⟨fun x hx=>odB_ok hF (h.1 x hx),?_⟩
 have h2:=h.2
 cases o with
 |binOp op t x y u=>show BinOk c.P op t y;rw[hP];exact binB_ok h2
 |makeFunc fn a b=>
  cases fn with
  |func f=>exact ⟨f,rfl,hF f h2⟩
  |_=>cases h2
 |call k=>exact callB_ok hP h2
 |alloc t=>show ZeroAt c.P t;rw[hP];exact zB_ok h2
 |build t ps=>show ZeroAt c.P t;rw[hP];exact zB_ok h2
 |buildSlice t n ps=>show ZeroSl c.P t;rw[hP];exact zsB_ok h2
 |makeSlice t a b=>show ZeroSl c.P t;rw[hP];exact zsB_ok h2
 |slice t a b d e=>
  show ∃e,c.P.underlying t=some (.slice e)
  rw[hP]
  have h2:(match P.underlying t with|some (.slice _)=>true|_=>false)=true:=h2
  split at h2
  ·next e he=>exact ⟨e,he⟩
  ·cases h2
 |_=>first|trivial|cases h2
theorem cdB_ok(hP:c.P=P)(hF:∀f,fB f=true→c.F f)(hC:∀k,cdB P fB k=true→c.C k){k:Code}(h:cdB P fB k=true):CdOk c k:=by
 cases k with
 |region i ops d=>
  have h:(ops.all fun o=>opB P fB o.op)=true:=h
  rw[Array.all_eq_true_iff_forall_mem]at h
  exact fun o ho=>opB_ok hP hF (h o ho)
 |seq a b=>
  have h:(cdB P fB a&&cdB P fB b)=true:=h
  rw[Bool.and_eq_true]at h
  exact ⟨hC a h.1,hC b h.2⟩
 |cond x a b=>
  have h:(odB fB x&&cdB P fB a&&cdB P fB b)=true:=h
  rw[Bool.and_eq_true,Bool.and_eq_true]at h
  exact ⟨odB_ok hF h.1.1,hC a h.1.2,hC b h.2⟩
 |block i b=>exact hC b h
 |loop b=>exact hC b h
 |skip=>trivial
 |ret=>trivial
 |exit i=>trivial
 |_=>cases h
end
end Go.Proofs.Ytniloklglpchfai
/- What goroutines know of one another's touches: memory in blocks that some may read and one may write. No program in sight. -/
namespace Go.Proofs.Ytniloklglpchfai
open Go Go.Conc
def blkOf:Loc→Option Nat
 |.cell a=>some a.block
 |.obj r=>some r
 |_=>none
theorem blk_mem{l:Loc}(h:l.isMemory=true):∃B,blkOf l=some B:=by
 cases l with
 |cell a=>exact ⟨_,rfl⟩
 |obj r=>exact ⟨_,rfl⟩
 |_=>cases h
theorem blk_low{B top:Nat}{e:MemAct}{a:Touch}(h:e.low top)(ht:e.touch?=some a)(hb:blkOf a.loc=some B):B<top:=by
 cases e with
 |access e=>
  simp only[MemAct.touch?,Option.some.injEq]at ht
  subst ht
  have h:e.loc.low top:=h
  cases hl:e.loc with
  |cell x=>rw[hl]at h;simp only[hl,blkOf,Option.some.injEq]at hb;subst hb;exact h
  |obj r=>rw[hl]at h;simp only[hl,blkOf,Option.some.injEq]at hb;subst hb;exact h
  |output=>simp[hl,blkOf]at hb
  |goroutines=>simp[hl,blkOf]at hb
  |mark m=>simp[hl,blkOf]at hb
 |mark m=>
  cases m with
  |read x=>simp only[MemAct.touch?,Option.some.injEq]at ht;subst ht;simp only[blkOf,Option.some.injEq]at hb;subst hb;exact h
  |write x=>simp only[MemAct.touch?,Option.some.injEq]at ht;subst ht;simp only[blkOf,Option.some.injEq]at hb;subst hb;exact h
  |_=>simp[MemAct.touch?]at ht
 |_=>simp[MemAct.touch?]at ht
def RdOk (t:Trace) (i B:Nat):Prop:=∀k a,touchAt t k=some a→blkOf a.loc=some B→a.write=true→Knows t i k
def WrOk (t:Trace) (i B:Nat):Prop:=∀k a,touchAt t k=some a→blkOf a.loc=some B→Knows t i k
def RdAt (t:Trace) (p B:Nat):Prop:=∀k a,touchAt t k=some a→blkOf a.loc=some B→a.write=true→Before t k p
def WrAt (t:Trace) (p B:Nat):Prop:=∀k a,touchAt t k=some a→blkOf a.loc=some B→Before t k p
theorem RdAt.knows{t:Trace}{p B i:Nat}(h:RdAt t p B)(hp:Knows t i p):RdOk t i B:=fun k a h1 h2 h3=>Knows.of_before (h k a h1 h2 h3) hp
theorem WrAt.knows{t:Trace}{p B i:Nat}(h:WrAt t p B)(hp:Knows t i p):WrOk t i B:=fun k a h1 h2=>Knows.of_before (h k a h1 h2) hp
theorem touch_cases{t u:Trace}{k:Nat}{a:Touch}(h:touchAt (t++u) k=some a):(k<t.size∧touchAt t k=some a)∨∃x,(t++u)[k]?=some x∧x∈u∧x.act.touch?=some a∧t.size≤k:=by
 obtain ⟨x,hx,hxa⟩:=touch_of h
 rcases getElem?_append_cases hx with ⟨hi,hx'⟩|⟨hi,hxu⟩
 ·exact .inl ⟨hi,by rw[touchAt_of hx'];exact hxa⟩
 ·exact .inr ⟨x,hx,hxu,hxa,hi⟩
theorem RdOk.app{t u:Trace}{i B:Nat}(h:RdOk t i B)(hu:∀x∈u,∀a,x.act.touch?=some a→blkOf a.loc=some B→a.write=true→x.g=i):RdOk (t++u) i B:=fun k a h1 h2 h3=>by
 rcases touch_cases h1 with ⟨_,q⟩|⟨x,q1,q2,q3,_⟩
 ·exact (h k a q h2 h3).app u
 ·have:=knows_own q1
  rwa [hu x q2 a q3 h2 h3]at this
theorem WrOk.app{t u:Trace}{i B:Nat}(h:WrOk t i B)(hu:∀x∈u,∀a,x.act.touch?=some a→blkOf a.loc=some B→x.g=i):WrOk (t++u) i B:=fun k a h1 h2=>by
 rcases touch_cases h1 with ⟨_,q⟩|⟨x,q1,q2,q3,_⟩
 ·exact (h k a q h2).app u
 ·have:=knows_own q1
  rwa [hu x q2 a q3 h2]at this
theorem RdAt.app{t u:Trace}{p B:Nat}(h:RdAt t p B)(hu:∀x∈u,∀a,x.act.touch?=some a→blkOf a.loc=some B→a.write=true→False):RdAt (t++u) p B:=fun k a h1 h2 h3=>by
 rcases touch_cases h1 with ⟨_,q⟩|⟨x,_,q2,q3,_⟩
 ·exact (h k a q h2 h3).app u
 ·exact (hu x q2 a q3 h2 h3).elim
theorem WrAt.app{t u:Trace}{p B:Nat}(h:WrAt t p B)(hu:∀x∈u,∀a,x.act.touch?=some a→blkOf a.loc=some B→False):WrAt (t++u) p B:=fun k a h1 h2=>by
 rcases touch_cases h1 with ⟨_,q⟩|⟨x,_,q2,q3,_⟩
 ·exact (h k a q h2).app u
 ·exact (hu x q2 a q3 h2).elim
theorem RdOk.release{t:Trace}{i B:Nat}{y:MemOp}(h:RdOk t i B)(hg:y.g=i)(hy:y.act.touch?=none):RdAt (t++#[y]) t.size B:=fun k a h1 h2 h3=>by
 have hlast:(t++#[y])[t.size]?=some y:=by rw[Array.getElem?_append_right (Nat.le_refl _)];simp
 rcases touch_cases h1 with ⟨_,q⟩|⟨x,_,q2,q3,_⟩
 ·exact .inr ((h k a q h2 h3).hb_new (Nat.le_refl _) hlast hg)
 ·have:x=y:=by simpa using q2
  rw[this,hy]at q3
  cases q3
theorem WrOk.release{t:Trace}{i B:Nat}{y:MemOp}(h:WrOk t i B)(hg:y.g=i)(hy:y.act.touch?=none):WrAt (t++#[y]) t.size B:=fun k a h1 h2=>by
 have hlast:(t++#[y])[t.size]?=some y:=by rw[Array.getElem?_append_right (Nat.le_refl _)];simp
 rcases touch_cases h1 with ⟨_,q⟩|⟨x,_,q2,q3,_⟩
 ·exact .inr ((h k a q h2).hb_new (Nat.le_refl _) hlast hg)
 ·have:x=y:=by simpa using q2
  rw[this,hy]at q3
  cases q3
def AtK (g:Nat) (a:Touch):Prop:=a.kind=.atomic∨(a.kind=.said∧g=0)
def OldOk (t:Trace) (i B:Nat):Prop:=∀k x a,t[k]?=some x→x.act.touch?=some a→blkOf a.loc=some B→AtK x.g a∨Knows t i k
theorem WrOk.old{t:Trace}{i B:Nat}(h:WrOk t i B):OldOk t i B:=fun k x a h1 h2 h3=>.inr (h k a (by rw[touchAt_of h1];exact h2) h3)
theorem OldOk.app{t u:Trace}{i B:Nat}(h:OldOk t i B)(hu:∀x∈u,∀a,x.act.touch?=some a→blkOf a.loc=some B→AtK x.g a):OldOk (t++u) i B:=fun k x a h1 h2 h3=>by
 rcases getElem?_append_cases h1 with ⟨hi,hx'⟩|⟨hi,hxu⟩
 ·exact (h k x a hx' h2 h3).imp id fun q=>q.app u
 ·exact .inl (hu x hxu a h2 h3)
structure Safe (Sh:Nat→Prop) (t:Trace) (kn ow:Nat→Nat→Prop) (top:Nat):Prop where
 clean:∀said,¬Race said t
 rd:∀i B,kn i B→B<top→¬Sh B→RdOk t i B
 wr:∀i B,ow i B→B<top→¬Sh B→WrOk t i B
 low:∀op∈t,op.act.low top
def TcOk (Sh:Nat→Prop) (t:Trace) (kn ow:Nat→Nat→Prop) (top i:Nat) (a:Touch):Prop:=
 ∀B,blkOf a.loc=some B→(Sh B∧AtK i a∧OldOk t i B)∨(¬Sh B∧(B<top→kn i B∧(a.write=true→ow i B)))
theorem Safe.own{Sh:Nat→Prop}{t u:Trace}{kn ow kn' ow':Nat→Nat→Prop}{top top' i:Nat}(h:Safe Sh t kn ow top)(hu:∀op∈u,op.g=i)
  (htc:∀op∈u,∀a,op.act.touch?=some a→TcOk Sh t kn ow top i a)
  (hlow:∀op∈u,op.act.low top') (htop:top≤top') (hk:∀j B,kn' j B→B<top→kn j B) (ho:∀j B,ow' j B→B<top→ow j B)
  (hnew:∀j B,top≤B→B<top'→kn' j B∨ow' j B→j=i) (hd1:∀j B,j≠i→kn i B→B<top→¬ow j B) (hd2:∀j B,j≠i→ow i B→B<top→¬kn j B):Safe Sh (t++u) kn' ow' top':=by
 refine ⟨fun said=>noRace_append (h.clean said) hu fun k a ha op hop b hb hc=>?_,fun j B hj hB hsh=>?_,fun j B hj hB hsh=>?_,fun op hop=>?_⟩
 ·obtain ⟨B,hB⟩:=blk_mem hc.2.1
  obtain ⟨x,hx,hxa⟩:=touch_of ha
  have hxm:=Array.mem_of_getElem? hx
  have hBt:B<top:=blk_low (h.low x hxm) hxa hB
  have hBb:blkOf b.loc=some B:=by rw[←hc.1];exact hB
  rcases htc op hop b hb B hBb with ⟨hs,hk2,hold⟩|⟨hs,hk2⟩
  ·rcases hold k x a hx hxa hB with hk1|hk1
   ·obtain ⟨-,-,-,hcase⟩:=hc
    rcases hk1 with q1|⟨q1,g1⟩
    ·rcases hk2 with q2|⟨q2,g2⟩
     ·rw[q1,q2]at hcase;rcases hcase with z|z|⟨_,z,_⟩<;>cases z
     ·rw[q1,q2]at hcase;rcases hcase with z|z|⟨_,z,_⟩<;>cases z
    ·rcases hk2 with q2|⟨q2,g2⟩
     ·rw[q1,q2]at hcase;rcases hcase with z|z|⟨_,_,z⟩<;>cases z
     ·have:=knows_own hx
      rw[g1]at this
      rw[g2]
      exact this
   ·exact hk1
  ·obtain ⟨h1,h2⟩:=hk2 hBt
   by_cases hw:b.write=true
   ·exact h.wr i B (h2 hw) hBt hs k a ha hB
   ·have haw:a.write=true:=by
     rcases hc.2.2.1 with q|q
     ·exact q
     ·exact absurd q hw
    exact h.rd i B h1 hBt hs k a ha hB haw
 ·have hr:RdOk t j B:=by
   intro k a ha hb hw
   rcases Nat.lt_or_ge B top with q|q
   ·exact h.rd j B (hk j B hj q) q hsh k a ha hb hw
   ·obtain ⟨x,hx,hxa⟩:=touch_of ha
    exact absurd (blk_low (h.low x (Array.mem_of_getElem? hx)) hxa hb) (Nat.not_lt.2 q)
  refine hr.app fun x hx a ha hb hw=>?_
  rw[hu x hx]
  by_cases hji:i=j
  ·exact hji
  ·rcases Nat.lt_or_ge B top with q|q
   ·rcases htc x hx a ha B hb with ⟨q1,_⟩|⟨_,q1⟩
    ·exact absurd q1 hsh
    ·exact absurd (hk j B hj q) (hd2 j B (fun e=>hji e.symm) ((q1 q).2 hw) q)
   ·exact (hnew j B q hB (.inl hj)).symm
 ·have hr:WrOk t j B:=by
   intro k a ha hb
   rcases Nat.lt_or_ge B top with q|q
   ·exact h.wr j B (ho j B hj q) q hsh k a ha hb
   ·obtain ⟨x,hx,hxa⟩:=touch_of ha
    exact absurd (blk_low (h.low x (Array.mem_of_getElem? hx)) hxa hb) (Nat.not_lt.2 q)
  refine hr.app fun x hx a ha hb=>?_
  rw[hu x hx]
  by_cases hji:i=j
  ·exact hji
  ·rcases Nat.lt_or_ge B top with q|q
   ·rcases htc x hx a ha B hb with ⟨q1,_⟩|⟨_,q1⟩
    ·exact absurd q1 hsh
    ·exact absurd (ho j B hj q) (hd1 j B (fun e=>hji e.symm) (q1 q).1 q)
   ·exact (hnew j B q hB (.inr hj)).symm
 ·rcases Array.mem_append.1 hop with q|q
  ·exact MemAct.low_mono htop (h.low op q)
  ·exact hlow op q
theorem Safe.quiet{Sh:Nat→Prop}{t u:Trace}{kn ow:Nat→Nat→Prop}{top:Nat}(h:Safe Sh t kn ow top)(hu:∀op∈u,op.act.touch?=none)(hlow:∀op∈u,op.act.low top):Safe Sh (t++u) kn ow top:=by
 refine ⟨fun said=>?_,fun j B hj hB hs=>(h.rd j B hj hB hs).app (fun x hx a ha=>(by rw[hu x hx]at ha;cases ha)),fun j B hj hB hs=>(h.wr j B hj hB hs).app (fun x hx a ha=>(by rw[hu x hx]at ha;cases ha)),fun op hop=>?_⟩
 ·rintro ⟨i,j,hij,⟨a,b,ha,hb,hc⟩,n1,n2⟩
  have ha':touchAt (t++u) i=some a:=ha
  have hb':touchAt (t++u) j=some b:=hb
  rcases touch_cases hb' with ⟨hj,q⟩|⟨x,_,q2,q3,_⟩
  ·rcases touch_cases ha' with ⟨hi,p⟩|⟨x,_,q2,q3,_⟩
   ·exact h.clean said ⟨i,j,hij,⟨a,b,p,q,hc⟩,fun e=>n1 (hb_app u e),fun e=>n2 (hb_app u e)⟩
   ·rw[hu x q2]at q3;cases q3
  ·rw[hu x q2]at q3;cases q3
 ·rcases Array.mem_append.1 hop with q|q
  ·exact h.low op q
  ·exact hlow op q
theorem Safe.more{Sh:Nat→Prop}{t:Trace}{kn ow kn' ow':Nat→Nat→Prop}{top:Nat}(h:Safe Sh t kn ow top)(hk:∀i B,kn' i B→B<top→¬Sh B→kn i B∨RdOk t i B)(ho:∀i B,ow' i B→B<top→¬Sh B→ow i B∨WrOk t i B):Safe Sh t kn' ow' top:=
 ⟨h.clean,fun i B q hB hs=>(hk i B q hB hs).elim (fun x=>h.rd i B x hB hs) id,fun i B q hB hs=>(ho i B q hB hs).elim (fun x=>h.wr i B x hB hs) id,h.low⟩
theorem spawn_knows{t:Trace}{i c:Nat}{fn fn':FuncId}{pos pos':String}(hi:Deaf t i=0)(hc:Deaf t c=0){k:Nat}(h:Knows t i k):Knows (t++#[{ g:=i,fn,pos,act:=.go c },{ g:=c,fn:=fn',pos:=pos',act:=.start }]) c k:=by
 obtain ⟨u,hu⟩:∃u:Trace,u=#[{ g:=i,fn,pos,act:=.go c },{ g:=c,fn:=fn',pos:=pos',act:=.start }]:=⟨_,rfl⟩
 rw[←hu]
 have h0:(t++u)[t.size]?=some { g:=i,fn,pos,act:=.go c }:=by rw[Array.getElem?_append_right (Nat.le_refl _),hu];simp
 have h1:(t++u)[t.size+1]?=some { g:=c,fn:=fn',pos:=pos',act:=.start }:=by rw[Array.getElem?_append_right (by omega),hu];simp
 have hd0:(t++u).heard t.size:=⟨i,by simp[Trace.g?,h0],by rw[deaf_old (Nat.le_refl _)];exact hi⟩
 have hd1:(t++u).heard (t.size+1):=⟨c,by simp[Trace.g?,h1],by rw[deaf_succ h0,deaf_old (Nat.le_refl _)];show deafStep c (Deaf t c) _=0;rw[hc];rfl⟩
 refine ⟨t.size+1,_,h1,rfl,.inr ?_⟩
 refine (h.hb_new (Nat.le_refl _) h0 rfl).trans (.single (.inr ⟨.spawn (child:=c) ?_ ?_ ?_,hd0,hd1⟩))
 ·rw[act?_of h0]
 ·rw[act?_of h1]
 ·simp[Trace.g?,h1]
end Go.Proofs.Ytniloklglpchfai
