/- Blocks of memory numbered otherwise: frames. No program in sight. -/
import Derived.Test.YtniloklglpchfaiPkEqN2
namespace Go.Proofs.Ytniloklglpchfai
open Go
def rnI (r:Nat→Nat):Item→Item
 |.inRangeFunc l=>.inRangeFunc (r l)
 |.endRangeFunc l=>.endRangeFunc (r l)
 |i=>i
def ItOk (c:Cx):Item→Prop
 |.code k=>c.C k
 |.inBlock _=>True
 |.inLoop b=>c.C b
 |.inRegion ops _=>∀o,o∈ops→OpOk c o.op
 |.inRangeFunc l=>¬c.ob l
 |.endRangeFunc l=>¬c.ob l
 |.beginRound=>True
 |.inScope b=>∀l q,findLabel b l=some q→c.C q
 |_=>False
def rnD (r:Nat→Nat) (d:Deferred):Deferred:=
 match d.target with
 |.collected b=>{ d with target:=.collected (r b) }
 |_=>d
def DfOk (c:Cx) (d:Deferred):Prop:=∃b,d={ target:=.collected b,args:=#[] }∧¬c.ob b
def CdOk (c:Cx):Code→Prop
 |.skip=>True
 |.ret=>True
 |.exit _=>True
 |.label _=>True
 |.region _ ops _=>∀o,o∈ops→OpOk c o.op
 |.seq a b=>c.C a∧c.C b
 |.cond x a b=>OdOk c x∧c.C a∧c.C b
 |.block _ b=>c.C b
 |.loop b=>c.C b
 |.goto _=>True
 |.scope b=>c.C b∧∀l q,findLabel b l=some q→c.C q
 |.rangeFunc f _ a b=>OdOk c f∧c.C a∧c.C b
 |_=>False
structure Ev1 (c:Cx):Prop extends Ev0 c where
 code:∀k,c.C k→CdOk c k
def trapI : Item := .extern "fmt's door of nobody" #[]
def sfh (s:Bool):List Item:=if s then [trapI] else []
def sft (c:Cx) (s:Bool):List Item:=if s then c.kt else []
def TdR (c:Cx) (ro:Option Nat) (x y:List Item):Prop:=∃it s,x=it++sfh s∧y=it.map (rnI c.r)++sft c s∧(∀i,i∈it→ItOk c i)∧(s=true→ro=none)
structure FrR (c:Cx) (x y:Frame):Prop where
 fn:y.fn=x.fn
 f:c.G x.fn
 tmps:VsR c x.tmps y.tmps
 todo:TdR c x.roundOf x.todo y.todo
 defers:y.defers=x.defers.map (rnD c.r)
 dok:∀d,d∈x.defers→DfOk c d
 mode:y.mode=x.mode
 run:x.mode=.run∨x.mode=.returning
 kind:y.kind=x.kind
 normal:x.kind=.normal
 round:y.roundOf=x.roundOf.map c.r
 rok:∀l,x.roundOf=some l→¬c.ob l
def FsR (c:Cx):List Frame→List Frame→Prop
 |[],[]=>True
 |a::x,b::y=>(FrR c a b∧a.todo≠[trapI])∧FsR c x y
 |_,_=>False
def mkG (fr:Frame) (cs:List Frame):Goroutine:={ frame:=fr,callers:=cs,status:=.running,dying:=none }
theorem vr_undef(c:Cx):VR c undef undef:=⟨by simp[undef,rnV],by simp[undef,okV]⟩
theorem VsR.getD{c:Cx}{x y:Array Value}(h:VsR c x y)(i:Nat):VR c (x.getD i undef) (y.getD i undef):=by
 rw[Array.getD_eq_getD_getElem?,Array.getD_eq_getD_getElem?]
 rcases h.get i with ⟨h1,h2⟩|⟨v,v',h1,h2,hv⟩
 ·rw[h1,h2];exact vr_undef c
 ·rw[h1,h2];exact hv
theorem FrR.eval{c:Cx}{x y:Frame}(h:FrR c x y)(o:Operand)(ho:OdOk c o):VR c (x.eval o) (y.eval o):=by
 cases o with
 |tmp t=>exact h.tmps.getD t
 |const v=>exact ⟨ho.1.symm,ho.2⟩
 |global g=>exact ho.elim
 |func f=>exact ⟨by simp[Frame.eval,rnV,rnF,pzOr],by simp only[Frame.eval,okV];exact .inl ⟨ho,(fun l e=>by cases e),(fun x hx=>by simp at hx),(fun x hx=>by simp at hx)⟩⟩
theorem VsR.set{c:Cx}{x y:Array Value}(h:VsR c x y)(i:Nat){v v':Value}(hv:VR c v v'):VsR c (x.setIfInBounds i v) (y.setIfInBounds i v'):=by
 obtain ⟨rfl,h⟩:=h
 obtain ⟨rfl,hv⟩:=hv
 exact ⟨(map_set _ _ _ _).symm,ok_set _ h hv⟩
theorem FrR.goes{c:Cx}{x y:Frame}(h:FrR c x y){k:List Item}{s:Bool}(hs:s=true→x.roundOf=none)(hk:∀i,i∈k→ItOk c i):FrR c { x with todo:=k++sfh s } { y with todo:=k.map (rnI c.r)++sft c s }:=
 ⟨h.fn,h.f,h.tmps,⟨k,s,rfl,rfl,hk,hs⟩,h.defers,h.dok,h.mode,h.run,h.kind,h.normal,h.round,h.rok⟩
theorem FrR.finish{c:Cx}{x y:Frame}(h:FrR c x y)(hne:x.todo≠[trapI]){v v':Value}(hv:VR c v v'):FrR c (x.finish v) (y.finish v'):=by
 obtain ⟨it,s,e1,e2,hi,hs⟩:=h.todo
 unfold Frame.finish
 rw[e1,e2]
 cases it with
 |nil=>
  cases s with
  |false=>exact h
  |true=>exact absurd e1 hne
 |cons i k=>
  have hk:∀j,j∈k→ItOk c j:=fun j hj=>hi j (by simp[hj])
  cases i with
  |inRegion ops l=>
   cases l with
   |nil=>exact h
   |cons n l=>
    simp only[List.map_cons,rnI,List.cons_append]
    have h0:=hi (.inRegion ops (n::l)) (by simp)
    refine ⟨h.fn,h.f,?_,⟨.inRegion ops l::k,s,rfl,rfl,?_,hs⟩,h.defers,h.dok,h.mode,h.run,h.kind,h.normal,h.round,h.rok⟩
    ·cases (ops[n]?).bind (·.dst) with
     |none=>exact h.tmps
     |some d=>exact h.tmps.set d hv
    ·intro j hj
     rcases List.mem_cons.1 hj with rfl|hj
     ·exact h0
     ·exact hk j hj
  |inRangeFunc l=>
   simp only[List.map_cons,rnI,List.cons_append]
   refine h.goes (k:=.endRangeFunc l::k) hs fun j hj=>?_
   rcases List.mem_cons.1 hj with rfl|hj
   ·exact hi (.inRangeFunc l) (by simp)
   ·exact hk j hj
  |beginRound=>exact h.goes hs hk
  |code k=>exact h
  |inBlock n=>exact h
  |inLoop b=>exact h
  |inScope b=>exact h
  |endRangeFunc l=>exact h
  |call d b s v=>exact (hi (.call d b s v) (by simp)).elim
  |extern s v=>exact (hi (.extern s v) (by simp)).elim
theorem VsR.rep{c:Cx}(n:Nat):VsR c (Array.replicate n undef) (Array.replicate n undef):=
 ⟨by simp[undef,rnV],fun x hx=>by rw[(Array.mem_replicate.1 hx).2];exact (vr_undef c).2⟩
theorem FrR.enter{c:Cx}(h0:Ev1 c){f:FuncId}(hf:c.F f){x y:Array Value}(h:VsR c x y):FrR c (Frame.enter c.P f x .normal) (Frame.enter c.P f y .normal):=by
 obtain ⟨fn,b,e1,e2,-,hb⟩:=h0.fun_ f hf
 have hsz:y.size=x.size:=by rw[h.1];simp
 unfold Frame.enter
 simp only[e1,Option.map_some,Option.getD_some,Option.bind_some,e2]
 refine ⟨rfl,h0.fg f hf,?_,⟨[.code b],false,rfl,rfl,fun i hi=>?_,fun e=>by cases e⟩,rfl,(fun d hd=>by simp at hd),rfl,.inl rfl,rfl,rfl,rfl,fun l e=>by cases e⟩
 ·rw[hsz];exact h.app (VsR.rep _)
 ·simp at hi;rw[hi];exact hb
theorem FrR.rnd{c:Cx}{l:Nat}(hl:¬c.ob l){f:FuncId}(hf:c.G f){x y:Array Value}(h:VsR c x y){a b:Code}(ha:c.C a)(hb:c.C b):FrR c (Frame.round l f x a b .normal) (Frame.round (c.r l) f y a b .normal):=by
 refine ⟨rfl,hf,h,⟨[.code a,.beginRound,.code b],false,rfl,rfl,fun i hi=>?_,fun e=>by cases e⟩,rfl,(fun d hd=>by simp[Frame.round]at hd),rfl,.inl rfl,rfl,rfl,rfl,fun l' e=>by cases e;exact hl⟩
 simp only[List.mem_cons,List.not_mem_nil,or_false]at hi
 rcases hi with rfl|rfl|rfl
 ·exact ha
 ·trivial
 ·exact hb
theorem td_one{c d:Cx}:∀{it it':List Item} {s s':Bool},it++sfh s=it'++sfh s'→(∀i,i∈it→ItOk c i)→(∀i,i∈it'→ItOk d i)→it=it'∧s=s'
 |[],[],s,s',h,_,_=>by cases s<;>cases s'<;>first|exact ⟨rfl,rfl⟩|cases h
 |[],i::it',s,s',h,_,h2=>by
  cases s with
  |false=>cases h
  |true=>
   have e:i=trapI:=(List.cons.inj h).1.symm
   have:=h2 i (by simp)
   rw[e]at this
   exact this.elim
 |i::it,[],s,s',h,h1,_=>by
  cases s' with
  |false=>cases h
  |true=>
   have e:i=trapI:=(List.cons.inj h).1
   have:=h1 i (by simp)
   rw[e]at this
   exact this.elim
 |i::it,j::it',s,s',h,h1,h2=>by
  obtain ⟨e1,e2⟩:=List.cons.inj h
  obtain ⟨e3,e4⟩:=td_one e2 (fun k hk=>h1 k (by simp[hk])) (fun k hk=>h2 k (by simp[hk]))
  exact ⟨by rw[e1,e3],e4⟩
theorem ne_trap{i:Item}{k:List Item}(h:i≠trapI):(i::k)≠[trapI]:=fun e=>h (List.cons.inj e).1
theorem mem_seen{p:Program}{f:FuncId}{es:Array Event}{e:Event}(h:e∈seen p f es):e∈es:=by
 unfold seen at h
 refine Array.foldl_induction (motive:=fun _ (s:Bool×Array Event)=>∀x,x∈s.2→x∈es) ?_ ?_ e h
 ·intro x hx
  simp at hx
 ·rintro i ⟨q,k⟩ hk x hx
  dsimp only at hx
  split at hx
  ·exact hk x hx
  ·dsimp only at hx
   split at hx
   ·exact hk x hx
   ·rcases Array.mem_push.1 hx with q|q
    ·exact hk x q
    ·rw[q];exact Array.getElem_mem _
def Out (c:Cx) (b:Frame) (bs z:List Frame) (g G:Goroutine):Prop:=
 (∃fr fr' fs fs',g=mkG fr (fs++b::bs)∧G=mkG fr' (fs'++z)∧FrR c fr fr'∧FsR c fs fs')∨
 (∃v b' bs',z=b'::bs'∧okV c v∧g=mkG (b.finish v) bs∧G=mkG (b'.finish (rnV c.r v)) bs')
def Pan (c:Cx) (b:Frame) (bs:List Frame) (g:Goroutine) (w:World):Prop:=
 ∃fr fs ch,g=mkG fr (fs++b::bs)∧Hk c w∧fr.mode=.panicking ch∧(∀d,d∈fr.defers→DfOk c d)∧∀f,f∈fs→∀d,d∈f.defers→DfOk c d
theorem FsR.dok{c:Cx}:∀{x y:List Frame},FsR c x y→∀f,f∈x→∀d,d∈f.defers→DfOk c d
 |[],[],_,f,hf,_,_=>by simp at hf
 |a::x,b::y,h,f,hf,d,hd=>by
  rcases List.mem_cons.1 hf with rfl|hf
  ·exact h.1.1.dok d hd
  ·exact FsR.dok h.2 f hf d hd
def Stp (c d:Cx) (b:Frame) (bs z:List Frame) (w W:World) (g1:Goroutine) (w1:World) (S:GStep):Prop:=
 Pan d b bs g1 w1∨(z=[]∧∃v,g1=mkG (b.finish v) bs)∨(Gw w w1∧(Ag w W (w1.drawn - w.drawn)→∃G1 W1 es,S=.go G1 W1 es∧Rl c w1 W1∧(∀e,e∈es→EvOk c w1 e)∧Out c b bs z g1 G1∧Dr w w1 W W1))
theorem apply_sim{c d:Cx}(hP:d.P=c.P)(hd:∀n,d.lim n)(h0:Ev1 c){x y:Frame}{fs fs':List Frame}{b:Frame}{bs z:List Frame}(hf:FrR c x y)(hs:FsR c fs fs')(hf2:FrR d x y)(hs2:FsR d fs fs')(hm:x.mode=.run)(hne:x.todo≠[trapI]){s s':Sem Next}(hsm:Sm c s s' (NxR c))(hsm2:Sm d s s' (NxR d)){w W:World}(hr:Rl c w W)(hr2:Rl d w W){g1:Goroutine}{w1:World}{es:Array Event}
  (h:stepG.apply c.P true x (fs++b::bs) none s w=.go g1 w1 es) (hl:c.lim w1.heap.size):Stp c d b bs z w W g1 w1 (stepG.apply c.P true y (fs'++z) none s' W):=by
 have hok:=(hsm w W hr).1
 have hha:=(hsm2 w W hr2).2
 rw[hP]at hha
 have hfst:=Sem.runT_fst c.P s w #[]
 cases hT:s.runT c.P w #[] with
 |mk r e0=>
  rw[hT]at hfst
  unfold stepG.apply at h ⊢
  simp only[hT,if_true]at h
  cases hrun:s.run c.P w with
  |halt q w'=>
   have ht:=hha q w' hrun (hd _)
   rw[hrun]at hfst
   have hfst:r=.halt q w':=hfst
   subst hfst
   cases q with
   |panic v=>
    left
    simp only[GStep.after]at h
    cases h
    exact ⟨_,fs,_,rfl,ht.2,by unfold Frame.raise;rw[hm],by unfold Frame.raise;rw[hm];exact hf2.dok,hs2.dok⟩
   |stuck m=>cases h
   |unsupported u=>
    cases u with
    |initOrder g=>exact ht.1.elim
    |_=>cases h
   |_=>exact ht.1.elim
  |ok n w'=>
   obtain ⟨nl,Wl,-,-,el,-⟩:=(((hsm2 w _ hr2.like).1 n w' (by rw[hP];exact hrun) (hd _)).2 (ag_like _ _ _))
   have hok:=fun hz=>hok n w' hrun hz
   rw[hrun]at hfst
   have hfst:r=.ok n w':=hfst
   subst hfst
   have hev:∀nw:Array Event,(∀e∈nw,EvOk c w' e)→∀e,e∈seen c.P y.fn (if (y.kind==.early)=true then #[] else #[]++nw)++#[]→EvOk c w' e:=by
    intro nw e5 e he
    rw[Array.append_empty]at he
    have he:=mem_seen he
    split at he
    ·simp at he
    ·rw[Array.empty_append]at he
     exact e5 e he
   right
   right
   cases n with
   |value v=>
    simp only[GStep.after]at h
    cases h
    obtain ⟨e4,hq⟩:=hok hl
    refine ⟨e4,fun hag=>?_⟩
    obtain ⟨n',W',nw,e1,⟨rfl,hv⟩,e3,e5,e6⟩:=hq hag
    simp only[e1 #[],if_true,GStep.after]
    exact ⟨_,_,_,rfl,e3,hev nw e5,.inl ⟨_,_,fs,fs',rfl,rfl,hf.finish hne ⟨rfl,hv⟩,hs⟩,e6⟩
   |skip=>
    simp only[GStep.after]at h
    cases h
    obtain ⟨e4,hq⟩:=hok hl
    refine ⟨e4,fun hag=>?_⟩
    obtain ⟨n',W',nw,e1,e2,e3,e5,e6⟩:=hq hag
    cases e2
    simp only[e1 #[],if_true,GStep.after]
    exact ⟨_,_,_,rfl,e3,hev nw e5,.inl ⟨_,_,fs,fs',rfl,rfl,hf.finish hne (vr_undef c),hs⟩,e6⟩
   |enter f a=>
    obtain ⟨it,st,t1,t2,hi,-⟩:=hf.todo
    rw[t2]
    cases it with
    |nil=>
     cases st with
     |true=>exact absurd t1 hne
     |false=>
      have hx:x.todo=[]:=t1
      simp only[hx,GStep.after]at h
      cases h
      obtain ⟨e4,hq⟩:=hok hl
      refine ⟨e4,fun hag=>?_⟩
      obtain ⟨n',W',nw,e1,⟨rfl,ha,hff⟩,e3,e5,e6⟩:=hq hag
      simp only[e1 #[],List.map_nil,if_true,GStep.after]
      exact ⟨_,_,_,rfl,e3,hev nw e5,.inl ⟨_,_,x::fs,y::fs',rfl,rfl,FrR.enter h0 hff ⟨rfl,ha⟩,⟨hf,hne⟩,hs⟩,e6⟩
    |cons i k=>
     have hx:x.todo=i::(k++sfh st):=t1
     cases i with
     |call d b s v=>exact (hi (.call d b s v) (by simp)).elim
     |_=>
      simp only[hx,GStep.after]at h
      cases h
      obtain ⟨e4,hq⟩:=hok hl
      refine ⟨e4,fun hag=>?_⟩
      obtain ⟨n',W',nw,e1,⟨rfl,ha,hff⟩,e3,e5,e6⟩:=hq hag
      simp only[e1 #[],List.map_cons,List.cons_append,rnI,if_true,GStep.after]
      exact ⟨_,_,_,rfl,e3,hev nw e5,.inl ⟨_,_,x::fs,y::fs',rfl,rfl,FrR.enter h0 hff ⟨rfl,ha⟩,⟨hf,hne⟩,hs⟩,e6⟩
   |round l f a p q=>
    simp only[GStep.after]at h
    cases h
    obtain ⟨e4,hq⟩:=hok hl
    refine ⟨e4,fun hag=>?_⟩
    obtain ⟨n',W',nw,e1,⟨rfl,ha,hp,hq,hff,hl⟩,e3,e5,e6⟩:=hq hag
    simp only[e1 #[],if_true,GStep.after]
    exact ⟨_,_,_,rfl,e3,hev nw e5,.inl ⟨_,_,x::fs,y::fs',rfl,rfl,FrR.rnd hl hff ⟨rfl,ha⟩ hp hq,⟨hf,hne⟩,hs⟩,e6⟩
   |_=>exact el.elim
end Go.Proofs.Ytniloklglpchfai
