/- Blocks of memory numbered otherwise: a step. No program in sight. -/
import Derived.Test.YtniloklglpchfaiEqQ
namespace Go.Proofs.Ytniloklglpchfai
open Go
theorem sm_mapL{c:Cx}{α:Type}{f f':α→Sem Value}(h:∀a,Sm c (f a) (f' a) (VR c)):∀l:List α,Sm c (l.mapM f) (l.mapM f') (fun x y=>y=x.map (rnV c.r)∧∀v,v∈x→okV c v)
 |[]=>by rw[List.mapM_nil,List.mapM_nil];exact sm_pure ⟨rfl,fun v hv=>by simp at hv⟩
 |a::l=>by
  rw[List.mapM_cons,List.mapM_cons]
  refine sm_bind (h a) ?_
  rintro v v' ⟨rfl,hv⟩
  refine sm_bind (sm_mapL h l) ?_
  rintro x y ⟨rfl,hx⟩
  exact sm_pure ⟨rfl,fun u hu=>by
   rcases List.mem_cons.1 hu with rfl|hu
   ·exact hv
   ·exact hx u hu⟩
theorem sm_results{c:Cx}(fn:Func){x y:Array Value}(h:VsR c x y):Sm c (results fn x) (results fn y) (VR c):=by
 unfold results
 rw[Array.mapM_eq_mapM_toList,Array.mapM_eq_mapM_toList]
 refine sm_bind (R:=VsR c) ?_ ?_
 ·refine sm_bind (sm_mapL (fun r=>?_) fn.results.toList) ?_
  ·cases r with
   |tmp t=>exact sm_pure (h.getD t)
   |cell a t=>
    refine sm_bind (sm_asAddr (h.getD a)) ?_
    rintro p p' ⟨rfl,hp⟩
    exact sm_loadVar t p hp
  ·rintro l l' ⟨rfl,hl⟩
   exact sm_pure ⟨by simp,fun v hv=>hl v (by simpa using hv)⟩
 ·rintro a a' ⟨rfl,ha⟩
  by_cases hs:a.size=1
  ·have hs':(a.map (rnV c.r)).size=1:=by simpa using hs
   rw[dif_pos hs,dif_pos hs']
   exact sm_pure ⟨by simp,ha _ (Array.getElem_mem _)⟩
  ·have hs':¬(a.map (rnV c.r)).size=1:=by simpa using hs
   rw[dif_neg hs,dif_neg hs']
   exact sm_pure ⟨by simp[rnV],by simpa [okV,okVs] using ha⟩
theorem unwind_sim{c d:Cx}(hP:d.P=c.P)(hd:∀n,d.lim n)(h0:Ev1 c){x y:Frame}{fs fs':List Frame}{b:Frame}{bs z:List Frame}(hf:FrR c x y)(hs:FsR c fs fs')(hf2:FrR d x y)(hm:x.mode=.returning)(m m':Bool){w W:World}(hr:Rl c w W)(hr2:Rl d w W){g1:Goroutine}{w1:World}{es:Array Event}
  (h:unwind c.P m x (fs++b::bs) none w=.go g1 w1 es) (hl:c.lim w1.heap.size):Stp c d b bs z w W g1 w1 (unwind c.P m' y (fs'++z) none W):=by
 have hm':y.mode=.returning:=hf.mode.trans hm
 unfold unwind at h ⊢
 rw[hf.defers]
 cases hdf:x.defers with
 |cons z ds=>
  have hz2:=hf2.dok z (by rw[hdf];simp)
  obtain ⟨bl,rfl,hbl⟩:=hf.dok z (by rw[hdf];simp)
  obtain ⟨bl2,ez,hbl2⟩:=hz2
  cases ez
  have hdk:∀z,z∈ds→DfOk c z:=fun z hz=>hf.dok z (by rw[hdf];simp[hz])
  simp only[hdf,List.map_cons,rnD]at h ⊢
  obtain ⟨hok,-⟩:=sm_takeDeferred hbl w W hr
  have hfst:=Sem.runT_fst c.P (Instr.takeDeferred bl) w #[]
  cases hT:(Instr.takeDeferred bl).runT c.P w #[] with
  |mk r e0=>
   rw[hT]at hfst
   simp only[hT]at h
   cases hrun:(Instr.takeDeferred bl).run c.P w with
   |halt q w'=>
    rw[hrun]at hfst
    have hfst:r=.halt q w':=hfst
    subst hfst
    cases h
   |ok l w'=>
    rw[hrun]at hfst
    have hfst:r=.ok l w':=hfst
    subst hfst
    obtain ⟨-,-,-,-,⟨rfl,-⟩,-⟩:=((sm_takeDeferred (c:=d) hbl2 w _ hr2.like).1 l w' (by rw[hP];exact hrun) (hd _)).2 (ag_like _ _ _)
    simp only[GStep.after,List.nil_append]at h
    cases h
    obtain ⟨e4,hq⟩:=hok _ _ hrun hl
    refine .inr (.inr ⟨e4,fun hag=>?_⟩)
    obtain ⟨l',W',nw,e1,⟨-,rfl⟩,e3,e5,e6⟩:=hq hag
    simp only[e1 #[],GStep.after,List.nil_append]
    exact ⟨_,_,_,rfl,e3,(fun e he=>by
     rw[Array.append_empty]at he
     have:=mem_seen he
     rw[Array.empty_append]at this
     exact e5 e this),.inl ⟨{ x with defers:=ds },{ y with defers:=ds.map (rnD c.r) },fs,fs',rfl,rfl,⟨hf.fn,hf.f,hf.tmps,hf.todo,rfl,hdk,hf.mode,hf.run,hf.kind,hf.normal,hf.round,hf.rok⟩,hs⟩,e6⟩
 |nil=>
  obtain ⟨fn,q1⟩:=h0.frm x.fn hf.f
  simp only[hdf,List.map_nil,hm,hm',hf.fn,q1]at h ⊢
  obtain ⟨hok,-⟩:=sm_results fn hf.tmps w W hr
  have hfst:=Sem.runT_fst c.P (results fn x.tmps) w #[]
  cases hT:(results fn x.tmps).runT c.P w #[] with
  |mk r e0=>
   rw[hT]at hfst
   simp only[hT]at h
   cases hrun:(results fn x.tmps).run c.P w with
   |halt q w'=>
    rw[hrun]at hfst
    have hfst:r=.halt q w':=hfst
    subst hfst
    cases q<;>cases h
   |ok v w'=>
    rw[hrun]at hfst
    have hfst:r=.ok v w':=hfst
    subst hfst
    obtain ⟨gl,rl,rn⟩:=ret_here (c:=c) (b:=b) (bs:=bs) hf hs (fs:=fs) v m w'
    simp only[rl,GStep.after]at h
    cases h
    obtain ⟨e4,hq⟩:=hok _ _ hrun hl
    by_cases hz:z=[]∧fs=[]
    ·exact .inr (.inl ⟨hz.1,v,rn hz.2⟩)
    refine .inr (.inr ⟨e4,fun hag=>?_⟩)
    obtain ⟨v',W',nw,e1,e2,e3,e5,e6⟩:=hq hag
    obtain ⟨g,G,r1,r2,r3⟩:=ret_sim (b:=b) (bs:=bs) (z:=z) hz hf hs e2 m m' w1 W'
    rw[rl]at r1
    cases r1
    simp only[e1 #[],r2,GStep.after]
    exact ⟨_,_,_,rfl,e3,fun e he=>by
     rw[Array.append_empty]at he
     have:=mem_seen he
     rw[Array.empty_append]at this
     exact e5 e this,r3,e6⟩
theorem step_sim{c d:Cx}(hP:d.P=c.P)(hR:d.r=c.r)(hK:d.kt=c.kt)(hd:∀n,d.lim n)(h0:Ev1 c)(h02:Ev1 d){x y:Frame}{fs fs':List Frame}{b:Frame}{bs z:List Frame}(hf:FrR c x y)(hs:FsR c fs fs')(hf2:FrR d x y)(hs2:FsR d fs fs')(m m':Bool){w W:World}(hr:Rl c w W)(hr2:Rl d w W){g1:Goroutine}{w1:World}{es:Array Event}
  (h:stepG c.P m (mkG x (fs++b::bs)) w=.go g1 w1 es) (hl:c.lim w1.heap.size):Stp c d b bs z w W g1 w1 (stepG c.P m' (mkG y (fs'++z)) W):=by
 unfold stepG mkG at h ⊢
 rcases hf.run with hm|hm
 ·have hm':=hf.mode.trans hm
  simp only[hm]at h
  simp only[hm']
  exact exec_sim hP hR hK hd h0 h02 hf hs hf2 hs2 hm m m' hr hr2 h hl
 ·have hm':=hf.mode.trans hm
  simp only[hm]at h
  simp only[hm']
  exact unwind_sim hP hd h0 hf hs hf2 hm m m' hr hr2 h hl
def goesE:GStep→Prop
 |.go ..=>True
 |.ended ..=>True
 |_=>False
theorem goesE.after{es:Array Event}{s:GStep}(h:goesE s):goesE (GStep.after es s):=by
 cases s<;>first|exact h|trivial
theorem goE_ret{c:Cx}{x y:Frame}{fs fs':List Frame}{b:Frame}{bs:List Frame}(hf:FrR c x y)(hs:FsR c fs fs')(v:Value)(m:Bool)(w:World):goesE (doReturn c.P m x (fs++b::bs) none v w):=by
 obtain ⟨g,e,-⟩:=ret_here (c:=c) (b:=b) (bs:=bs) hf hs (fs:=fs) v m w
 rw[e]
 trivial
theorem goE_apply{c:Cx}(hd:∀n,c.lim n){x:Frame}{cs:List Frame}{s s':Sem Next}(hsm:Sm c s s' (NxR c)){w W:World}(hr:Rl c w W):goesE (stepG.apply c.P true x cs none s w):=by
 have hfst:=Sem.runT_fst c.P s w #[]
 cases hT:s.runT c.P w #[] with
 |mk r e0=>
  rw[hT]at hfst
  unfold stepG.apply
  simp only[hT,if_true]
  cases hrun:s.run c.P w with
  |halt q w'=>
   have ht:=(hsm w W hr).2 q w' hrun (hd _)
   rw[hrun]at hfst
   have hfst:r=.halt q w':=hfst
   subst hfst
   cases q with
   |panic v=>trivial
   |stuck m=>trivial
   |unsupported u=>
    cases u with
    |initOrder g=>exact ht.1.elim
    |_=>trivial
   |_=>exact ht.1.elim
  |ok n w'=>
   obtain ⟨nl,Wl,-,-,el,-⟩:=(((hsm w _ hr.like).1 n w' hrun (hd _)).2 (ag_like _ _ _))
   rw[hrun]at hfst
   have hfst:r=.ok n w':=hfst
   subst hfst
   cases n with
   |value v=>trivial
   |skip=>trivial
   |enter f a=>trivial
   |round l f a p q=>trivial
   |_=>exact el.elim
theorem goE_exec{c:Cx}(hd:∀n,c.lim n)(h0:Ev1 c){x y:Frame}{fs fs':List Frame}{b:Frame}{bs:List Frame}(hf:FrR c x y)(hs:FsR c fs fs')(m:Bool){w W:World}(hr:Rl c w W):goesE (stepG.exec c.P m true x (fs++b::bs) none w):=by
 unfold stepG.exec
 obtain ⟨it,st,t1,-,hi,-⟩:=hf.todo
 cases hx:x.todo with
 |nil=>
  dsimp only
  cases hro:x.roundOf with
  |none=>dsimp only;(repeat' split)<;>trivial
  |some l=>
   dsimp only
   refine goesE.after ?_
   split
   ·exact goE_ret hf hs _ m _
   ·trivial
 |cons i k=>
  have h1:ItOk c i∨i=trapI:=by
   rw[hx]at t1
   cases it with
   |nil=>
    cases st with
    |false=>cases t1
    |true=>exact .inr (List.cons.inj t1).1
   |cons j it=>exact .inl (by rw[(List.cons.inj t1).1];exact hi j (by simp))
  rcases h1 with h1|rfl
  case inr=>
   dsimp only[trapI]
   rw [show Extern.next "fmt's door of nobody" = none by rfl]
   trivial
  cases i with
  |inBlock n=>trivial
  |inScope b=>trivial
  |inLoop q=>trivial
  |inRangeFunc l=>trivial
  |call d b s v=>exact h1.elim
  |extern s v=>exact h1.elim
  |beginRound=>
   refine goE_apply hd (s' := do y.roundOf.elim (stuck "beginRound: no round") Instr.beginRound; pure .skip) ?_ hr
   rw[hf.round]
   cases hro:x.roundOf with
   |none=>exact sm_none (noOk_bind' (noOk_halt _))
   |some l=>exact sm_unit (sm_beginRound (hf.rok l hro))
  |endRangeFunc l=>
   dsimp only
   refine goesE.after ?_
   split<;>trivial
  |inRegion ops l=>
   cases l with
   |nil=>trivial
   |cons n l=>
    dsimp only
    split
    ·unfold stepG.oper Frame.oper?
     rw[hx]
     dsimp only
     cases ho:ops[n]? with
     |none=>trivial
     |some o=>
      have hok:OpOk c o.op:=h1 o (Array.mem_of_getElem? ho)
      have hsm:Sm c (execOp x.eval o) (execOp y.eval o) (NxR c):=sm_exec h0.toEv0 (fun z hz=>hf.eval z hz) (fun v=>⟨rfl,rfl⟩) o hok
      dsimp only
      split
      ·rename_i hdd
       rw[hdd]at hok
       exact hok.2.elim
      ·exact goE_apply hd hsm hr
    ·trivial
  |code q=>
   have hq:=h0.code q h1
   cases q with
   |skip=>trivial
   |label n=>trivial
   |ret=>
    dsimp only
    cases hro:x.roundOf with
    |none=>dsimp only;(repeat' split)<;>trivial
    |some l=>
     dsimp only
     refine goesE.after ?_
     split
     ·exact goE_ret hf hs _ m _
     ·trivial
   |seq p q=>trivial
   |block n q=>trivial
   |loop q=>trivial
   |scope q=>trivial
   |goto id=>
    dsimp only
    cases gotoIn id k with
    |some k'=>trivial
    |none=>
     dsimp only[Option.elim_none]
     cases hro:x.roundOf with
     |none=>dsimp only;(repeat' split)<;>trivial
     |some l=>
      dsimp only
      refine goesE.after ?_
      split
      ·exact goE_ret hf hs _ m _
      ·trivial
   |cond o p q=>dsimp only;split<;>trivial
   |exit id=>
    dsimp only
    cases exitTo id k with
    |some k'=>trivial
    |none=>
     dsimp only[Option.elim_none]
     cases hro:x.roundOf with
     |none=>dsimp only;(repeat' split)<;>trivial
     |some l=>
      dsimp only
      refine goesE.after ?_
      split
      ·exact goE_ret hf hs _ m _
      ·trivial
   |region id ops dr=>
    dsimp only
    (repeat' split)<;>trivial
   |rangeFunc f ps p q=>
    dsimp only
    refine goesE.after ?_
    have hfst:=Sem.runT_fst c.P (Instr.enterLoop x.fn x.tmps ps p q x.roundOf) w #[]
    rw[hfst]
    cases hrun:(Instr.enterLoop x.fn x.tmps ps p q x.roundOf).run c.P w with
    |halt q w'=>trivial
    |ok lm w'=>
     obtain ⟨l,mk⟩:=lm
     dsimp only
     obtain ⟨⟨ll,ml⟩,Wl,nl,el1,⟨el2,el2b,el2c⟩,el3,-,-⟩:=((sm_enterLoop x.fn hf.f hf.tmps ps p q hq.2.1 hq.2.2 x.roundOf hf.rok w _ hr.like).1 (l,mk) w' hrun (hd _)).2 (ag_like _ _ _)
     have hsm:=sm_callV h0.toEv0 (hf.eval f hq.1) (x:=#[.func (.yield l) #[] #[]]) (y:=#[.func (.yield (c.r l)) #[] #[]]) ⟨by simp[rnV,rnF,pzOr],fun v hv=>by simp at hv;rw[hv];simp only[okV];exact .inl ⟨trivial,(fun l2 e=>by cases e;exact el2b),(fun x hx=>by simp at hx),(fun x hx=>by simp at hx)⟩⟩
     have hres:∀(z:Frame) (l:Nat),resolve z.eval { callee:=.value f,args:=#[.const (.func (.yield l) #[] #[])],argTypes:=#[] } 0=Deferred.ofValue (z.eval f) #[.func (.yield l) #[] #[]]:=fun z l=>by simp[resolve,Frame.eval]
     have hev:∀z z':Frame,z.tmps=z'.tmps→z.eval f=z'.eval f:=fun z z' e=>by cases f<;>simp[Frame.eval,e]
     rw[hres,hev { x with todo:=.inRangeFunc l::k,defers:=mk++x.defers } x rfl]
     exact goE_apply hd hsm el3
   |refuse s=>exact hq.elim
theorem goE_unwind{c:Cx}(h0:Ev1 c){x y:Frame}{fs fs':List Frame}{b:Frame}{bs:List Frame}(hf:FrR c x y)(hs:FsR c fs fs')(hm:x.mode=.returning)(m:Bool)(w:World):goesE (unwind c.P m x (fs++b::bs) none w):=by
 unfold unwind
 cases hd:x.defers with
 |cons d ds=>
  obtain ⟨bl,rfl,hbl⟩:=hf.dok d (by rw[hd];simp)
  dsimp only
  refine goesE.after ?_
  split<;>trivial
 |nil=>
  obtain ⟨fn,q1⟩:=h0.frm x.fn hf.f
  simp only[hm,q1]
  refine goesE.after ?_
  split
  ·exact goE_ret hf hs _ m _
  ·trivial
  ·trivial
theorem goE_step{c:Cx}(hd:∀n,c.lim n)(h0:Ev1 c){x y:Frame}{fs fs':List Frame}{b:Frame}{bs:List Frame}(hf:FrR c x y)(hs:FsR c fs fs')(m:Bool){w W:World}(hr:Rl c w W):goesE (stepG c.P m (mkG x (fs++b::bs)) w):=by
 unfold stepG mkG
 rcases hf.run with hm|hm
 ·simp only[hm];exact goE_exec hd h0 hf hs m hr
 ·simp only[hm];exact goE_unwind h0 hf hs hm m w
def Cx.bnd (d:Cx) (N:Nat):Cx:={ d with ob:=fun b=>d.ob b∨N≤b,lim:=fun n=>n≤N }
def Cx.wk (c:Cx) (o:Nat→Prop) (l:Nat→Prop):Cx:={ c with ob:=o,lim:=l }
theorem okV_wk{c:Cx}{o l:Nat→Prop}(ho:∀b,o b→c.ob b):∀v,okV c v→okV (c.wk o l) v
 |.pointer a,h=>by
  simp only[okV]at h ⊢
  exact fun x hx q=>h x hx (ho _ q)
 |.slice a _ _,h=>by
  simp only[okV]at h ⊢
  exact h.imp (fun h=>⟨fun x hx q=>h.1 x hx (ho _ q),h.2⟩) id
 |.map m,h=>by
  simp only[okV]at h ⊢
  exact fun x hx q=>h x hx (ho _ q)
 |.chan m,h=>by
  simp only[okV]at h ⊢
  exact fun x hx=>(h x hx).imp id (fun k q=>k (ho _ q))
 |.func fn a b,h=>by
  simp only[okV]at h ⊢
  exact h.imp (fun h=>⟨h.1,fun l e q=>h.2.1 l e (ho _ q),fun x hx=>okV_wk ho x (h.2.2.1 x hx),fun x hx=>okV_wk ho x (h.2.2.2 x hx)⟩) id
 |.iface t v,h=>by
  simp only[okV]at h ⊢
  exact okV_wk ho v h
 |.agg d,h=>by
  simp only[okV]at h ⊢
  exact fun x hx=>okV_wk ho x (h x hx)
 |.tuple d,h=>by
  simp only[okV]at h ⊢
  exact fun x hx=>okV_wk ho x (h x hx)
 |.float _ _,h=>by simp[okV]at h
 |.complex _ _ _,h=>by simp[okV]at h
 |.bool _,_=>by simp[okV]
 |.int _ _,_=>by simp[okV]
 |.string _,_=>by simp[okV]
 |.nilFunc,_=>by simp[okV]
 |.nilIface,_=>by simp[okV]
theorem okVs_wk{c:Cx}{o l:Nat→Prop}(ho:∀b,o b→c.ob b){x:Array Value}(h:okVs c x):okVs (c.wk o l) x:=fun v hv=>okV_wk ho v (h v hv)
theorem VsR.wk{c:Cx}{o l:Nat→Prop}(ho:∀b,o b→c.ob b){x y:Array Value}(h:VsR c x y):VsR (c.wk o l) x y:=⟨h.1,okVs_wk ho h.2⟩
theorem OdOk.wk{c:Cx}{o l:Nat→Prop}(ho:∀b,o b→c.ob b){x:Operand}(h:OdOk c x):OdOk (c.wk o l) x:=by
 cases x with
 |const v=>exact ⟨h.1,okV_wk ho v h.2⟩
 |tmp t=>exact h
 |global g=>exact h
 |func f=>exact h
theorem OpOk.wk{c:Cx}{o l:Nat→Prop}(ho:∀b,o b→c.ob b){p:Op}(h:OpOk c p):OpOk (c.wk o l) p:=⟨fun x hx=>(h.1 x hx).wk ho,h.2⟩
theorem ItOk.wk{c:Cx}{o l:Nat→Prop}(ho:∀b,o b→c.ob b){i:Item}(h:ItOk c i):ItOk (c.wk o l) i:=by
 cases i with
 |code k=>exact h
 |inBlock n=>exact h
 |inLoop b=>exact h
 |inRegion ops q=>exact fun x hx=>(h x hx).wk ho
 |inRangeFunc q=>exact fun e=>h (ho _ e)
 |endRangeFunc q=>exact fun e=>h (ho _ e)
 |beginRound=>exact h
 |inScope b=>exact h
 |call d b s v=>exact h
 |extern s v=>exact h
theorem DfOk.wk{c:Cx}{o l:Nat→Prop}(ho:∀b,o b→c.ob b){d:Deferred}(h:DfOk c d):DfOk (c.wk o l) d:=by
 obtain ⟨b,e,hb⟩:=h
 exact ⟨b,e,fun q=>hb (ho _ q)⟩
theorem FrR.wk{c:Cx}{o l:Nat→Prop}(ho:∀b,o b→c.ob b){x y:Frame}(h:FrR c x y):FrR (c.wk o l) x y:=
 ⟨h.fn,h.f,h.tmps.wk ho,(let ⟨it,s,e1,e2,hi,hs⟩:=h.todo;⟨it,s,e1,e2,fun i hm=>(hi i hm).wk ho,hs⟩),h.defers,fun d hd=>(h.dok d hd).wk ho,h.mode,h.run,h.kind,h.normal,h.round,fun l e q=>h.rok l e (ho _ q)⟩
theorem FsR.wk{c:Cx}{o l:Nat→Prop}(ho:∀b,o b→c.ob b):∀{x y:List Frame},FsR c x y→FsR (c.wk o l) x y
 |[],[],_=>trivial
 |_::_,_::_,h=>⟨⟨h.1.1.wk ho,h.1.2⟩,FsR.wk ho h.2⟩
theorem ObR.wk{c:Cx}{o l:Nat→Prop}(ho:∀b,o b→c.ob b){b:Nat}{p:Obj}{O:Option Obj}(h:ObR c b p O):ObR (c.wk o l) b p O:=by
 cases p with
 |cells a e z=>exact ⟨h.1,okVs_wk ho h.2.1,h.2.2⟩
 |loop q=>exact ⟨h.1,okVs_wk ho h.2.1,h.2.2.1,h.2.2.2.1,h.2.2.2.2.1,h.2.2.2.2.2.1,(fun e=>h.2.2.2.2.2.2.1 (ho _ e)),h.2.2.2.2.2.2.2⟩
 |deferred d=>exact h
 |number a x=>exact ⟨h.1,(fun e=>h.2.1 (ho _ e)),h.2.2⟩
 |map es k=>exact ⟨h.1,(fun e he=>⟨okV_wk ho _ (h.2.1 e he).1,okV_wk ho _ (h.2.1 e he).2⟩),h.2.2⟩
 |chan n bf cl s q tm=>exact ⟨h.1,okVs_wk ho h.2.1,h.2.2⟩
 |_=>exact h.elim
def Fut (d:Cx) (w:World):Prop:=∀b,w.heap.size≤b→¬d.ob b
theorem lt_of_some{w:World}{b:Nat}{o:Obj}(h:w.heap[b]?=some o):b<w.heap.size:=by
 rcases Nat.lt_or_ge b w.heap.size with q|q
 ·exact q
 ·rw[Array.getElem?_eq_none q]at h;cases h
theorem Rl.wide{d:Cx}{N:Nat}{w W:World}(h:Rl (d.bnd N) w W)(hN:w.heap.size≤N)(hf:Fut d w)(hd:∀n,d.lim n):Rl d w W:=
 ⟨h.inj,h.top,fun k=>⟨(h.new k).1,fun _=>hf _ (by omega)⟩,fun m n _ _=>hd m,fun b p hb hp=>(h.blk b p (fun e=>by
  have:=lt_of_some hp
  rcases e with e|e
  ·exact hb e
  ·omega) hp).wk (c:=d.bnd N) (o:=d.ob) (l:=d.lim) (fun _ e=>.inl e),h.out,h.rest⟩
theorem Rl.up{d:Cx}{N M:Nat}{w W:World}(h:Rl (d.bnd N) w W)(hN:w.heap.size≤N)(hM:N≤M)(hf:Fut d w):Rl (d.bnd M) w W:=
 ⟨h.inj,h.top,fun k=>⟨(h.new k).1,fun hl e=>by
  have hl:w.heap.size+k+1≤M:=hl
  rcases e with e|e
  ·exact hf _ (by omega) e
  ·omega⟩,fun m n hmn hn=>Nat.le_trans hmn hn,fun b p hb hp=>(h.blk b p (fun e=>by
  have:=lt_of_some hp
  rcases e with e|e
  ·exact hb (.inl e)
  ·omega) hp).wk (c:=d.bnd N) (o:=(d.bnd M).ob) (l:=(d.bnd M).lim) (fun b e=>by
   rcases e with e|e
   ·exact .inl e
   ·exact .inr (Nat.le_trans hM e)),h.out,h.rest⟩
theorem FrR.wide{d:Cx}{N:Nat}{x y:Frame}(h:FrR (d.bnd N) x y):FrR d x y:=h.wk (c:=d.bnd N) (o:=d.ob) (l:=d.lim) (fun _ e=>.inl e)
theorem FsR.wide{d:Cx}{N:Nat}{x y:List Frame}(h:FsR (d.bnd N) x y):FsR d x y:=h.wk (c:=d.bnd N) (o:=d.ob) (l:=d.lim) (fun _ e=>.inl e)
theorem up_ob{d:Cx}{N M:Nat}(hM:N≤M):∀b,(d.bnd M).ob b→(d.bnd N).ob b:=fun b e=>by
 rcases e with e|e
 ·exact .inl e
 ·exact .inr (Nat.le_trans hM e)
theorem FrR.up{d:Cx}{N M:Nat}(hM:N≤M){x y:Frame}(h:FrR (d.bnd N) x y):FrR (d.bnd M) x y:=h.wk (c:=d.bnd N) (o:=(d.bnd M).ob) (l:=(d.bnd M).lim) (up_ob hM)
theorem FsR.up{d:Cx}{N M:Nat}(hM:N≤M){x y:List Frame}(h:FsR (d.bnd N) x y):FsR (d.bnd M) x y:=h.wk (c:=d.bnd N) (o:=(d.bnd M).ob) (l:=(d.bnd M).lim) (up_ob hM)
def trap (P : Program) : Frame := { fn := P.funcs.size, tmps := #[], todo := [.call { target := .nil, args := #[] } false "fmt's door of nobody" #[]], defers := [], mode := .run, kind := .normal }
def endE:GStep→Prop
 |.ended ..=>True
 |_=>False
theorem endE.out{s:GStep}(h:endE s):∃o w es,s=.ended o w es:=by
 cases s with
 |ended o w es=>exact ⟨o,w,es,rfl⟩
 |_=>exact h.elim
theorem trap_back(P:Program)(v:Value)(w:World):endE (stepG P true (mkG ((trap P).finish v) []) w):=by
 unfold stepG mkG stepG.exec trap Frame.finish
 simp only
 rw [show Extern.next "fmt's door of nobody" = none by rfl]
 trivial
theorem trap_raise(P:Program)(ch:List PanicEntry)(w:World):endE (stepG P true (mkG ((trap P).raise ch) []) w):=by
 have hc:((trap P).raise ch).catches P=true:=by
  unfold Frame.raise trap Frame.catches
  simp only[Array.getElem?_eq_none (Nat.le_refl P.funcs.size)]
  simp
 have hd:((trap P).raise ch).defers=[]:=rfl
 have hm:((trap P).raise ch).mode=.panicking ch:=rfl
 unfold stepG mkG
 simp only[hm]
 unfold unwind
 simp only[hd,hm,hc,if_true]
 trivial
theorem step_end{P:Program}{x:Frame}{cs:List Frame}{w w':World}{o:Outcome}{es:Array Event}(h:stepG P true (mkG x cs) w=.ended o w' es):step P (lone x cs w)=.ended o w':=by
 refine step_lone_ended ?_
 unfold mkG at h
 rw[h]
 rfl
theorem step_go{P:Program}{x x':Frame}{cs cs':List Frame}{w w':World}{es:Array Event}(h:stepG P true (mkG x cs) w=.go (mkG x' cs') w' es):step P (lone x cs w)=.next (lone x' cs' w'):=by
 refine step_lone_go ?_
 unfold mkG at h
 rw[h]
 rfl
theorem lone_inj{x x':Frame}{cs cs':List Frame}{w w':World}(h:lone x cs w=lone x' cs' w'):x=x'∧cs=cs'∧w=w':=by
 unfold lone at h
 simp only[Machine.mk.injEq,Array.mk.injEq,List.cons.injEq,Goroutine.mk.injEq]at h
 exact ⟨h.2.1.1.1,h.2.1.1.2.1,h.1⟩
theorem take_here{c:Cx}{P:Program}{b:Nat}{w w1:World}{l:List Deferred}(hb:¬c.ob b)(hk:Hk c w)(h:(Instr.takeDeferred b).run P w=.ok l w1):l=[]∧Hk c w1:=by
 have h':(Sem.getObj b _:Sem (List Deferred)).run P w=.ok l w1:=h
 simp only[Sem.run]at h'
 cases ho:w.heap[b]? with
 |none=>rw[ho]at h';cases h'
 |some o=>
  rw[ho]at h'
  cases o with
  |deferred ds=>
   cases ds with
   |none=>cases h'
   |some ds=>
    have h2:(Sem.setObj b (.deferred none) (.pure ds):Sem (List Deferred)).run P w=.ok l w1:=h'
    simp only[Sem.run,ho]at h2
    cases h2
    refine ⟨by rcases hk b _ hb ho with q|q<;>cases q;rfl,fun i ds' hi e=>?_⟩
    have e:(w.heap.setIfInBounds b (.deferred none))[i]?=some (.deferred ds'):=e
    rw[setObj_at ho]at e
    split at e
    ·cases e;exact .inl rfl
    ·exact hk i ds' hi e
  |cells a e z=>cases h'
  |_=>cases h'
theorem raise_mode(f:Frame)(ch:List PanicEntry):(∃ch',(f.raise ch).mode=.panicking ch')∧(f.raise ch).defers=f.defers:=by
 unfold Frame.raise
 split<;>exact ⟨⟨_,rfl⟩,rfl⟩
theorem pan_mode{c:Cx}:∀(n:Nat) (g:Goroutine) (w:World),Pan c (trap c.P) [] g w→∀fr w',runN c.P n { world:=w,gs:=#[g],rest:={ timers:=#[],alone:=none,slice:=none } }=.next (lone fr [trap c.P] w')→∃ch,fr.mode=.panicking ch
 |n,g,w,⟨x,fs,ch,hg,hk,hm,hd,hfs⟩,fr,w',h=>by
  subst hg
  have hlone:({ world:=w,gs:=#[mkG x (fs++[trap c.P])],rest:={ timers:=#[],alone:=none,slice:=none } }:Machine)=lone x (fs++[trap c.P]) w:=rfl
  rw[hlone]at h
  cases n with
  |zero=>
   have e:=lone_inj (Stepped.next.inj h)
   exact ⟨ch,by rw[←e.1];exact hm⟩
  |succ n=>
   unfold runN at h
   have hs:stepG c.P true (mkG x (fs++[trap c.P])) w=unwind c.P true x (fs++[trap c.P]) none w:=by
    unfold stepG mkG
    simp only[hm]
   have hend:endE (stepG c.P true (mkG x (fs++[trap c.P])) w)→False:=fun q=>by
    obtain ⟨o,w2,es,e⟩:=q.out
    rw[step_end e]at h
    cases h
   have hgo:∀x2 cs2 w2 es,stepG c.P true (mkG x (fs++[trap c.P])) w=.go (mkG x2 cs2) w2 es→runN c.P n (lone x2 cs2 w2)=.next (lone fr [trap c.P] w'):=fun x2 cs2 w2 es e=>by
    rw[step_go e]at h
    exact h
   rw[hs]at hend hgo
   unfold unwind at hend hgo
   cases hdf:x.defers with
   |cons z ds=>
    obtain ⟨bl,rfl,hbl⟩:=hd z (by rw[hdf];simp)
    simp only[hdf]at hend hgo
    have hfst:=Sem.runT_fst c.P (Instr.takeDeferred bl) w #[]
    cases hT:(Instr.takeDeferred bl).runT c.P w #[] with
    |mk r e0=>
     rw[hT]at hfst
     simp only[hT]at hend hgo
     cases hrun:(Instr.takeDeferred bl).run c.P w with
     |halt q w1=>
      rw[hrun]at hfst
      have hfst:r=.halt q w1:=hfst
      subst hfst
      exact (hend trivial).elim
     |ok l w1=>
      rw[hrun]at hfst
      have hfst:r=.ok l w1:=hfst
      subst hfst
      obtain ⟨rfl,hk1⟩:=take_here hbl hk hrun
      have:=hgo { x with defers:=ds } (fs++[trap c.P]) w1 _ rfl
      exact pan_mode n _ w1 ⟨{ x with defers:=ds },fs,ch,rfl,hk1,hm,fun d hd'=>hd d (by rw[hdf];simp[hd']),hfs⟩ fr w' this
   |nil=>
    simp only[hdf,hm]at hend hgo
    cases hcat:x.catches c.P with
    |true=>
     simp only[hcat,if_true]at hend
     exact (hend trivial).elim
    |false=>
     simp only[hcat,Bool.false_eq_true,if_false]at hgo
     cases fs with
     |nil=>
      simp only[List.nil_append]at hgo
      have h2:=hgo ((trap c.P).raise ch) [] w _ rfl
      cases n with
      |zero=>
       have e:=lone_inj (Stepped.next.inj h2)
       cases e.2.1
      |succ n=>
       unfold runN at h2
       obtain ⟨o,w2,es,e⟩:=(trap_raise c.P ch w).out
       rw[step_end e]at h2
       cases h2
     |cons f fs=>
      simp only[List.cons_append]at hgo
      have h2:=hgo (f.raise ch) (fs++[trap c.P]) w _ rfl
      obtain ⟨⟨ch',r1⟩,r2⟩:=raise_mode f ch
      exact pan_mode n _ w ⟨f.raise ch,fs,ch',rfl,hk,r1,fun d hd'=>hfs f (by simp) d (by rw[r2]at hd';exact hd'),fun f2 hf2=>hfs f2 (by simp[hf2])⟩ fr w' h2
theorem pan_no{c:Cx}(n:Nat)(g:Goroutine)(w:World)(h:Pan c (trap c.P) [] g w)(fr:Frame)(w':World)(hn:runN c.P n { world:=w,gs:=#[g],rest:={ timers:=#[],alone:=none,slice:=none } }=.next (lone fr [trap c.P] w'))(hm:(∀ch,fr.mode≠.panicking ch)):False:=by
 obtain ⟨ch,e⟩:=pan_mode n g w h fr w' hn
 exact hm ch e
def machG (g:Goroutine) (w:World):Machine:={ world:=w,gs:=#[g],rest:={ timers:=#[],alone:=none,slice:=none } }
def TgtG (P:Program) (R:Value→World→Prop) (n:Nat) (g:Goroutine) (w:World):Prop:=
 ∃fr w' v,runN P n (machG g w)=.next (lone fr [trap P] w')∧fr.leaving P w' (.returned v)∧R v w'
theorem app_trap{t:Frame}{fs:List Frame}(h:fs++[t]=[t]):fs=[]:=by
 cases fs with
 |nil=>rfl
 |cons f fs=>simp at h
theorem trap_inj{P:Program}{v v':Value}(h:(trap P).finish v=(trap P).finish v'):v=v':=by
 have e : ∀ u, ((trap P).finish u).todo = [.extern "fmt's door of nobody" #[u]] := fun u => by
  unfold trap Frame.finish
  simp
 have:=congrArg Frame.todo h
 rw[e,e]at this
 simpa using this
theorem first{d:Cx}(hd:∀n,d.lim n)(h02:Ev1 d){R:Value→World→Prop}{n:Nat}{x y:Frame}{fs fs':List Frame}{w W:World}(hf:FrR d x y)(hs:FsR d fs fs')(hr:Rl d w W)(ht:TgtG d.P R n (mkG x (fs++[trap d.P])) w):
  ∃g1 w1 es,stepG d.P true (mkG x (fs++[trap d.P])) w=.go g1 w1 es∧Gw w w1∧¬Pan d (trap d.P) [] g1 w1∧((∃x1 fs1 n1,g1=mkG x1 (fs1++[trap d.P])∧n=n1+1∧TgtG d.P R n1 g1 w1)∨∃v,g1=mkG ((trap d.P).finish v) []∧R v w1):=by
 obtain ⟨fr,w',v,hn,hlv,hR⟩:=ht
 have hn:runN d.P n (lone x (fs++[trap d.P]) w)=.next (lone fr [trap d.P] w'):=hn
 have hg:=goE_step hd h02 (b:=trap d.P) (bs:=[]) hf hs true hr
 cases hst:stepG d.P true (mkG x (fs++[trap d.P])) w with
 |ended o w2 es=>
  exfalso
  cases n with
  |zero=>
   obtain ⟨rfl,e2,rfl⟩:=lone_inj (Stepped.next.inj hn)
   have hfs:=app_trap e2
   subst hfs
   have h1:=step_leave_returned (c:=trap d.P) (cs:=[]) hlv
   have h2:=step_end hst
   simp only[List.nil_append]at h2
   rw[h1]at h2
   cases h2
  |succ n=>
   unfold runN at hn
   rw[step_end hst]at hn
   cases hn
 |go g1 w1 es=>
  rcases step_sim (c:=d) (d:=d) (z:=[trap d.P]) rfl rfl rfl hd h02 h02 hf hs hf hs true true hr.like hr.like hst (hd _) with hp|⟨hz,-⟩|⟨gw,hrest⟩
  ·exfalso
   obtain ⟨x2,fs2,ch,hg1,hk2,hm2,hd2,hfs2⟩:=hp
   cases n with
   |zero=>
    obtain ⟨rfl,e2,rfl⟩:=lone_inj (Stepped.next.inj hn)
    have hfs:=app_trap e2
    subst hfs
    have h1:=step_leave_returned (c:=trap d.P) (cs:=[]) hlv
    rw[hg1]at hst
    have h2:=step_go hst
    simp only[List.nil_append]at h2
    rw[h1]at h2
    have:=(lone_inj (Stepped.next.inj h2)).2.1
    simp at this
   |succ n=>
    unfold runN at hn
    rw[hg1]at hst
    rw[step_go hst]at hn
    exact pan_no n (mkG x2 (fs2++[trap d.P])) w1 ⟨x2,fs2,ch,rfl,hk2,hm2,hd2,hfs2⟩ fr w' hn (fun ch e=>by rw[hlv.1]at e;cases e)
  ·cases hz
  ·obtain ⟨Gl,Wl,esl,-,-,-,hout,-⟩:=hrest (ag_like _ _ _)
   rcases hout with ⟨x1,y1,fs1,fs1',hg1,-,hf1,-⟩|⟨v1,_,_,-,-,hg1,-⟩
   ·have hnp:¬Pan d (trap d.P) [] g1 w1:=by
     rintro ⟨x2,fs2,ch,hg2,-,hm2,-⟩
     rw[hg1]at hg2
     have:x1=x2:=congrArg Goroutine.frame hg2
     subst this
     rcases hf1.run with q|q<;>(rw[q]at hm2;cases hm2)
    refine ⟨g1,w1,es,rfl,gw,hnp,?_⟩
    cases n with
    |zero=>
     exfalso
     obtain ⟨rfl,e2,rfl⟩:=lone_inj (Stepped.next.inj hn)
     have hfs:=app_trap e2
     subst hfs
     have h1:=step_leave_returned (c:=trap d.P) (cs:=[]) hlv
     rw[hg1]at hst
     have h2:=step_go hst
     simp only[List.nil_append]at h2
     rw[h1]at h2
     have:=(lone_inj (Stepped.next.inj h2)).2.1
     simp at this
    |succ n=>
     unfold runN at hn
     have hst':=hst
     rw[hg1]at hst'
     rw[step_go hst']at hn
     exact .inl ⟨x1,fs1,n,hg1,rfl,fr,w',v,by rw[hg1];exact hn,hlv,hR⟩
   ·have hst':=hst
    rw[hg1]at hst'
    have hnp:¬Pan d (trap d.P) [] g1 w1:=by
     rintro ⟨x2,fs2,ch,hg2,-⟩
     rw[hg1]at hg2
     have:=congrArg Goroutine.callers hg2
     simp[mkG]at this
    refine ⟨g1,w1,es,rfl,gw,hnp,.inr ?_⟩
    cases n with
    |zero=>
     obtain ⟨rfl,e2,rfl⟩:=lone_inj (Stepped.next.inj hn)
     have hfs:=app_trap e2
     subst hfs
     have h1:=step_leave_returned (c:=trap d.P) (cs:=[]) hlv
     have h2:=step_go hst'
     simp only[List.nil_append]at h2
     rw[h1]at h2
     have e:=lone_inj (Stepped.next.inj h2)
     have ev:=trap_inj e.1
     exact ⟨v,by rw[hg1,ev],by rw[←e.2.2];exact hR⟩
    |succ n=>
     exfalso
     unfold runN at hn
     rw[step_go hst']at hn
     cases n with
     |zero=>
      have:=(lone_inj (Stepped.next.inj hn)).2.1
      simp at this
     |succ n=>
      unfold runN at hn
      dsimp only at hn
      obtain ⟨o,w2,es2,e⟩:=(trap_back d.P v1 w1).out
      rw[step_end e]at hn
      cases hn
 |_=>rw[hst]at hg;exact hg.elim
def cat {α:Type} (k:Nat) (a σ:Nat→α):Nat→α:=fun i=>if i<k then a i else σ (i - k)
def Less {α:Type} (ρ1 ρ:(Nat→α)→Nat):Prop:=∃k a,∀σ,ρ (cat k a σ)=ρ1 σ+1
def Inv (d:Cx) (R:Value→World→Prop) (ρ:(Nat→Question→Nat)→Nat) (y:Frame) (fs':List Frame) (W:World):Prop:=
 ∀σ:Nat→Question→Nat,∃x fs w,FrR (d.bnd w.heap.size) x y∧FsR (d.bnd w.heap.size) fs fs'∧Rl (d.bnd w.heap.size) w W∧Fut d w∧(∀i q,w.tape (w.drawn+i) q=σ i q)∧TgtG d.P R (ρ σ) (mkG x (fs++[trap d.P])) w
end Go.Proofs.Ytniloklglpchfai
