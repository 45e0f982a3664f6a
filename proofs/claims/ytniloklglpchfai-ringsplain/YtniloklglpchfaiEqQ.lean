/- Blocks of memory numbered otherwise: a step of a frame that runs. No program in sight. -/
import Derived.Test.YtniloklglpchfaiPkEqO
namespace Go.Proofs.Ytniloklglpchfai
open Go
theorem ret_sim{c:Cx}{x y:Frame}{fs fs':List Frame}{b:Frame}{bs z:List Frame}(hz:¬(z=[]∧fs=[]))(hf:FrR c x y)(hs:FsR c fs fs'){v v':Value}(hv:VR c v v')(m m':Bool)(w W:World):
  ∃g G,doReturn c.P m x (fs++b::bs) none v w=.go g w∧doReturn c.P m' y (fs'++z) none v' W=.go G W∧Out c b bs z g G:=by
 have hk:x.kind=.normal:=hf.normal
 have hk':y.kind=.normal:=hf.kind.trans hk
 obtain ⟨rfl,hv⟩:=hv
 cases fs with
 |nil=>
  cases fs' with
  |nil=>
   cases z with
   |nil=>exact absurd ⟨rfl,rfl⟩ hz
   |cons b' bs'=>
   refine ⟨mkG (b.finish v) bs,mkG (b'.finish (rnV c.r v)) bs',?_,?_,.inr ⟨v,b',bs',rfl,hv,rfl,rfl⟩⟩
   ·unfold doReturn;simp only[List.nil_append,hk];rfl
   ·unfold doReturn;simp only[List.nil_append,hk'];rfl
  |cons f fs'=>exact hs.elim
 |cons f fs=>
  cases fs' with
  |nil=>exact hs.elim
  |cons f' fs'=>
   refine ⟨mkG (f.finish v) (fs++b::bs),mkG (f'.finish (rnV c.r v)) (fs'++z),?_,?_,.inl ⟨_,_,fs,fs',rfl,rfl,hs.1.1.finish hs.1.2 ⟨rfl,hv⟩,hs.2⟩⟩
   ·unfold doReturn;simp only[List.cons_append,hk];rfl
   ·unfold doReturn;simp only[List.cons_append,hk'];rfl
theorem ret_here{c:Cx}{x y:Frame}{fs fs':List Frame}{b:Frame}{bs:List Frame}(hf:FrR c x y)(hs:FsR c fs fs')(v:Value)(m:Bool)(w:World):∃g,doReturn c.P m x (fs++b::bs) none v w=.go g w∧(fs=[]→g=mkG (b.finish v) bs):=by
 have hk:x.kind=.normal:=hf.normal
 cases fs with
 |nil=>exact ⟨mkG (b.finish v) bs,by unfold doReturn;simp only[List.nil_append,hk];rfl,fun _=>rfl⟩
 |cons f fs=>exact ⟨mkG (f.finish v) (fs++b::bs),by unfold doReturn;simp only[List.cons_append,hk];rfl,fun e=>by cases e⟩
theorem stay{c d:Cx}{b:Frame}{bs z:List Frame}{fr fr':Frame}{fs fs':List Frame}(h:FrR c fr fr')(hs:FsR c fs fs'){w W:World}(hr:Rl c w W):Stp c d b bs z w W (mkG fr (fs++b::bs)) w (.go (mkG fr' (fs'++z)) W):=
 .inr (.inr ⟨Gw.refl _,fun _=>⟨_,_,_,rfl,hr,(fun e he=>by simp at he),.inl ⟨fr,fr',fs,fs',rfl,rfl,h,hs⟩,rfl,by omega⟩⟩)
theorem FrR.todo2{c:Cx}{x y:Frame}(h:FrR c x y){s:Bool}(hs:s=true→x.roundOf=none){k k':List Item}(hk:∀i,i∈k→ItOk c i)(e:k'=k.map (rnI c.r)++sft c s):FrR c { x with todo:=k++sfh s } { y with todo:=k' }:=by
 subst e
 exact h.goes hs hk
theorem exitTo_app(id:Nat)(s:Bool):∀l:List Item,exitTo id (l++sfh s)=(exitTo id l).map (·++sfh s)
 |[]=>by cases s<;>rfl
 |i::l=>by
  have ih:=exitTo_app id s l
  cases i<;>simp only[List.cons_append,exitTo]<;>first
   |exact ih
   |(split
     ·rfl
     ·exact ih)
theorem exitTo_there{id:Nat}{r:Nat→Nat}{z:List Item}:∀{l k:List Item},exitTo id l=some k→exitTo id (l.map (rnI r)++z)=some (k.map (rnI r)++z)
 |[],k,h=>by cases h
 |i::l,k,h=>by
  have ih:=exitTo_there (id:=id) (r:=r) (z:=z) (l:=l) (k:=k)
  cases i with
  |inBlock n=>
   simp only[List.map_cons,rnI,List.cons_append,exitTo]at h ⊢
   split at h
   ·next q=>rw[if_pos q];cases h;rfl
   ·next q=>rw[if_neg q];exact ih h
  |_=>simp only[List.map_cons,rnI,List.cons_append,exitTo]at h ⊢;exact ih h
theorem gotoIn_app(id:Nat)(s:Bool):∀l:List Item,gotoIn id (l++sfh s)=(gotoIn id l).map (·++sfh s)
 |[]=>by cases s<;>rfl
 |i::l=>by
  have ih:=gotoIn_app id s l
  cases i with
  |inScope b=>
   simp only[List.cons_append,gotoIn]
   cases findLabel b id with
   |none=>exact ih
   |some q=>rfl
  |_=>simp only[List.cons_append,gotoIn];exact ih
theorem gotoIn_there{id:Nat}{r:Nat→Nat}{z:List Item}:∀{l k:List Item},gotoIn id l=some k→gotoIn id (l.map (rnI r)++z)=some (k.map (rnI r)++z)
 |[],k,h=>by cases h
 |i::l,k,h=>by
  have ih:=gotoIn_there (id:=id) (r:=r) (z:=z) (l:=l) (k:=k)
  cases i with
  |inScope b=>
   simp only[List.map_cons,rnI,List.cons_append,gotoIn]at h ⊢
   cases hf:findLabel b id with
   |none=>rw[hf]at h;exact ih h
   |some q=>rw[hf]at h;cases h;rfl
  |_=>simp only[List.map_cons,rnI,List.cons_append,gotoIn]at h ⊢;exact ih h
theorem exitTo_rn(r:Nat→Nat)(id:Nat):∀l:List Item,exitTo id (l.map (rnI r))=(exitTo id l).map (·.map (rnI r))
 |[]=>rfl
 |i::l=>by
  have ih:=exitTo_rn r id l
  cases i<;>simp only[List.map_cons,rnI,exitTo]<;>first
   |exact ih
   |(split
     ·rfl
     ·exact ih)
theorem exitTo_mem(id:Nat):∀(l k:List Item),exitTo id l=some k→∀i,i∈k→i∈l
 |[],k,h=>by cases h
 |i::l,k,h=>by
  have ih:=exitTo_mem id l k
  cases i with
  |inBlock n=>
   simp only[exitTo]at h
   split at h
   ·cases h;exact fun i hi=>by simp[hi]
   ·exact fun i hi=>by simp[ih h i hi]
  |_=>simp only[exitTo]at h;exact fun i hi=>by simp[ih h i hi]
theorem gotoIn_rn(r:Nat→Nat)(id:Nat):∀l:List Item,gotoIn id (l.map (rnI r))=(gotoIn id l).map (·.map (rnI r))
 |[]=>rfl
 |i::l=>by
  have ih:=gotoIn_rn r id l
  cases i with
  |inScope b=>
   simp only[List.map_cons,rnI,gotoIn]
   cases findLabel b id with
   |none=>exact ih
   |some q=>rfl
  |_=>simp only[List.map_cons,rnI,gotoIn];exact ih
theorem gotoIn_ok{c:Cx}(id:Nat):∀(l k:List Item),(∀i,i∈l→ItOk c i)→gotoIn id l=some k→∀i,i∈k→ItOk c i
 |[],k,_,h=>by cases h
 |i::l,k,hl,h=>by
  have ih:=gotoIn_ok id l k (fun j hj=>hl j (by simp[hj]))
  cases i with
  |inScope b=>
   simp only[gotoIn]at h
   cases hf:findLabel b id with
   |none=>rw[hf]at h;exact ih h
   |some q=>
    rw[hf]at h
    cases h
    intro j hj
    rcases List.mem_cons.1 hj with rfl|hj
    ·exact hl (.inScope b) (by simp) id q hf
    ·exact hl j hj
  |_=>simp only[gotoIn]at h;exact ih h
theorem after_go{es e:Array Event}{s:GStep}{g:Goroutine}{w:World}(h:GStep.after es s=.go g w e):∃e',s=.go g w e'∧e=es++e':=by
 cases s with
 |go g' w' e'=>cases h;exact ⟨e',rfl,rfl⟩
 |_=>cases h
theorem mo_apply{P:Program}{d:Cx}{x:Frame}{cs:List Frame}{s:Sem Next}{w w1:World}{g1:Goroutine}{es:Array Event}(ht:∀q w',s.run P w=.halt q w'→tame q)(hn:∀n w',s.run P w=.ok n w'→∃nl,NxR d n nl)(h:stepG.apply P true x cs none s w=.go g1 w1 es):w.heap.size≤w1.heap.size:=by
 have hfst:=Sem.runT_fst P s w #[]
 cases hT:s.runT P w #[] with
 |mk r e0=>
  rw[hT]at hfst
  unfold stepG.apply at h
  simp only[hT,if_true]at h
  cases hrun:s.run P w with
  |halt q w'=>
   have hq:=ht q w' hrun
   rw[hrun]at hfst
   have hfst:r=.halt q w':=hfst
   subst hfst
   cases q with
   |panic v=>cases h;exact (mo_halt hrun).size
   |stuck m=>cases h
   |unsupported u=>
    cases u with
    |initOrder g=>exact hq.elim
    |_=>cases h
   |_=>exact hq.elim
  |ok n w'=>
   rw[hrun]at hfst
   have hfst:r=.ok n w':=hfst
   subst hfst
   have hz:=(mo_ok hrun).size
   obtain ⟨nl,hnl⟩:=hn n w' hrun
   cases n with
   |value v=>cases h;exact hz
   |skip=>cases h;exact hz
   |enter f a=>cases h;exact hz
   |round l f a p q=>cases h;exact hz
   |_=>exact hnl.elim
theorem yielded_rn{c:Cx}{x y:Array Value}(h:VsR c x y)(ops:Array Oper):yielded ops y=yielded ops x:=by
 funext j
 unfold yielded
 cases (ops[j]?).bind (·.dst) with
 |none=>rfl
 |some d=>
  simp only[Option.bind_some]
  rcases h.get d with ⟨h1,h2⟩|⟨v,v',h1,h2,rfl,hok⟩
  ·rw[h1,h2]
  ·rw[h1,h2]
   cases v with
   |func fn p q=>
    have hb:=rn_func_flat hok
    generalize rnV c.r (Value.func fn p q)=u at hb ⊢
    cases u<;>first|exact hb.elim|rfl
   |_=>simp[rnV]
theorem exec_sim{c d:Cx}(hP:d.P=c.P)(hR:d.r=c.r)(hK:d.kt=c.kt)(hd:∀n,d.lim n)(h0:Ev1 c)(h02:Ev1 d){x y:Frame}{fs fs':List Frame}{b:Frame}{bs z:List Frame}(hf:FrR c x y)(hs:FsR c fs fs')(hf2:FrR d x y)(hs2:FsR d fs fs')(hm:x.mode=.run)(m m':Bool){w W:World}(hr:Rl c w W)(hr2:Rl d w W){g1:Goroutine}{w1:World}{es:Array Event}
  (h:stepG.exec c.P m true x (fs++b::bs) none w=.go g1 w1 es) (hl:c.lim w1.heap.size):Stp c d b bs z w W g1 w1 (stepG.exec c.P m' true y (fs'++z) none W):=by
 unfold stepG.exec at h ⊢
 obtain ⟨it,st,t1,t2,hi,hst⟩:=hf.todo
 have hi2:∀i,i∈it→ItOk d i:=by
  obtain ⟨it2,s2,u1,-,u3,-⟩:=hf2.todo
  obtain ⟨rfl,rfl⟩:=td_one (t1.symm.trans u1) hi u3
  exact u3
 rw[t2]
 cases it with
 |nil=>
  cases st with
  |true=>
   have hx:x.todo=[trapI]:=t1
   simp only[hx,trapI]at h
   rw [show Extern.next "fmt's door of nobody" = none by rfl] at h
   cases h
  |false=>
  have hx:x.todo=[]:=t1
  rw[show ([]:List Item).map (rnI c.r)++sft c false=[] from rfl]
  simp only[hx]at h ⊢
  rw[hf.round]
  cases hro:x.roundOf with
  |none=>
   simp only[hro,Option.map_none]at h ⊢
   cases h
   rw[if_pos trivial]
   exact stay (fr:={ x with todo:=[],mode:=.returning,roundOf:=none }) (fr':={ y with todo:=[],mode:=.returning,roundOf:=none }) ⟨hf.fn,hf.f,hf.tmps,⟨[],false,rfl,rfl,(fun i hi=>by simp at hi),fun e=>by cases e⟩,hf.defers,hf.dok,rfl,.inr rfl,hf.kind,hf.normal,rfl,(fun l e=>by cases e)⟩ hs hr
  |some l=>
   simp only[hro,Option.map_some]at h ⊢
   obtain ⟨hok,-⟩:=sm_endRound (hf.rok l hro) none (fun d e=>by cases e) w W hr
   have hfst:=Sem.runT_fst c.P (Instr.endRound l none) w #[]
   cases hT:(Instr.endRound l none).runT c.P w #[] with
   |mk r e0=>
    rw[hT]at hfst
    simp only[hT]at h
    cases hrun:(Instr.endRound l none).run c.P w with
    |halt q w'=>
     rw[hrun]at hfst
     have hfst:r=.halt q w':=hfst
     subst hfst
     cases h
    |ok v w'=>
     rw[hrun]at hfst
     have hfst:r=.ok v w':=hfst
     subst hfst
     obtain ⟨gl,rl,rn⟩:=ret_here (c:=c) (b:=b) (bs:=bs) hf hs (fs:=fs) v m w'
     simp only[rl,GStep.after]at h
     cases h
     obtain ⟨e4,hq⟩:=hok _ _ hrun hl
     by_cases hz:z=[]∧fs=[]
     ·exact .inr (.inl ⟨hz.1,v,rn hz.2⟩)
     refine .inr (.inr ⟨e4,fun hag=>?_⟩)
     obtain ⟨v',W',nw,e1,e2,e3,e5,e6⟩:=hq hag
     obtain ⟨g,G,r1,r2,r3⟩:=ret_sim (b:=b) (bs:=bs) (z:=z) hz hf hs e2 m m' w1 W'
     rw[rl]at r1
     cases r1
     simp only[e1 #[],r2,GStep.after]
     exact ⟨_,_,_,rfl,e3,fun e he=>by
      rw[Array.append_empty]at he
      have:=mem_seen he
      rw[Array.empty_append]at this
      exact e5 e this,r3,e6⟩
 |cons i k=>
  have hx:x.todo=i::(k++sfh st):=t1
  rw[List.map_cons,List.cons_append]at t2 ⊢
  have h12:=hi2 i (by simp)
  have hk:∀j,j∈k→ItOk c j:=fun j hj=>hi j (by simp[hj])
  have h1:=hi i (by simp)
  have hne:x.todo≠[trapI]:=by
   rw[hx]
   exact ne_trap (fun e=>by rw[e]at h1;exact h1)
  cases i with
  |inBlock n=>
   simp only[hx,rnI]at h ⊢
   cases h
   exact stay (hf.goes hst hk) hs hr
  |inScope b=>
   simp only[hx,rnI]at h ⊢
   cases h
   exact stay (hf.goes hst hk) hs hr
  |inLoop q=>
   simp only[hx,rnI]at h ⊢
   cases h
   refine stay (hf.todo2 hst (k:=.code q::.inLoop q::k) (fun j hj=>?_) rfl) hs hr
   rcases List.mem_cons.1 hj with rfl|hj
   ·exact h1
   ·rcases List.mem_cons.1 hj with rfl|hj
    ·exact h1
    ·exact hk j hj
  |inRangeFunc l=>simp only[hx]at h;cases h
  |call d b s v=>exact h1.elim
  |extern s v=>exact h1.elim
  |beginRound=>
   simp only[hx,rnI]at h ⊢
   rw[hf.round]
   refine apply_sim hP hd h0 hf hs hf2 hs2 hm hne ?_ ?_ hr hr2 h hl
   ·cases hro:x.roundOf with
    |none=>exact sm_none (noOk_bind' (noOk_halt _))
    |some l=>exact sm_unit (sm_beginRound (hf.rok l hro))
   ·cases hro:x.roundOf with
    |none=>exact sm_none (noOk_bind' (noOk_halt _))
    |some l=>
     have:=sm_unit (sm_beginRound (c:=d) (hf2.rok l hro))
     rw[hR]at this
     exact this
  |endRangeFunc l=>
   simp only[hx,rnI]at h ⊢
   obtain ⟨hok,-⟩:=sm_endLoop h1 w W hr
   have hha:=(sm_endLoop (c:=d) h12 w W hr2).2
   rw[hP]at hha
   have hfst:=Sem.runT_fst c.P (Instr.endLoop l) w #[]
   cases hT:(Instr.endLoop l).runT c.P w #[] with
   |mk r e0=>
    rw[hT]at hfst
    simp only[hT]at h
    cases hrun:(Instr.endLoop l).run c.P w with
    |halt q w'=>
     have ht:=hha q w' hrun (hd _)
     rw[hrun]at hfst
     have hfst:r=.halt q w':=hfst
     subst hfst
     cases q with
     |panic v=>
      left
      simp only[GStep.after]at h
      cases h
      exact ⟨_,fs,_,rfl,ht.2,by unfold Frame.raise;rw[hm],by unfold Frame.raise;rw[hm];exact hf2.dok,hs2.dok⟩
     |_=>cases h
    |ok j w'=>
     rw[hrun]at hfst
     have hfst:r=.ok j w':=hfst
     subst hfst
     simp only[GStep.after]at h
     cases h
     obtain ⟨e4,hq2⟩:=hok _ _ hrun hl
     refine .inr (.inr ⟨e4,fun hag=>?_⟩)
     obtain ⟨j',W',nw,e1,⟨rfl,e2⟩,e3,e5,e6⟩:=hq2 hag
     simp only[e1 #[],GStep.after]
     refine ⟨_,_,_,rfl,e3,(fun e he=>by
      rw[Array.append_empty]at he
      have:=mem_seen he
      rw[Array.empty_append]at this
      exact e5 e this),.inl ⟨_,_,fs,fs',rfl,rfl,(show FrR c { x with todo:=(j'.map Item.code).toList++(k++sfh st) } { y with todo:=(j'.map Item.code).toList++(k.map (rnI c.r)++sft c st) } by rw[←List.append_assoc];exact hf.todo2 hst (k:=(j'.map Item.code).toList++k) (fun i hi=>(by rcases List.mem_append.1 hi with q|q;(cases j' with|none=>(simp at q)|some d=>(simp at q;rw[q];exact e2 d rfl));exact hk i q)) (by cases j'<;>simp[rnI])),hs⟩,e6⟩
  |inRegion ops l=>
   cases l with
   |nil=>
    simp only[hx,rnI]at h ⊢
    cases h
    exact stay (hf.goes hst hk) hs hr
   |cons n l=>
    simp only[hx,rnI]at h ⊢
    rw[yielded_rn hf.tmps ops]
    split at h
    ·rename_i hq
     rw[if_pos hq]
     unfold stepG.oper Frame.oper? at h ⊢
     rw[t2]
     simp only[hx,rnI]at h ⊢
     cases ho:ops[n]? with
     |none=>simp only[ho]at h;cases h
     |some o=>
      simp only[ho]at h ⊢
      have hok:OpOk c o.op:=h1 o (Array.mem_of_getElem? ho)
      have hsm:Sm c (execOp x.eval o) (execOp y.eval o) (NxR c):=sm_exec h0.toEv0 (fun z hz=>hf.eval z hz) (fun v=>⟨rfl,rfl⟩) o hok
      have hsm2:Sm d (execOp x.eval o) (execOp y.eval o) (NxR d):=sm_exec h02.toEv0 (fun z hz=>hf2.eval z hz) (fun v=>⟨rfl,rfl⟩) o (h12 o (Array.mem_of_getElem? ho))
      rw[hf.round]
      cases hop:o.op with
      |defer k=>rw[hop]at hok;exact hok.2.elim
      |_=>
       cases hro:x.roundOf with
       |none=>simp only[hro,hop,Option.map_none]at h ⊢;exact apply_sim hP hd h0 hf hs hf2 hs2 hm hne hsm hsm2 hr hr2 h hl
       |some l=>simp only[hro,hop,Option.map_some]at h ⊢;exact apply_sim hP hd h0 hf hs hf2 hs2 hm hne hsm hsm2 hr hr2 h hl
    ·rename_i hq
     rw[if_neg hq]
     cases h
     exact stay (hf.finish hne (vr_undef c)) hs hr
  |code q=>
   have hq:=h0.code q h1
   cases q with
   |skip=>
    simp only[hx,rnI]at h ⊢
    cases h
    exact stay (hf.goes hst hk) hs hr
   |label n=>
    simp only[hx,rnI]at h ⊢
    cases h
    exact stay (hf.goes hst hk) hs hr
   |ret=>
    simp only[hx,rnI]at h ⊢
    rw[hf.round]
    cases hro:x.roundOf with
    |none=>
     simp only[hro,Option.map_none]at h ⊢
     cases h
     rw[if_pos trivial]
     exact stay (fr:={ x with todo:=.code .ret::(k++sfh st),mode:=.returning,roundOf:=none }) (fr':={ y with todo:=.code .ret::(k.map (rnI c.r)++sft c st),mode:=.returning,roundOf:=none }) ⟨hf.fn,hf.f,hf.tmps,⟨.code .ret::k,st,rfl,rfl,hi,fun _=>rfl⟩,hf.defers,hf.dok,rfl,.inr rfl,hf.kind,hf.normal,rfl,(fun l e=>by cases e)⟩ hs hr
    |some l=>
     simp only[hro,Option.map_some]at h ⊢
     obtain ⟨hok,-⟩:=sm_endRound (hf.rok l hro) (some .ret) (fun d e=>by cases e;exact h1) w W hr
     have hfst:=Sem.runT_fst c.P (Instr.endRound l (some .ret)) w #[]
     cases hT:(Instr.endRound l (some .ret)).runT c.P w #[] with
     |mk r e0=>
      rw[hT]at hfst
      simp only[hT]at h
      cases hrun:(Instr.endRound l (some .ret)).run c.P w with
      |halt q w'=>
       rw[hrun]at hfst
       have hfst:r=.halt q w':=hfst
       subst hfst
       cases h
      |ok v w'=>
       rw[hrun]at hfst
       have hfst:r=.ok v w':=hfst
       subst hfst
       obtain ⟨gl,rl,rn⟩:=ret_here (c:=c) (b:=b) (bs:=bs) hf hs (fs:=fs) v m w'
       simp only[rl,GStep.after]at h
       cases h
       obtain ⟨e4,hq⟩:=hok _ _ hrun hl
       by_cases hz:z=[]∧fs=[]
       ·exact .inr (.inl ⟨hz.1,v,rn hz.2⟩)
       refine .inr (.inr ⟨e4,fun hag=>?_⟩)
       obtain ⟨v',W',nw,e1,e2,e3,e5,e6⟩:=hq hag
       obtain ⟨g,G,r1,r2,r3⟩:=ret_sim (b:=b) (bs:=bs) (z:=z) hz hf hs e2 m m' w1 W'
       rw[rl]at r1
       cases r1
       simp only[e1 #[],r2,GStep.after]
       exact ⟨_,_,_,rfl,e3,fun e he=>by
        rw[Array.append_empty]at he
        have:=mem_seen he
        rw[Array.empty_append]at this
        exact e5 e this,r3,e6⟩
   |seq p q=>
    simp only[hx,rnI]at h ⊢
    cases h
    refine stay (hf.todo2 hst (k:=.code p::.code q::k) (fun j hj=>?_) rfl) hs hr
    rcases List.mem_cons.1 hj with rfl|hj
    ·exact hq.1
    ·rcases List.mem_cons.1 hj with rfl|hj
     ·exact hq.2
     ·exact hk j hj
   |block n q=>
    simp only[hx,rnI]at h ⊢
    cases h
    refine stay (hf.todo2 hst (k:=.code q::.inBlock n::k) (fun j hj=>?_) rfl) hs hr
    rcases List.mem_cons.1 hj with rfl|hj
    ·exact hq
    ·rcases List.mem_cons.1 hj with rfl|hj
     ·trivial
     ·exact hk j hj
   |loop q=>
    simp only[hx,rnI]at h ⊢
    cases h
    refine stay (hf.todo2 hst (k:=.code q::.inLoop q::k) (fun j hj=>?_) rfl) hs hr
    rcases List.mem_cons.1 hj with rfl|hj
    ·exact hq
    ·rcases List.mem_cons.1 hj with rfl|hj
     ·exact hq
     ·exact hk j hj
   |cond o p q=>
    simp only[hx,rnI]at h ⊢
    obtain ⟨v1,v2⟩:=hf.eval o hq.1
    rw[v1]
    cases hv:x.eval o with
    |bool t=>
     simp only[hv,rnV]at h ⊢
     cases h
     refine stay (hf.todo2 hst (k:=.code (if t then p else q)::k) (fun j hj=>?_) rfl) hs hr
     rcases List.mem_cons.1 hj with rfl|hj
     ·cases t
      ·exact hq.2.2
      ·exact hq.2.1
     ·exact hk j hj
    |_=>simp only[hv]at h;cases h
   |scope q=>
    simp only[hx,rnI]at h ⊢
    cases h
    refine stay (hf.todo2 hst (k:=.code q::.inScope q::k) (fun j hj=>?_) rfl) hs hr
    rcases List.mem_cons.1 hj with rfl|hj
    ·exact hq.1
    ·rcases List.mem_cons.1 hj with rfl|hj
     ·exact hq.2
     ·exact hk j hj
   |goto id=>
    simp only[hx,rnI]at h ⊢
    rw[gotoIn_app]at h
    cases hex:gotoIn id k with
    |some k'=>
     rw[gotoIn_there hex]
     simp only[hex,Option.elim_some,Option.map_some]at h ⊢
     cases h
     exact stay (hf.todo2 hst (k:=k') (fun j hj=>gotoIn_ok id k k' hk hex j hj) rfl) hs hr
    |none=>
     simp only[hex,Option.elim_none,Option.map_none]at h
     by_cases hz:st=true
     ·have hro:=hst hz
      simp only[hro]at h
      cases h
     obtain rfl:st=false:=by simpa using hz
     rw[show gotoIn id (k.map (rnI c.r)++sft c false)=none by rw[show k.map (rnI c.r)++sft c false=k.map (rnI c.r) from List.append_nil _,gotoIn_rn,hex];rfl]
     simp only[Option.elim_none]
     rw[hf.round]
     cases hro:x.roundOf with
     |none=>
      simp only[hro,Option.map_none]at h ⊢
      cases h
     |some l=>
      simp only[hro,Option.map_some]at h ⊢
      obtain ⟨hok,-⟩:=sm_endRound (hf.rok l hro) (some (.goto id)) (fun d e=>by cases e;exact h1) w W hr
      have hfst:=Sem.runT_fst c.P (Instr.endRound l (some (.goto id))) w #[]
      cases hT:(Instr.endRound l (some (.goto id))).runT c.P w #[] with
      |mk r e0=>
       rw[hT]at hfst
       simp only[hT]at h
       cases hrun:(Instr.endRound l (some (.goto id))).run c.P w with
       |halt q w'=>
        rw[hrun]at hfst
        have hfst:r=.halt q w':=hfst
        subst hfst
        cases h
       |ok v w'=>
        rw[hrun]at hfst
        have hfst:r=.ok v w':=hfst
        subst hfst
        obtain ⟨gl,rl,rn⟩:=ret_here (c:=c) (b:=b) (bs:=bs) hf hs (fs:=fs) v m w'
        simp only[rl,GStep.after]at h
        cases h
        obtain ⟨e4,hq⟩:=hok _ _ hrun hl
        by_cases hz:z=[]∧fs=[]
        ·exact .inr (.inl ⟨hz.1,v,rn hz.2⟩)
        refine .inr (.inr ⟨e4,fun hag=>?_⟩)
        obtain ⟨v',W',nw,e1,e2,e3,e5,e6⟩:=hq hag
        obtain ⟨g,G,r1,r2,r3⟩:=ret_sim (b:=b) (bs:=bs) (z:=z) hz hf hs e2 m m' w1 W'
        rw[rl]at r1
        cases r1
        simp only[e1 #[],r2,GStep.after]
        exact ⟨_,_,_,rfl,e3,fun e he=>by
         rw[Array.append_empty]at he
         have:=mem_seen he
         rw[Array.empty_append]at this
         exact e5 e this,r3,e6⟩
   |exit id=>
    simp only[hx,rnI]at h ⊢
    rw[exitTo_app]at h
    cases hex:exitTo id k with
    |some k'=>
     rw[exitTo_there hex]
     simp only[hex,Option.elim_some,Option.map_some]at h ⊢
     cases h
     exact stay (hf.todo2 hst (k:=k') (fun j hj=>hk j (exitTo_mem id k k' hex j hj)) rfl) hs hr
    |none=>
     simp only[hex,Option.elim_none,Option.map_none]at h
     by_cases hz:st=true
     ·have hro:=hst hz
      simp only[hro]at h
      cases h
     obtain rfl:st=false:=by simpa using hz
     rw[show exitTo id (k.map (rnI c.r)++sft c false)=none by rw[show k.map (rnI c.r)++sft c false=k.map (rnI c.r) from List.append_nil _,exitTo_rn,hex];rfl]
     simp only[Option.elim_none]
     rw[hf.round]
     cases hro:x.roundOf with
     |none=>
      simp only[hro,Option.map_none]at h ⊢
      cases h
     |some l=>
      simp only[hro,Option.map_some]at h ⊢
      obtain ⟨hok,-⟩:=sm_endRound (hf.rok l hro) (some (.exit id)) (fun d e=>by cases e;exact h1) w W hr
      have hfst:=Sem.runT_fst c.P (Instr.endRound l (some (.exit id))) w #[]
      cases hT:(Instr.endRound l (some (.exit id))).runT c.P w #[] with
      |mk r e0=>
       rw[hT]at hfst
       simp only[hT]at h
       cases hrun:(Instr.endRound l (some (.exit id))).run c.P w with
       |halt q w'=>
        rw[hrun]at hfst
        have hfst:r=.halt q w':=hfst
        subst hfst
        cases h
       |ok v w'=>
        rw[hrun]at hfst
        have hfst:r=.ok v w':=hfst
        subst hfst
        obtain ⟨gl,rl,rn⟩:=ret_here (c:=c) (b:=b) (bs:=bs) hf hs (fs:=fs) v m w'
        simp only[rl,GStep.after]at h
        cases h
        obtain ⟨e4,hq⟩:=hok _ _ hrun hl
        by_cases hz:z=[]∧fs=[]
        ·exact .inr (.inl ⟨hz.1,v,rn hz.2⟩)
        refine .inr (.inr ⟨e4,fun hag=>?_⟩)
        obtain ⟨v',W',nw,e1,e2,e3,e5,e6⟩:=hq hag
        obtain ⟨g,G,r1,r2,r3⟩:=ret_sim (b:=b) (bs:=bs) (z:=z) hz hf hs e2 m m' w1 W'
        rw[rl]at r1
        cases r1
        simp only[e1 #[],r2,GStep.after]
        exact ⟨_,_,_,rfl,e3,fun e he=>by
         rw[Array.append_empty]at he
         have:=mem_seen he
         rw[Array.empty_append]at this
         exact e5 e this,r3,e6⟩
   |region id ops dr=>
    simp only[hx,rnI]at h ⊢
    have hit:∀l,∀j,j∈(.inRegion ops l::k)→ItOk c j:=fun l j hj=>by
     rcases List.mem_cons.1 hj with rfl|hj
     ·exact hq
     ·exact hk j hj
    cases dr with
    |false=>
     simp only[Bool.not_false,if_true]at h ⊢
     cases h
     exact stay (hf.todo2 hst (hit _) rfl) hs hr
    |true=>
     simp only[Bool.not_true,Bool.false_eq_true,if_false]at h ⊢
     obtain ⟨hok,-⟩:=sm_choose (c:=c) (q:=.order x.fn id) w W hr
     cases hrun:(choose (.order x.fn id)).run c.P w with
     |halt q w'=>rw[hrun]at h;cases h
     |ok t w'=>
      rw[hrun]at h
      cases h
      obtain ⟨e4,hq2⟩:=hok _ _ hrun hl
      refine .inr (.inr ⟨e4,fun hag=>?_⟩)
      obtain ⟨t',W',nw,e1,rfl,e3,e5,e6⟩:=hq2 hag
      have e2:(choose (.order y.fn id)).run c.P W=.ok t W':=by
       have:=Sem.runT_fst c.P (choose (.order x.fn id)) W #[]
       rw[e1]at this
       rw[hf.fn]
       exact this.symm
      rw[e2]
      exact ⟨_,_,_,rfl,e3,(fun e he=>by simp at he),.inl ⟨_,_,fs,fs',rfl,rfl,hf.todo2 hst (hit _) rfl,hs⟩,e6⟩
   |rangeFunc f ps p q=>
    simp only[hx,rnI]at h ⊢
    have hq22:=h02.code _ h12
    obtain ⟨hok,-⟩:=sm_enterLoop x.fn hf.f hf.tmps ps p q hq.2.1 hq.2.2 x.roundOf hf.rok w W hr
    have hfst:=Sem.runT_fst c.P (Instr.enterLoop x.fn x.tmps ps p q x.roundOf) w #[]
    cases hT:(Instr.enterLoop x.fn x.tmps ps p q x.roundOf).runT c.P w #[] with
    |mk r e0=>
     rw[hT]at hfst
     simp only[hT]at h
     cases hrun:(Instr.enterLoop x.fn x.tmps ps p q x.roundOf).run c.P w with
     |halt q w'=>
      rw[hrun]at hfst
      have hfst:r=.halt q w':=hfst
      subst hfst
      cases h
     |ok lm w'=>
      rw[hrun]at hfst
      have hfst:r=.ok lm w':=hfst
      subst hfst
      obtain ⟨es2,h2,rfl⟩:=after_go h
      have hres:∀(z:Frame) (l:Nat),resolve z.eval { callee:=.value f,args:=#[.const (.func (.yield l) #[] #[])],argTypes:=#[] } 0=Deferred.ofValue (z.eval f) #[.func (.yield l) #[] #[]]:=fun z l=>by simp[resolve,Frame.eval]
      have hev:∀z z':Frame,z.tmps=z'.tmps→z.eval f=z'.eval f:=fun z z' e=>by cases f<;>simp[Frame.eval,e]
      have hfv:=hf.eval f hq.1
      obtain ⟨l,mk⟩:=lm
      dsimp only at h2
      obtain ⟨⟨lz,mz⟩,Wz,nz,-,⟨-,z2b,-⟩,z3,-,-⟩:=((sm_enterLoop (c:=d) x.fn hf2.f hf2.tmps ps p q hq22.2.1 hq22.2.2 x.roundOf hf2.rok w _ hr2.like).1 (l,mk) w' (by rw[hP];exact hrun) (hd _)).2 (ag_like _ _ _)
      have hsz:=sm_callV h02.toEv0 (hf2.eval f hq22.1) (x:=#[.func (.yield l) #[] #[]]) (y:=#[.func (.yield (d.r l)) #[] #[]]) ⟨by simp[rnV,rnF,pzOr],fun v hv=>by simp at hv;rw[hv];simp only[okV];exact .inl ⟨trivial,(fun l2 e=>by cases e;exact z2b),(fun x hx=>by simp at hx),(fun x hx=>by simp at hx)⟩⟩
      have htz:=(hsz w' Wz z3).2
      have hnz:=(hsz w' _ z3.like).1
      rw[hP]at htz hnz
      rw[hres,hev { x with todo:=.inRangeFunc l::(k++sfh st),defers:=mk++x.defers } x rfl]at h2
      have hlw:c.lim w'.heap.size:=hr.down _ _ (mo_apply (d:=d) (fun q w'' e=>(htz q w'' e (hd _)).1) (fun n w'' e=>by obtain ⟨nl,-,-,-,q,-⟩:=(hnz n w'' e (hd _)).2 (ag_like _ _ _);exact ⟨nl,q⟩) h2) hl
      obtain ⟨e4,hq2⟩:=hok (l,mk) w' hrun hlw
      -- whatever the answers,both parts fit one another
      have both:∀V,Rl c w V→Rl d w V→Ag w V (w'.drawn - w.drawn)→(∀l' mk' W' nw,(Instr.enterLoop y.fn y.tmps ps p q y.roundOf).runT c.P V #[]=(.ok (l',mk') W',#[]++nw)→l'=c.r l→¬c.ob l→((mk=[]∧mk'=[])∨∃d d',mk=[d]∧mk'=[d']∧DfR c d d')→Rl c w' W'→
        Stp c d b bs z w' W' g1 w1 (stepG.apply c.P true { y with todo:=.inRangeFunc (c.r l)::(k.map (rnI c.r)++sft c st),defers:=mk'++y.defers } (fs'++z) none (do let d←Deferred.ofValue (y.eval f) #[.func (.yield (c.r l)) #[] #[]];invoke d.target d.args) W')):=by
       intro V _ hV2 hagV l' mk' W' nw eV _ e2b e2c e3
       obtain ⟨⟨l2,m2⟩,W2,n2,u1,⟨-,u2b,u2c⟩,u3,-,-⟩:=((sm_enterLoop (c:=d) x.fn hf2.f hf2.tmps ps p q hq22.2.1 hq22.2.2 x.roundOf hf2.rok w V hV2).1 (l,mk) w' (by rw[hP];exact hrun) (hd _)).2 hagV
       have u1:=u1 #[]
       rw[hP,←hf2.round,←hf2.fn,eV]at u1
       have u1:=congrArg Prod.fst u1
       dsimp only at u1
       cases u1
       have hmk:mk'=mk.map (rnD c.r)∧∀d,d∈mk→DfOk c d:=by
        rcases e2c with ⟨rfl,rfl⟩|⟨d,d',rfl,rfl,bb,rfl,rfl,hbb⟩
        ·exact ⟨rfl,fun d hd=>by simp at hd⟩
        ·exact ⟨rfl,fun d hd=>by simp at hd;rw[hd];exact ⟨bb,rfl,hbb⟩⟩
       have hf3:FrR c { x with todo:=.inRangeFunc l::(k++sfh st),defers:=mk++x.defers } { y with todo:=.inRangeFunc (c.r l)::(k.map (rnI c.r)++sft c st),defers:=mk'++y.defers }:=by
        refine ⟨hf.fn,hf.f,hf.tmps,⟨.inRangeFunc l::k,st,rfl,rfl,fun i hi=>?_,hst⟩,?_,fun d hd=>?_,hf.mode,hf.run,hf.kind,hf.normal,hf.round,hf.rok⟩
        ·rcases List.mem_cons.1 hi with rfl|hi
         ·exact e2b
         ·exact hk i hi
        ·show mk'++y.defers=(mk++x.defers).map (rnD c.r)
         rw[List.map_append,hmk.1,hf.defers]
        ·rcases List.mem_append.1 hd with q|q
         ·exact hmk.2 d q
         ·exact hf.dok d q
       have hmk2:mk'=mk.map (rnD d.r)∧∀z,z∈mk→DfOk d z:=by
        rcases u2c with ⟨rfl,rfl⟩|⟨z,z',rfl,rfl,bb,rfl,rfl,hbb⟩
        ·exact ⟨rfl,fun z hz=>by simp at hz⟩
        ·exact ⟨rfl,fun z hz=>by simp at hz;rw[hz];exact ⟨bb,rfl,hbb⟩⟩
       have hk2:∀j,j∈k→ItOk d j:=fun j hj=>hi2 j (by simp[hj])
       have hf22:FrR d { x with todo:=.inRangeFunc l::(k++sfh st),defers:=mk++x.defers } { y with todo:=.inRangeFunc (c.r l)::(k.map (rnI c.r)++sft c st),defers:=mk'++y.defers }:=by
        refine ⟨hf2.fn,hf2.f,hf2.tmps,⟨.inRangeFunc l::k,st,rfl,by unfold sft;rw[hK,hR];rfl,fun i hi=>?_,hst⟩,?_,fun z hz=>?_,hf2.mode,hf2.run,hf2.kind,hf2.normal,hf2.round,hf2.rok⟩
        ·rcases List.mem_cons.1 hi with rfl|hi
         ·exact u2b
         ·exact hk2 i hi
        ·show mk'++y.defers=(mk++x.defers).map (rnD d.r)
         rw[List.map_append,hmk2.1,hf2.defers]
        ·rcases List.mem_append.1 hz with q|q
         ·exact hmk2.2 z q
         ·exact hf2.dok z q
       have hsm2:=sm_callV h02.toEv0 (hf2.eval f hq22.1) (x:=#[.func (.yield l) #[] #[]]) (y:=#[.func (.yield (c.r l)) #[] #[]]) ⟨by rw[←hR];simp[rnV,rnF,pzOr],fun v hv=>by simp at hv;rw[hv];simp only[okV];exact .inl ⟨trivial,(fun l2 e=>by cases e;exact u2b),(fun x hx=>by simp at hx),(fun x hx=>by simp at hx)⟩⟩
       have hsm:=sm_callV h0.toEv0 hfv (x:=#[.func (.yield l) #[] #[]]) (y:=#[.func (.yield (c.r l)) #[] #[]]) ⟨by simp[rnV,rnF,pzOr],fun v hv=>by simp at hv;rw[hv];simp only[okV];exact .inl ⟨trivial,(fun l2 e=>by cases e;exact e2b),(fun x hx=>by simp at hx),(fun x hx=>by simp at hx)⟩⟩
       exact apply_sim (b:=b) (bs:=bs) (z:=z) hP hd h0 hf3 hs hf22 hs2 hm (ne_trap (by simp[trapI])) hsm hsm2 e3 u3 h2 hl
      have eT:∀V l' mk' W' nw,(∀es,(Instr.enterLoop x.fn y.tmps ps p q (x.roundOf.map c.r)).runT c.P V es=(.ok (l',mk') W',es++nw))→(Instr.enterLoop y.fn y.tmps ps p q y.roundOf).runT c.P V #[]=(.ok (l',mk') W',#[]++nw):=fun V l' mk' W' nw e=>by rw[hf.fn,hf.round];exact e #[]
      -- here,by the answers that come here
      obtain ⟨⟨ll,ml⟩,Wl,nl,el1,⟨el2,el2b,el2c⟩,el3,-,-⟩:=((sm_enterLoop x.fn hf.f hf.tmps ps p q hq.2.1 hq.2.2 x.roundOf hf.rok w _ hr.like).1 (l,mk) w' hrun hlw).2 (ag_like _ _ _)
      by_cases hpan:Pan d b bs g1 w1
      ·exact .inl hpan
      by_cases hret:z=[]∧∃v,g1=mkG (b.finish v) bs
      ·exact .inr (.inl hret)
      rcases both _ hr.like hr2.like (ag_like _ _ _) ll ml Wl nl (eT _ _ _ _ _ el1) el2 el2b el2c el3 with q|q|⟨e7,-⟩
      ·exact .inl q
      ·exact absurd q hret
      ·refine .inr (.inr ⟨e4.trans e7,fun hag=>?_⟩)
       obtain ⟨⟨l',mk'⟩,W',nw,e1,⟨e2,e2b,e2c⟩,e3,e5,e6⟩:=hq2 (fun i q hi=>hag i q (by have:=e4.drawn;have:=e7.drawn;omega))
       rcases both W hr hr2 (fun i q hi=>hag i q (by have:=e4.drawn;have:=e7.drawn;omega)) l' mk' W' nw (eT _ _ _ _ _ e1) e2 e2b e2c e3 with q|q|⟨-,r⟩
       ·exact absurd q hpan
       ·exact absurd q hret
       ·obtain ⟨G1,W1,es3,r1,r2,r4,r5,r6⟩:=r (fun i q hi=>by
         have d1:=e4.drawn
         have:=hag (w'.drawn - w.drawn+i) q (by have:=e7.drawn;omega)
         rw[show w.drawn+(w'.drawn - w.drawn+i)=w'.drawn+i by omega]at this
         rw[e4.tape,e6.1,e6.2,this]
         congr 1
         omega)
        cases e2
        simp only[eT _ _ _ _ _ e1]
        refine ⟨G1,W1,seen c.P x.fn (#[]++nw)++es3,?_,r2,fun e he=>?_,r5,e6.trans r6 e4.drawn e7.drawn⟩
        ·rw[hres,hev { y with todo:=.inRangeFunc (c.r l)::(k.map (rnI c.r)++sft c st),defers:=mk'++y.defers } y rfl,r1,hf.fn]
         rfl
        ·rcases Array.mem_append.1 he with q|q
         ·have:=mem_seen q
          rw[Array.empty_append]at this
          exact (e5 e this).grown e7
         ·exact r4 e q
   |refuse s=>exact hq.elim
end Go.Proofs.Ytniloklglpchfai
