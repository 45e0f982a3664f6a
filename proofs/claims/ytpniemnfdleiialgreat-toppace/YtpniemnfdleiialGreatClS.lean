/- A table of times that grows in memory: a list of lists of spans, each in a block of its own. -/
import Derived.Test.YtpniemnfdleiialGreatPkClG
namespace Go.Proofs.YtpniemnfdleiialGreat
open Go.RowKit
def OwnS (w:World) (base:Nat) (v:Value) (l:List (Int×Int)):Prop:=w.ownsRow base 109 2 v l.length (cellsA l)
theorem OwnS.nil(w:World)(base:Nat):OwnS w base (.slice none 0 0) []:=World.ownsRow_nil _ _ _ _
theorem OwnS.isActs{w:World}{base:Nat}{v:Value}{l:List (Int×Int)}(h:OwnS w base v l):IsActs w v l:=by
 have hc:=fun g e=>World.ownsRow.cells h (g:=g) e
 obtain ⟨h1,h2⟩:=h
 rcases h2 with ⟨rfl,e⟩|⟨g,cap,cur,rfl,_,_,h3,h4,_,_⟩
 ·obtain rfl:l=[]:=List.eq_nil_of_length_eq_zero e
  exact IsActs.nil w
 ·refine ⟨some ⟨g,0,none⟩,cap,rfl,h3,h4,.inr ⟨g,0,rfl,fun i x hx=>?_⟩⟩
  obtain ⟨q1,q2⟩:=cellsA_at hx
  have c1:=hc g rfl _ _ q1
  have c2:=hc g rfl _ _ q2
  rw[Addr.add_lit]at c1 c2
  exact ⟨c1,by rw[Nat.add_assoc];exact c2⟩
theorem OwnS.shape{w:World}{base:Nat}{v:Value}{l:List (Int×Int)}(h:OwnS w base v l):∃a k,v=.slice a l.length k:=h.isActs.shape
structure SpT (w:World) (base ob:Nat) (vs:List Value) (T:List (List (Int×Int))):Prop where
 len:vs.length=T.length
 row:w.heap[ob]?=some (.cells vs.toArray 98 (0,0))
 lo:base≤ob
 own:∀(s:Nat) (v:Value),vs[s]?=some v→OwnS w base v (stA T s)
 off:∀(s:Nat) (v:Value),vs[s]?=some v→v.ownBlock≠some ob
 dif:∀(s t:Nat) (v u:Value),s≠t→vs[s]?=some v→vs[t]?=some u→v.ownBlock=none∨v.ownBlock≠u.ownBlock
theorem SpT.lt{w:World}{base ob:Nat}{vs:List Value}{T:List (List (Int×Int))}(h:SpT w base ob vs T):ob<w.heap.size:=(Array.getElem?_eq_some_iff.1 h.row).1
theorem SpT.cell{w:World}{base ob:Nat}{vs:List Value}{T:List (List (Int×Int))}(h:SpT w base ob vs T){s:Nat}{v:Value}(hv:vs[s]?=some v):w.cell? ⟨ob,s,none⟩=some v:=by
 rw[Joins.cell_of_block h.row];simpa using hv
theorem SpT.grown{w w':World}{base ob:Nat}{vs:List Value}{T:List (List (Int×Int))}{B:Option Nat}(h:SpT w base ob vs T)(hg:w.grownBy w' B)(h1:B≠some ob)(h2:∀(s:Nat) (v:Value),vs[s]?=some v→v.ownBlock=none∨v.ownBlock≠B):SpT w' base ob vs T:=
 ⟨h.len,by rw[hg.block ob h.lt (fun e=>h1 e.symm)];exact h.row,h.lo,fun s v hv=>World.ownsRow.kept (row:=B) (h.own s v hv) hg (h2 s v hv),h.off,h.dif⟩
theorem SpT.u_{w w':World}{base ob:Nat}{vs:List Value}{T:List (List (Int×Int))}(h:SpT w base ob vs T)(hb:Below w.heap.size w w'):SpT w' base ob vs T:=
 h.grown (grow_of hb none) (by simp) (fun s v _=>by
  cases e:v.ownBlock with
  |none=>exact .inl rfl
  |some k=>exact .inr (by simp))
theorem OwnS.not_map{w:World}{base b:Nat}{v:Value}{l:List (Int×Int)}(h:OwnS w base v l){es:Array MapEntry}{c:Nat}(hb:w.heap[b]?=some (.map es c)):v.ownBlock=none∨v.ownBlock≠some b:=by
 obtain ⟨_,h2⟩:=h
 rcases h2 with ⟨rfl,_⟩|⟨g,cap,cur,rfl,_,hg,_⟩
 ·exact .inl rfl
 ·right
  intro e
  have e:g=b:=Option.some.inj e
  rw[e,hb]at hg
  cases hg
theorem SpT.map{w w':World}{base ob b:Nat}{vs:List Value}{T:List (List (Int×Int))}{M:List ((Int×Int×Int)×Int)}(h:SpT w base ob vs T)(hm:Ends w b M)(hg:w.grownBy w' (some b)):SpT w' base ob vs T:=by
 obtain ⟨es,c,hb,_⟩:=hm
 refine h.grown hg (fun e=>?_) (fun s v hv=>(h.own s v hv).not_map hb)
 have e:b=ob:=Option.some.inj e
 have hr:=h.row
 rw[←e,hb]at hr
 cases hr
theorem grownBy_set(W:World)(b q:Nat)(v:Value):W.grownBy (W.setCell ⟨b,q,none⟩ v) (some b):=
 ⟨rfl,rfl,rfl,by simp[World.setCell],fun k _ hk=>Below.heap_setCell _ _ _ k (fun e=>hk (by rw[e]))⟩
theorem SpT.isPlan{w:World}{base ob:Nat}{vs:List Value}{T:List (List (Int×Int))}(h:SpT w base ob vs T)(hl:T.length≤1000):IsPlan w (.slice (some ⟨ob,0,none⟩) T.length T.length) T:=by
 refine ⟨some ⟨ob,0,none⟩,T.length,rfl,Nat.le_refl _,by unfold maxLen;omega,.inr ⟨ob,0,rfl,fun i l hi=>?_⟩⟩
 have hlt:i<vs.length:=by rw[h.len];exact (List.getElem?_eq_some_iff.1 hi).1
 have hv:vs[i]?=some vs[i]:=List.getElem?_eq_getElem hlt
 refine ⟨vs[i],by rw[Nat.zero_add];exact h.cell hv,?_⟩
 have:=(h.own i _ hv).isActs
 rw[stA_at hi]at this
 exact this
theorem SpT.push{w w':World}{base ob t:Nat}{vs:List Value}{T:List (List (Int×Int))}{v v':Value}{x:Int×Int}(h:SpT w base ob vs T)(hv:vs[t]?=some v)(hown:w'.ownsRow base 109 2 v' ((stA T t).length+1) (cellsA (stA T t)++[.int .i64 x.1,.int .i64 x.2]))(hg:w.grownBy w' v.ownBlock)(hwh:v'.ownBlock=v.ownBlock∨v'.ownBlock=some w.heap.size):
  SpT (w'.setCell ⟨ob,t,none⟩ v') base ob (vs.set t v') (pushT T t x):=by
 have htl:t<vs.length:=(List.getElem?_eq_some_iff.1 hv).1
 have htT:t<T.length:=by rw[←h.len];exact htl
 have hoff:=h.off t v hv
 have hob:w'.heap[ob]?=some (.cells vs.toArray 98 (0,0)):=by rw[hg.block ob h.lt (fun e=>hoff e.symm)];exact h.row
 have hlt:=h.lt
 have hoff':v'.ownBlock≠some ob:=by
  rcases hwh with e|e
  ·rw[e];exact hoff
  ·rw[e];intro c;have:=Option.some.inj c;omega
 have hset:=grownBy_set w' ob t v'
 have hold:∀(s:Nat) (u:Value),s≠t→vs[s]?=some u→u.ownBlock=none∨u.ownBlock≠v.ownBlock:=fun s u hne hu=>h.dif s t u v hne hu hv
 have hin:∀(s:Nat) (u:Value) (k:Nat),vs[s]?=some u→u.ownBlock=some k→k<w.heap.size:=fun s u k hu hk=>(World.ownsRow.lt (h.own s u hu) k hk).2
 have hdif:∀(s:Nat) (u:Value),s≠t→vs[s]?=some u→u.ownBlock=none∨u.ownBlock≠v'.ownBlock:=fun s u hne hu=>by
  rcases hold s u hne hu with q|q
  ·exact .inl q
  ·rcases hwh with e|e
   ·rw[e];exact .inr q
   ·right
    rw[e]
    intro c
    have:=hin s u _ hu c
    omega
 refine ⟨by simp[h.len,pushT_len],?_,h.lo,fun s u hu=>?_,fun s u hu=>?_,fun s s' u u' hne hu hu'=>?_⟩
 ·rw[Joins.block_setCell hob]
  congr 2
  rw[←Array.toList_inj]
  simp
 ·rw[pushT_st htT]
  by_cases c:s=t
  ·subst c
   rw[if_pos rfl]
   rw[List.getElem?_set_self htl]at hu
   obtain rfl:=Option.some.inj hu
   unfold OwnS
   rw[List.length_append,cellsA_snoc]
   exact World.ownsRow.kept (row:=some ob) hown hset (.inr hoff')
  ·rw[if_neg c]
   rw[List.getElem?_set_ne (fun e=>c e.symm)]at hu
   have h1:=World.ownsRow.kept (row:=v.ownBlock) (h.own s u hu) hg (hold s u c hu)
   exact World.ownsRow.kept (row:=some ob) h1 hset (.inr (h.off s u hu))
 ·by_cases c:s=t
  ·subst c
   rw[List.getElem?_set_self htl]at hu
   obtain rfl:=Option.some.inj hu
   exact hoff'
  ·rw[List.getElem?_set_ne (fun e=>c e.symm)]at hu
   exact h.off s u hu
 ·by_cases c:s=t
  ·subst c
   rw[List.getElem?_set_self htl]at hu
   obtain rfl:=Option.some.inj hu
   rw[List.getElem?_set_ne hne]at hu'
   rcases hdif s' u' (fun e=>hne e.symm) hu' with q|q
   ·cases e:v'.ownBlock with
    |none=>exact .inl rfl
    |some k=>right;rw[q];simp
   ·exact .inr (fun e=>q e.symm)
  ·rw[List.getElem?_set_ne (fun e=>c e.symm)]at hu
   by_cases d:s'=t
   ·subst d
    rw[List.getElem?_set_self htl]at hu'
    obtain rfl:=Option.some.inj hu'
    exact hdif s u c hu
   ·rw[List.getElem?_set_ne (fun e=>d e.symm)]at hu'
    exact h.dif s s' u u' hne hu hu'
theorem app_span{w:World}{ops:Array Oper}{rest:List Oper}{o:Oper}{a:Act}{Q:Exit→Act→World→Prop}(hgd:o.guard=none)(s x:Operand)
  (ho:o.op=.call { callee:=.builtin .append,args:=#[s,x],argTypes:=#[98,98] }) (base ob t:Nat) (v:Value) (vs:List Value) (T:List (List (Int×Int))) (x1 x2:Int) (hs:a.eval s=v) (hsp:SpT w base ob vs T) (hv:vs[t]?=some v) (hx:a.eval x=.slice (some ⟨w.heap.size,0,none⟩) 1 1)
  (hsm:(stA T t).length≤1000) (hbase:base≤w.heap.size)
  (h:∀v' w',SpT (w'.setCell ⟨ob,t,none⟩ v') base ob (vs.set t v') (pushT T t (x1,x2))→w'.cell? ⟨ob,t,none⟩=some v→w'.frozen? ⟨ob,t,none⟩=false→(∀b M,Ends w b M→Ends (w'.setCell ⟨ob,t,none⟩ v') b M)→(∀w0:World,Below w0.heap.size w0 w→w0.heap.size≤base→Below w0.heap.size w0 (w'.setCell ⟨ob,t,none⟩ v'))→wpList Tryz.prog ops Q rest (a.put o.dst v') w'):wpList Tryz.prog ops Q (o::rest) a (w.alloc (.cells #[.int .i64 x1,.int .i64 x2] 109)):=by
 obtain ⟨e0,ei,hz0,hz1,hz2⟩:=info_parts infoSpan
 have hb1:=o_ w (.cells #[.int .i64 x1,.int .i64 x2] 109)
 have hsp1:=hsp.u_ hb1
 have hown:=hsp1.own t v hv
 refine wpList_append_wh hgd s x 98 ho base 109 e0 (.agg #[.int .i64 0,.int .i64 0]) 2 16 Tryz.underlying98 ei hz0 hz1 hz2 rfl (by decide) v _ _ hs hown ⟨w.heap.size,0,none⟩ 1 1 [.int .i64 x1,.int .i64 x2] hx rfl ?_ ?_ (by unfold maxLen;omega) (by omega) (by rw[World.size_alloc];omega) ?_
 ·intro j u hj
  match j,hj with
  |0,hj=>simp at hj;subst hj;simp[Addr.add]
  |1,hj=>simp at hj;subst hj;simp[Addr.add]
 ·intro u hu;simp at hu;rcases hu with rfl|rfl<;>rfl
 ·intro v' w' ho' hg hwh
  have hoff:=hsp1.off t v hv
  have hob:w'.heap[ob]?=some (.cells vs.toArray 98 (0,0)):=by rw[hg.block ob hsp1.lt (fun e=>hoff e.symm)];exact hsp1.row
  refine h v' w' (hsp1.push (x:=(x1,x2)) hv ho' hg hwh) (by rw[Joins.cell_of_block hob];simpa using hv) (Joins.unfrozen_of_block hob t) (fun b M hm=>?_) (fun w0 hb hle=>?_)
  ·have hm1:=hm.u_ hb1
   obtain ⟨es,c,hbm,_⟩:=id hm1
   have hm2:=hm1.grown hg (fun e=>by
    rcases hown.not_map hbm with q|q
    ·rw[q]at e;cases e
    ·exact q e.symm)
   refine hm2.grown (grownBy_set w' ob t v') (fun e=>?_)
   have e:b=ob:=Option.some.inj e
   obtain ⟨es',c',hbm',_⟩:=hm2
   rw[e,hob]at hbm'
   cases hbm'
  ·exact ((below_go hb hb1).grown hg (Nat.le_trans hb.size hb1.size) (fun k hk=>Nat.le_trans hle (World.ownsRow.lt hown k hk).1)).setCell (Nat.le_trans hle hsp.lo) _
theorem madeS(n:Nat):madeCells (Value.slice none 0 0).cells (n*1)=(List.replicate n (Value.slice none 0 0)).toArray:=by
 apply Array.ext'
 show (madeCells _ _).toList=List.replicate n (Value.slice none 0 0)
 refine List.eq_replicate_iff.2 ⟨by rw[Array.length_toList,size_madeCells];omega,fun x hx=>?_⟩
 unfold madeCells at hx
 rw[Array.toList_map,List.mem_map]at hx
 obtain ⟨i,_,rfl⟩:=hx
 show (#[Value.slice none 0 0][i % 1]!)=_
 rw[Nat.mod_one]
 rfl
theorem SpT.made(w:World)(n:Nat):SpT (w.alloc (.cells (List.replicate n (Value.slice none 0 0)).toArray 98)) w.heap.size w.heap.size (List.replicate n (Value.slice none 0 0)) (nilT n):=by
 have hnil:∀(s:Nat) (v:Value),(List.replicate n (Value.slice none 0 0))[s]?=some v→v=.slice none 0 0:=fun s v h=>(List.mem_replicate.1 (List.mem_of_getElem? h)).2
 refine ⟨by simp[nilT],heap_alloc_new w _,Nat.le_refl _,fun s v hv=>?_,fun s v hv=>?_,fun s t v u _ hv _=>?_⟩
 ·rw[hnil s v hv,nilT_st];exact OwnS.nil _ _
 ·rw[hnil s v hv];exact fun e=>by cases e
 ·rw[hnil s v hv];exact .inl rfl
theorem run_mkt(L:Int)(n:Nat)(hL:L=(n:Int))(hn:n≤1000)(W:World):(Instr.makeSlice 54 (.int .i64 L) (.int .i64 L)).run Tryz.prog W=.ok (.slice (some ⟨W.heap.size,0,none⟩) n n) (W.alloc (.cells (List.replicate n (Value.slice none 0 0)).toArray 98)):=by
 obtain ⟨i0,hi0,hz0,hz1,hz2⟩:=info_parts infoSpans
 subst hL
 have hr:=run_make (P:=Tryz.prog) W 54 98 i0 (.slice none 0 0) Tryz.underlying54 hi0 hz0 .i64 .i64 (n:Int) (n:Int) (by omega) (by omega) (by rw[hz2];omega) (by omega)
 rw[←madeS]
 simpa [hz1] using hr
end Go.Proofs.YtpniemnfdleiialGreat
