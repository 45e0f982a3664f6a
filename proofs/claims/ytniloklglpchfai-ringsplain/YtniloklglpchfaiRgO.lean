/- A ring's worker: it adds, it copies, it hands on, in company. -/
import Derived.Test.YtniloklglpchfaiPkRgM
import Derived.Laws.IdiomCopy
import Derived.Laws.CopyRow
namespace Go.Proofs.Ytniloklglpchfai
open Go Go.RowKit Go.Conc
theorem setCells_block(b:Nat):∀(vs:List Value) (o:Nat) (l:List Value) (w:World) (t:TypeId) (z:Nat×Nat),w.heap[b]?=some (.cells l.toArray t z)→o+vs.length≤l.length→(w.setCells b o vs).heap[b]?=some (.cells (l.take o++vs++l.drop (o+vs.length)).toArray t z)
 |[],o,l,w,t,z,h,_=>by simpa [World.setCells] using h
 |v::r,o,l,w,t,z,h,hl=>by
  have h1:=Joins.block_setCell (i:=o) h v
  rw[List.setIfInBounds_toArray]at h1
  have:=setCells_block b r (o+1) (l.set o v) (w.setCell ⟨b,o,none⟩ v) t z h1 (by simp at hl ⊢;omega)
  unfold World.setCells
  rw[this,list_seg_step l o v r (by simpa using hl)]
  rfl
theorem setCells_other(b:Nat):∀(vs:List Value) (o:Nat) (w:World) (B:Nat),B≠b→(w.setCells b o vs).heap[B]?=w.heap[B]?
 |[],_,_,_,_=>rfl
 |v::r,o,w,B,h=>by
  unfold World.setCells
  rw[setCells_other b r (o+1) _ B h]
  exact Below.heap_setCell w _ v B h
theorem not_frozen{w:World}{b:Nat}{cs:Array Value}{t:TypeId}{z:Nat×Nat}(h:w.heap[b]?=some (.cells cs t z))(hz:z.2≤z.1)(i:Nat):w.frozen? ⟨b,i,none⟩=false:=by
 obtain ⟨lo,hi⟩:=z
 unfold World.frozen?
 simp only[h]
 have hz:hi≤lo:=hz
 by_cases q:lo≤i
 ·simp[q];omega
 ·simp[q]
def layT (ts xs:List Int) (s e:Nat):List Int:=ts.take s++xs++ts.drop e
theorem layT_len{ts xs:List Int}{s e:Nat}(h1:s≤e)(h2:e≤ts.length)(h3:xs.length=e - s):(layT ts xs s e).length=ts.length:=by
 unfold layT
 simp
 omega
section
variable {Goal:Stand} {n:Nat} {b:Frame} {a:Act} {k:List Item} {cs:List Frame} {W:World} {kn ow:Nat→Prop} {m:Nat} {f:Nat→Value} {x:Wkr} {ts:List Int} {L:Option Nat} {v:Value} {xs:List Int}
variable {ops:Array Oper} {i d:Nat} {rest:List Nat} {o:Oper} {ats:Array TypeId}
theorem wk_add(hok:x.Ok)(M:x.Mem W ts)(hL:Lst W L v xs)(hoff:x.Off L)(hl:∀B,kn B→B<W.heap.size)(hk1:∀B,x.kl L B→kn B)(ho1:∀B,x.ol L B→ow B)(hs:Slots a m f){p q y:Nat}{pv:Value}(ho:ops[i]?=some o)(hdst:o.dst=some d)(hd:d<m)(hw:∀t,Region.wanted o (yielded ops t)=true)(hk:b.kind≠.early)(hop:o.op=.call { callee:=.value (.func 20),args:=#[.tmp p,.tmp q],argTypes:=ats })
  (e1:f p=v) (e2:f q=pv) (hpv:PcO x y pv) (hy:y<x.c) (hlen:xs.length=(pcL x.n x.c y x.own).length)
  (hp:∀W' kn2 ow2,After x ts L v (List.zipWith ad xs (pcL x.n x.c y x.own)) W' kn2 ow2→∀a',Slots a' m (upF f d (.tuple #[]))→∃ρ',Path (mkE Try.prog rgF rgF) Goal n ρ' (G (b.at a' (.inRegion ops rest::k)) cs) W' kn2 ow2):
  ∃ρ,Path (mkE Try.prog rgF rgF) Goal (n+2) ρ (G (b.at a (.inRegion ops (i::rest)::k)) cs) W kn ow:=by
 have hplen:=pcL_len hok.c6 hy hok.len
 have hin:=stN_in (n:=x.n) hok.c6 hy
 have hn:=hok.n60
 have hgeo:=M.geoL hok hL
 have hzl:(List.zipWith ad xs (pcL x.n x.c y x.own)).length=xs.length:=by simp[hlen]
 have hpI:∀w0,Alone W (x.kl L) (x.ol L) x.ch w0→I_ w0 pv (pcL x.n x.c y x.own):=fun w0 h0=>by
  obtain ⟨a,cap,q1,q2,q3,q4⟩:=hpv.ints M hok hy
  refine ⟨a,cap,q1,q2,q3,q4.imp id ?_⟩
  rintro ⟨B,off,q5,q6⟩
  exact ⟨B,off,q5,fun j w hj=>h0.cell (q6 j w hj) trivial⟩
 refine path_call rg_env hl hk1 ho1 hgeo (M.rdyL hL) hs #[v,pv] ho hdst hd hw hk hop (by decide) Try.func20 rfl rfl (fun a h=>?_) (fun u hv=>?_) (R:=fun u w=>u=.tuple #[]∧∃w0,Alone W (x.kl L) (x.ol L) x.ch w0∧w.heap.size=w0.heap.size∧(∀B,¬lsB L B→w.heap[B]?=w0.heap[B]?)∧∀(B cap:Nat) (more:List Int) (z:Nat×Nat),L=some B→W.heap[B]?=some (.cells ((xs++more).map (Value.int .i64)).toArray 3 z)→∃z':Nat×Nat,z'.2≤z'.1∧w.heap[B]?=some (.cells ((List.zipWith ad xs (pcL x.n x.c y x.own)++more).map (Value.int .i64)).toArray 3 z')) (fun w0 h0=>?_) fun r V W' w u h1 h2 h3 a' hs'=>?_
 ·have q1:=(h p).trans e1
  have q2:=(h q).trans e2
  simp[Act.eval,q1,q2,-Array.getD_eq_getD_getElem?]
 ·simp only[List.mem_toArray,List.mem_cons,List.not_mem_nil,or_false]at hv
  rcases hv with rfl|rfl
  ·exact hL.kv fun _=>.inr
  ·exact hpv.kv fun _=>.inl
 ·have hI:=hpI w0 h0
  rcases hL with ⟨eL,ev,ex⟩|⟨B,cap,more,z,eL,ev,hc1,hc2,hB,hz,hg⟩
  ·obtain ⟨pa,pcap,epv,-⟩:=hI
   have h00:(pcL x.n x.c y x.own).length=0:=by rw[←hlen,ex];rfl
   rw[h00]at epv
   rw[epv]
   refine (addto_none v pa pcap w0).mono ?_
   rintro e w' ⟨rfl,rfl⟩
   exact ⟨_,rfl,rfl,w',h0,rfl,fun _ _=>rfl,fun B cap more z q _=>by rw[eL]at q;cases q⟩
  ·subst ev
   have hR:RowR w0 B xs (more.map (Value.int .i64)):=⟨z,hz,by rw[h0.own (show x.ol L B from .inr eL),hB,List.map_append]⟩
   refine (addto_any B cap xs (pcL x.n x.c y x.own) (more.map (Value.int .i64)) pv w0 hR hI hlen (fun a n k e q=>?_) (by omega)).mono ?_
   ·have:=hpv.at_ e
    exact hoff B eL (.inr (.inr (by rw[this,q])))
   ·rintro e w' ⟨rfl,⟨z',hz',q1⟩,q2⟩
    refine ⟨_,rfl,rfl,w0,h0,q2.size,fun B' hB'=>q2.block B' fun q=>hB' (by rw[q];exact eL),fun B' cap' more' z1 q hB'=>?_⟩
    rw[eL]at q
    obtain rfl:=Option.some.inj q
    rw[hB]at hB'
    injection hB' with hB'
    injection hB' with q3 q4 q5
    have q3:((xs++more).map (Value.int .i64))=((xs++more').map (Value.int .i64)):=by simpa using q3
    have q6:more.map (Value.int .i64)=more'.map (Value.int .i64):=by
     rw[List.map_append,List.map_append]at q3
     exact List.append_cancel_left q3
    exact ⟨z',hz',by rw[q1,q6,List.map_append]⟩
 ·obtain ⟨rfl,w0,h0,hsz,hq,hLw⟩:=h3
  have hgr:W.heap.size≤W'.heap.size:=h1.grew (by have:=h0.size;omega)
  have hnl:∀B,x.k0 B→¬lsB L B:=fun B hB q=>hoff B q hB
  have hho:∀B,x.k0 B→HoldB (x.o0 B) W W' B:=fun B hB cs e z hW=>by
   obtain ⟨z',g1,g2,g3⟩:=h1.hold1 hgeo h0 (.inl hB) (M.kvL hL (.inl hB)) (hq B (hnl B hB)) cs e z hW
   exact ⟨z',g1,fun q=>g2 (.inl q),fun q i q1 q2=>g3 (fun q3=>q3.elim q (hnl B hB)) i q1 q2⟩
  have hM':=M.calm hgr hok hho
  have hL':Lst W' L v (List.zipWith ad xs (pcL x.n x.c y x.own)):=by
   rcases hL with ⟨eL,ev,ex⟩|⟨B,cap,more,z,eL,ev,hc1,hc2,hB,hz,hg⟩
   ·exact .inl ⟨eL,ev,by rw[ex];rfl⟩
   ·obtain ⟨z',hz',q1⟩:=hLw B cap more z eL hB
    obtain ⟨z2,g1,g2⟩:=h1.keeps hgeo.knl hgeo.chl (.inr eL) q1 (fun u hu=>by
     simp only[List.mem_toArray,List.mem_map]at hu
     obtain ⟨y,-,rfl⟩:=hu
     trivial)
    exact .inr ⟨B,cap,more,z2,eL,by rw[hzl];exact ev,by rw[hzl];exact hc1,hc2,g1,rng_empty g2 hz',hg⟩
  have hs2:Slots a' m (upF f d (.tuple #[])):=by simpa [rnV] using hs'
  refine hp W' _ _ ⟨hM',hL',fun B q=>q.1,fun B hB=>⟨?_,B,.inr hB,h1.old B (hgeo.knl B hB)⟩,fun B hB=>⟨?_,B,.inr hB,h1.old B (hgeo.knl B (hgeo.owk B hB))⟩⟩ a' hs2
  ·exact hB.elim (hM'.k_lt B) (hL'.lt B)
  ·exact (hgeo.owk B hB).elim (hM'.k_lt B) (hL'.lt B)
theorem wk_copy(hok:x.Ok)(M:x.Mem W ts)(hL:Lst W L v xs)(hoff:x.Off L)(hs:Slots a m f){p q y:Nat}(ho:ops[i]?=some o)(hdst:o.dst=some d)(hd:d<m)(hw:∀t,Region.wanted o (yielded ops t)=true)(hk:b.kind≠.early)(hop:o.op=.call { callee:=.builtin .copy,args:=#[.tmp p,.tmp q],argTypes:=#[27,27] })(hopB:opB Try.prog rgF.contains o.op=true)
  (e1:f p=cutV x.T 0 x.n (stN x.n x.c y) (stN x.n x.c (y+1))) (e2:f q=v) (hy:y<x.c) (hlen:xs.length=stN x.n x.c (y+1) - stN x.n x.c y)
  (hp:∀W' u,x.Mem W' (layT ts xs (stN x.n x.c y) (stN x.n x.c (y+1)))→Lst W' L v xs→∀a',Slots a' m (upF f d u)→∃ρ',Path (mkE Try.prog rgF rgF) Goal n ρ' (G (b.at a' (.inRegion ops rest::k)) cs) W' (x.kl L) (x.ol L)):
  ∃ρ,Path (mkE Try.prog rgF rgF) Goal (n+1) ρ (G (b.at a (.inRegion ops (i::rest)::k)) cs) W (x.kl L) (x.ol L):=by
 have hin:=stN_in (n:=x.n) hok.c6 hy
 have hev1:a.eval (.tmp p)=cutV x.T 0 x.n (stN x.n x.c y) (stN x.n x.c (y+1)):=(hs.at_ p).trans e1
 have hev2:a.eval (.tmp q)=v:=(hs.at_ q).trans e2
 have hkvT:∀(kn ch:Nat→Prop),(∀B,x.k0 B→kn B)→KV kn ch (cutV x.T 0 x.n (stN x.n x.c y) (stN x.n x.c (y+1))):=fun kn ch h=>by
  unfold cutV
  split
  ·intro a ha;cases ha;exact ⟨h _ (.inr (.inl rfl)),rfl⟩
  ·intro a ha;cases ha;exact ⟨h _ (.inr (.inl rfl)),rfl⟩
 refine path_oper rg_env (ch:=x.ch) (fun W' hx=>⟨(M.ext hx fun _=>.inl).geoL hok (hL.ext hx fun _=>.inr),(M.ext hx fun _=>.inl).rdyL (hL.ext hx fun _=>.inr)⟩) ho (hw _) hk hopB (fun z hz=>?_)
  (R:=fun W' u w=>∃w0,Alone W' (x.kl L) (x.ol L) x.ch w0∧w.heap.size=w0.heap.size∧(∀B,B≠x.T→w.heap[B]?=w0.heap[B]?)∧∃z:Nat×Nat,z.2≤z.1∧w.heap[x.T]?=some (.cells ((layT ts xs (stN x.n x.c y) (stN x.n x.c (y+1))).map (Value.int .i64)).toArray 3 z)) (fun W' w0 hx h0=>?_) fun W' W1 u w1 hx hR h1 hsz1=>?_
 ·rw[hop]at hz
  simp[Op.operands,Call.operands]at hz
  rcases hz with rfl|rfl
  ·rw[hev1];exact hkvT _ _ fun _=>.inl
  ·rw[hev2];exact hL.kv fun _=>.inr
 ·have M':=M.ext hx fun _=>.inl
  have hL':=hL.ext hx fun _=>.inr
  obtain ⟨z,hz,hT⟩:=M'.T
  have hT0:w0.heap[x.T]?=some (.cells (ts.map (Value.int .i64)).toArray 3 z):=by rw[h0.own (show x.ol L x.T from .inl rfl)];exact hT
  have htl:=M'.tl
  have hu:(Try.prog).underlying 27=some (.slice 3):=Try.underlying27
  have hsz:((Try.prog).info? 3).map (·.size)=some 1:=by kernel_rfl
  have hexec:∀(k:Nat) w1,(Builtin.copy_ #[27,27] o.type #[cutV x.T 0 x.n (stN x.n x.c y) (stN x.n x.c (y+1)),v]).run Try.prog w0=.ok (goInt k) w1→(execOp a.eval o).run Try.prog w0=.ok (.value (goInt k)) w1:=fun k w1 h=>by
   unfold execOp
   simp only[hop,resolve,invoke,builtin,Sem.run_bind,Sem.run_pure,Result.andThen_ok,List.map_toArray,List.map_cons,List.map_nil,hev1,hev2,h]
  by_cases h0x:xs.length=0
  ·have hx0:xs=[]:=List.eq_nil_of_length_eq_zero h0x
   have hrun:(Builtin.copy_ #[27,27] o.type #[cutV x.T 0 x.n (stN x.n x.c y) (stN x.n x.c (y+1)),v]).run Try.prog w0=.ok (goInt 0) w0:=by
    obtain ⟨va,vk,hv⟩:∃va vk,v=.slice va 0 vk:=by
     rcases hL' with ⟨-,e,-⟩|⟨B,cap,more,z,-,e,-⟩
     ·exact ⟨_,_,e⟩
     ·exact ⟨_,_,by rw[e,h0x]⟩
    rw[hv]
    unfold cutV
    split
    ·exact run_copy_none w0 _ _ _ 3 _ _ _ _ _ _ hu hsz (Nat.zero_min _)
    ·exact run_copy_none w0 _ _ _ 3 _ _ _ _ _ _ hu hsz (Nat.zero_min _)
   refine ⟨_,_,w0,hexec 0 w0 hrun,.inl rfl,w0,h0,rfl,fun _ _=>rfl,z,hz,?_⟩
   have:layT ts xs (stN x.n x.c y) (stN x.n x.c (y+1))=ts:=by
    unfold layT
    rw[hx0,show stN x.n x.c (y+1)=stN x.n x.c y by omega]
    simp
   rw[this]
   exact hT0
  ·rcases hL' with ⟨-,-,e⟩|⟨B,cap,more,z1,eL,ev,hc1,hc2,hB,hz1,hg⟩
   ·rw[e]at h0x;exact absurd rfl h0x
   ·have hB0:w0.heap[B]?=some (.cells ((xs++more).map (Value.int .i64)).toArray 3 z1):=by rw[h0.own (show x.ol L B from .inr eL)];exact hB
    have hcut:cutV x.T 0 x.n (stN x.n x.c y) (stN x.n x.c (y+1))=.slice (some ⟨x.T,stN x.n x.c y,none⟩) (stN x.n x.c (y+1) - stN x.n x.c y) (x.n - stN x.n x.c y):=by
     unfold cutV
     rw[if_neg (by omega),Nat.zero_add]
    have hrun:=run_copy_cells (P:=Try.prog) w0 27 27 o.type 3 x.T (stN x.n x.c y) (stN x.n x.c (y+1) - stN x.n x.c y) (x.n - stN x.n x.c y) ⟨B,0,none⟩ xs.length cap (xs.map (Value.int .i64)) hu hsz (by rw[List.length_map,hlen];exact (Nat.min_self _).symm) (fun j u hj=>by
      rw[Addr.add_lit,Nat.zero_add,Joins.cell_of_block hB0]
      rw[List.getElem?_toArray,List.map_append,List.getElem?_append_left (List.getElem?_eq_some_iff.1 hj).1]
      exact hj) (fun j hj=>by
      rw[Joins.cell_of_block hT0]
      simp at hj ⊢
      omega) (fun j _=>not_frozen hT0 hz _) (fun u hu=>by
      obtain ⟨y,_,rfl⟩:=List.mem_map.1 hu
      rfl)
    rw[←hcut,←ev]at hrun
    refine ⟨_,_,_,hexec _ _ hrun,.inl rfl,w0,h0,?_,fun B' hB'=>setCells_other _ _ _ _ _ hB',z,hz,?_⟩
    ·have hle:=setCells_other x.T (xs.map (Value.int .i64)) (stN x.n x.c y) w0
     refine Nat.le_antisymm (Nat.le_of_not_lt fun q=>?_) (Nat.le_of_not_lt fun q=>?_)
     ·by_cases e:w0.heap.size=x.T
      ·rw[←e,Array.getElem?_eq_none (Nat.le_refl _)]at hT0;cases hT0
      ·have:=hle _ e
       rw[Array.getElem?_eq_none (Nat.le_refl _),Array.getElem?_eq_getElem q]at this
       cases this
     ·obtain ⟨j,hj⟩:=gM ((w0.setCells x.T (stN x.n x.c y) (xs.map (Value.int .i64))).heap.size)
      rw[←hj]at q
      by_cases e:j=x.T
      ·have:=setCells_block x.T (xs.map (Value.int .i64)) (stN x.n x.c y) _ w0 _ _ hT0 (by simp;omega)
       have:=lt_of_some this
       omega
      ·have:=hle _ e
       rw[Array.getElem?_eq_none (by omega),Array.getElem?_eq_getElem q]at this
       cases this
    ·rw[setCells_block x.T (xs.map (Value.int .i64)) (stN x.n x.c y) _ w0 _ _ hT0 (by simp;omega)]
     unfold layT
     rw[List.map_append,List.map_append,List.map_take,List.map_drop,List.length_map,show stN x.n x.c y+xs.length=stN x.n x.c (y+1) by omega]
 ·obtain ⟨w0,h0,hsz,hq,z,hz,hT⟩:=hR
  have M':=M.ext hx fun _=>.inl
  have hL':=hL.ext hx fun _=>.inr
  have hgeo:=M'.geoL hok hL'
  have htl:=M'.tl
  have hll:=layT_len (ts:=ts) (xs:=xs) hin.1 (by omega) hlen
  have hh:∀B,x.kl L B→B≠x.T→HoldB (x.ol L B) W' W1 B:=fun B hB hne=>h1.hold1 hgeo h0 hB (M'.kvL hL' hB) (hq B hne)
  have hO:∀B,x.O=some B→¬lsB L B:=fun B e q=>hoff B q (.inr (.inr e))
  have hM1:x.Mem W1 (layT ts xs (stN x.n x.c y) (stN x.n x.c (y+1))):=by
   refine M'.next (h1.grew (by have:=h0.size;omega)) (fun cs e z hW=>?_) (fun B hB cs e z hW=>?_) hok (by omega) ?_
   ·obtain ⟨z',g1,g2,g3⟩:=hh x.S (.inl (.inl rfl)) hok.st cs e z hW
    exact ⟨z',g1,fun q=>g2 (.inl q),fun q i q1 q2=>g3 (fun q3=>q3.elim q fun q4=>hoff _ q4 (.inl rfl)) i q1 q2⟩
   ·obtain ⟨z',g1,g2,g3⟩:=hh B (.inl (.inr (.inr hB))) (fun e=>hok.ot (by rw[hB,e])) cs e z hW
    exact ⟨z',g1,fun q=>g2 (.inl q),fun q i q1 q2=>g3 (fun q3=>q3.elim q (hO B hB)) i q1 q2⟩
   ·obtain ⟨z2,g1,g2⟩:=h1.keeps hgeo.knl hgeo.chl (.inl (.inr (.inl rfl))) hT (fun u hu=>by
     simp only[List.mem_toArray,List.mem_map]at hu
     obtain ⟨y,-,rfl⟩:=hu
     trivial)
    exact ⟨z2,rng_empty g2 hz,g1⟩
  have hL1:Lst W1 L v xs:=hL'.hold fun B hB cs e z hW=>by
   obtain ⟨z',g1,g2,g3⟩:=hh B (.inr hB) (fun e=>hoff B hB (.inr (.inl e))) cs e z hW
   exact ⟨z',g1,fun _=>g2 (.inr hB),fun q=>absurd trivial q⟩
  refine ⟨x.kl L,x.ol L,fun B hB=>⟨hB.elim (hM1.k_lt B) (hL1.lt B),B,.inr hB,rfl⟩,fun B hB=>⟨(x.olk L B hB).elim (hM1.k_lt B) (hL1.lt B),B,.inr hB,rfl⟩,x.olk L,?_⟩
  rw[hdst]
  exact hp W1 (rnV id u) hM1 hL1 _ (hs.put hd (rnV id u))
theorem wk_hand{M:Msg}(hM:M.Fast){Fin:Stand}{l:List Cm}{j:Nat}(Me:x.Mem W ts)(hL:Lst W L v xs)(hoff:x.Off L)(hs:Slots a m f){p q:Nat}(ho:ops[i]?=some o)(hdst:o.dst=some d)(hd:d<m)(hw:∀t,Region.wanted o (yielded ops t)=true)(hk:b.kind≠.early)(hop:o.op=.call { callee:=.value (.func 37),args:=#[.tmp p,.tmp q],argTypes:=ats })
  (e1:f p=.pointer (some ⟨x.S,0,none⟩)) (e2:f q=v) (hm:M x.to j v W (lsB L) (lsB L)) {ys:List Int}
  (hr:∀W' v' mb mo,M x.fr j v' W' mb mo→∃L',mb=lsB L'∧mo=lsB L'∧Lst W' L' v' ys) {N:Nat}
  (hp:∀W' L' v',x.Mem W' ts→Lst W' L' v' ys→x.Off L'→∀a',Slots a' m (upF f d v')→∃n ρ,Path (mkE Try.prog rgF rgF) (Run (mkE Try.prog rgF rgF) M Fin l) n ρ (G (b.at a' (.inRegion ops rest::k)) cs) W' (x.kl L') (x.ol L')):
  ∃ρ,Path (mkE Try.prog rgF rgF) (Run (mkE Try.prog rgF rgF) M Fin ((true,x.to,j)::(false,x.fr,j)::l)) (N+21) ρ (G (b.at a (.inRegion ops (i::rest)::k)) cs) W (x.kl L) (x.ol L):=by
 have hH:=Me.hereL hL
 suffices h:∃ρ,Path (mkE Try.prog rgF rgF) (Run (mkE Try.prog rgF rgF) M Fin ((true,x.to,j)::(false,x.fr,j)::l)) 21 ρ (G (b.at a (.inRegion ops (i::rest)::k)) cs) W (x.kl L) (x.ol L) by
  obtain ⟨ρ,h⟩:=h
  exact ⟨ρ,h.mono (by omega)⟩
 refine path_enter hH ho (hw _) hk hop (fn:=Try.f37) Try.func37 rfl rfl ?_
 have ea:(#[Operand.tmp p,.tmp q]).map a.eval=#[.pointer (some ⟨x.S,0,none⟩),v]:=by
  have q1:=(hs.at_ p).trans e1
  have q2:=(hs.at_ q).trans e2
  simp[Act.eval,q1,q2,-Array.getD_eq_getD_getElem?]
 rw[ea]
 refine handon_path rfl hM hH (.inl (.inl rfl)) (by rw[Me.cs];rfl) (by rw[Me.cs];rfl) hm (k1:=x.k0) (o1:=x.o0) ⟨fun _=>.inl,fun _=>.inr,fun _=>.inl,fun _=>.inr,fun _ h=>.inr (.inl h),fun _=>id,fun B q z=>hoff B z q,fun B q z=>hoff B q (.inr (.inl z))⟩ (.inl rfl) _ _ fun W' v' mb mo hx hm' h1 h2 h3 h4=>?_
 obtain ⟨L',rfl,rfl,hL'⟩:=hr W' v' mb mo hm'
 obtain ⟨n,ρ,h5⟩:=hp W' L' v' (Me.ext hx fun _=>id) hL' (fun B q z=>h3 B q z) (a.put o.dst v') (by rw[hdst];exact hs.put hd v')
 refine ⟨n,ρ,?_⟩
 rw[←served_put (cs:=cs) (b:=b) (k:=k) (rest:=rest) (a:=a) ho v']at h5
 exact h5
end
end Go.Proofs.Ytniloklglpchfai
