/- Goroutines that know and own, and channels between them: a message that passes from hand to hand; one that makes room for the next; draws; marks. No program in sight. -/
import Derived.Test.YtniloklglpchfaiPkEqTs
namespace Go.Proofs.Ytniloklglpchfai
open Go Go.Conc
section
variable {M:Msg} {Out Sh:Nat→Prop} {W W1:World} {t:Trace} {kn ow:Who→Nat→Prop} {chs:List Nat} {cap snt rcv:Nat→Nat}
theorem Net.meet(h:Net M Out Sh W t kn ow chs cap snt rcv)(hM:M.Fast){i j c:Nat}(hc:c∈chs){v:Value}{mb mo k1 o1:Nat→Prop}(hi:Deaf t i=0)(hj:Deaf t j=0)(hne:j≠i)(hm:M c (snt c) v W mb mo)(hs:Split (kn (.inl i)) (ow (.inl i)) k1 o1 mb mo)(heq:rcv c=snt c)(fn fn':FuncId)(pos pos':String)(cp:Nat):
  W.heap[c]?=some (.chan (cap c) #[] false (snt c) (rcv c) false)∧
   Net M Out Sh (W.setChan c (cap c) #[] false (snt c+1) (rcv c+1) false) (t++#[{ g:=i,fn,pos,act:=.send c (snt c) },{ g:=j,fn:=fn',pos:=pos',act:=.recv c (rcv c) cp },{ g:=i,fn,pos,act:=.sendDone c (snt c) },{ g:=j,fn:=fn',pos:=pos',act:=.recvDone c (rcv c) }])
    (takes (gives kn i c (snt c) k1 mb) j c (snt c)) (takes (gives ow i c (snt c) o1 mo) j c (snt c)) chs cap (bump snt c) (bump rcv c):=by
 obtain ⟨c1,c2,c3,buf,c4,c5,c6⟩:=h.chan c hc
 have hb:buf=#[]:=Array.eq_empty_of_size_eq_zero (by omega)
 subst hb
 refine ⟨c4,?_⟩
 obtain ⟨u,hu,hrd,hwr⟩:=hand_hand (t:=t) (i:=i) (j:=j) (c:=c) (s:=snt c) (cap:=cp) (fn:=fn) (pos:=pos) (fn':=fn') (pos':=pos') hi hj
 rw[heq,←hu]
 have hmu:Mute u:=by rw[hu];exact mute_met
 have hl:∀op∈u,op.act.low W.heap.size:=fun op hop=>by
  rw[hu]at hop
  simp only[List.mem_toArray,List.mem_cons,List.not_mem_nil,or_false]at hop
  rcases hop with rfl|rfl|rfl|rfl<;>exact c2
 have hnone:∀B,¬kn (.inr (c,snt c)) B:=h.msg c (snt c) (fun q=>Nat.lt_irrefl _ q.2.2)
 have hns:∀B,kn (.inl i) B→B<W.heap.size∧¬Sh B:=fun B q=>⟨(h.apt.low _ B q).1,fun z=>(h.apt.low _ B q).2 (h.sh B z)⟩
 have hoth:∀(f:Who→Nat→Prop) (x y:Nat→Prop) (m:Nat×Nat),m≠(c,snt c)→takes (gives f i c (snt c) x y) j c (snt c) (.inr m)=f (.inr m):=fun f x y m e=>by rw[takes_oth _ _ _ _ e,gives_oth _ _ _ _ _ _ e]
 obtain ⟨b1,b3⟩:=h.beside hM hc hmu hl (kn':=takes (gives kn i c (snt c) k1 mb) j c (snt c)) (ow':=takes (gives ow i c (snt c) o1 mo) j c (snt c)) (cap c) #[] (snt c+1) (snt c+1)
  (fun a B q=>by
   by_cases e:a=j
   ·subst e
    rw[takes_self,gives_off _ hne,gives_msg]at q
    exact q.imp id fun z=>hrd B (h.safe.rd i B (hs.a2 B z) (hns B (hs.a2 B z)).1 (hns B (hs.a2 B z)).2)
   ·rw[takes_off _ e]at q
    by_cases e2:a=i
    ·subst e2;rw[gives_self]at q;exact .inl (hs.a1 B q)
    ·rw[gives_off _ e2]at q;exact .inl q)
  (fun a B q=>by
   by_cases e:a=j
   ·subst e
    rw[takes_self,gives_off _ hne,gives_msg]at q
    exact q.imp id fun z=>hwr B (h.safe.wr i B (hs.b2 B z) (hns B (hs.a2 B (hs.c2 B z))).1 (hns B (hs.a2 B (hs.c2 B z))).2)
   ·rw[takes_off _ e]at q
    by_cases e2:a=i
    ·subst e2;rw[gives_self]at q;exact .inl (hs.b1 B q)
    ·rw[gives_off _ e2]at q;exact .inl q)
  (fun d k e=>⟨hoth _ _ _ _ (ne_pair (.inl e)),hoth _ _ _ _ (ne_pair (.inl e))⟩)
 refine ⟨by rw[size_setChan];exact b1,by rw[size_setChan];exact (h.apt.split (inl_inr _ _) hnone hs).merge (inl_inr _ _),h.sh,fun c' hc'=>?_,fun d k hk B q=>?_⟩
 ·by_cases e:c'=c
  ·subst e
   exact ⟨c1,by rw[size_setChan];exact c2,c3,#[],by rw[at_setChan _ _ _ _ _ _ _ c2,bump_self,bump_self,heq],by rw[bump_self,bump_self,heq];rfl,fun k x hk'=>by simp at hk'⟩
  ·obtain ⟨d1,d2,d3,d4⟩:=b3 c' hc' e
   exact ⟨d1,by rw[size_setChan];exact d2,d3,by rw[bump_ne _ e,bump_ne _ e];exact d4⟩
 ·by_cases e:(d,k)=(c,snt c)
  ·rw[e,takes_msg]at q
   exact q
  ·rw[hoth _ _ _ _ e]at q
   refine h.msg d k (fun z=>hk ?_) B q
   obtain ⟨z1,z2,z3⟩:=z
   refine ⟨z1,?_,?_⟩
   ·unfold bump;split
    ·next e2=>subst e2;omega
    ·exact z2
   ·unfold bump;split<;>omega
theorem setChan_twice(W:World)(c cap cap':Nat)(b b':Array Value)(cl cl':Bool)(s s' r r':Nat)(tm tm':Bool):(W.setChan c cap b cl s r tm).setChan c cap' b' cl' s' r' tm'=W.setChan c cap' b' cl' s' r' tm':=by
 unfold World.setChan
 simp
theorem Net.shift(h:Net M Out Sh W t kn ow chs cap snt rcv)(hM:M.Fast){i j c:Nat}(hc:c∈chs){v:Value}{mb mo k1 o1:Nat→Prop}(hi:Deaf t i=0)(hj:Deaf t j=0)(hne:i≠j)(hsome:rcv c<snt c)(hm:M c (snt c) v W mb mo)(hs:Split (kn (.inl i)) (ow (.inl i)) k1 o1 mb mo)(fn fn':FuncId)(pos pos':String)(cp:Nat):
  ∃buf x,W.heap[c]?=some (.chan (cap c) buf false (snt c) (rcv c) false)∧rcv c+buf.size=snt c∧0<buf.size∧buf.getD 0 undef=x∧M c (rcv c) x W (kn (.inr (c,rcv c))) (ow (.inr (c,rcv c)))∧
   Net M Out Sh (W.setChan c (cap c) ((buf.extract 1 buf.size).push v) false (snt c+1) (rcv c+1) false) (t++#[{ g:=j,fn,pos,act:=.recv c (rcv c) cp },{ g:=j,fn,pos,act:=.recvDone c (rcv c) },{ g:=i,fn:=fn',pos:=pos',act:=.send c (snt c) },{ g:=i,fn:=fn',pos:=pos',act:=.sendDone c (snt c) }])
    (gives (takes kn j c (rcv c)) i c (snt c) k1 mb) (gives (takes ow j c (rcv c)) i c (snt c) o1 mo) chs cap (bump snt c) (bump rcv c):=by
 obtain ⟨buf,x,b1,b2,b3,b4,b5,h1⟩:=h.recv hM hc hj hsome fn pos cp
 refine ⟨buf,x,b1,b2,b3,b4,b5,?_⟩
 have c1:=(h.chan c hc).1
 have hc2:=(h.chan c hc).2.1
 have hs':Split (takes kn j c (rcv c) (.inl i)) (takes ow j c (rcv c) (.inl i)) k1 o1 mb mo:=by rw[takes_off _ hne,takes_off _ hne];exact hs
 have hm':M c (snt c) v (W.setChan c (cap c) (buf.extract 1 buf.size) false (snt c) (rcv c+1) false) mb mo:=hM _ _ _ _ _ _ _ hm (Ext.chan (fun z=>(h.apt.low _ c (hs.a2 c z)).2 c1) ..)
 obtain ⟨bf,d1,d2,h2⟩:=h1.send hM hc (by rw[mute_recv.deaf];exact hi) hm' hs' fn' pos'
 rw[at_setChan _ _ _ _ _ _ _ hc2]at d1
 have hbf:bf=buf.extract 1 buf.size:=by injection d1 with d1;injection d1 with _ d1 _ _ _ _;exact d1.symm
 subst hbf
 rw[setChan_twice,bump_self,Array.append_assoc]at h2
 exact h2
theorem Net.still(h:Net M Out Sh W t kn ow chs cap snt rcv)(hM:M.Fast){u:Trace}(hu:∀op∈u,op.act.touch?=none)(hl:∀op∈u,op.act.low W.heap.size)(hW:W1.heap=W.heap)(hb:bare W1=bare W):Net M Out Sh W1 (t++u) kn ow chs cap snt rcv:=by
 refine ⟨by rw[hW];exact h.safe.quiet hu hl,by rw[hW];exact h.apt,h.sh,fun c hc=>?_,h.msg⟩
 obtain ⟨c1,c2,c3,buf,c4,c5,c6⟩:=h.chan c hc
 refine ⟨c1,by rw[hW];exact c2,c3,buf,by rw[hW];exact c4,c5,fun k v hk=>?_⟩
 obtain ⟨p,m1,m2,m3,m4⟩:=c6 k v hk
 exact ⟨p,hM _ _ _ _ _ _ _ m1 ⟨by rw[hW];exact Nat.le_refl _,fun B _ _=>by rw[hW],hb⟩,m2.app _,fun B q=>(m3 B q).app (fun x hx a ha=>by rw[hu x hx]at ha;cases ha),fun B q=>(m4 B q).app (fun x hx a ha=>by rw[hu x hx]at ha;cases ha)⟩
theorem Net.at(h:Net M Out Sh W t kn ow chs cap snt rcv)(hM:M.Fast)(d:Nat):Net M Out Sh (W.at d) t kn ow chs cap snt rcv:=by
 have:=h.still hM (u:=#[]) (W1:=W.at d) (fun op hop=>by simp at hop) (fun op hop=>by simp at hop) rfl rfl
 simpa using this
theorem Net.group(h:Net M Out Sh W t kn ow chs cap snt rcv)(hM:M.Fast){Wg i:Nat}(hg:Sh Wg){es:Array Event}(hev:∀e,e∈es→(∀a,(MemAct.ofEvent e).touch?=some a→blkOf a.loc=some Wg∧AtK i a∧OldOk t i Wg)∧(MemAct.ofEvent e).low W.heap.size)(hsz:W1.heap.size=W.heap.size)(hk:∀B,B≠Wg→W1.heap[B]?=W.heap[B]?)(hb:bare W1=bare W)(fn:FuncId)(pos:String):
  Net M Out Sh W1 (t++MemOp.ofEvents i fn pos es) kn ow chs cap snt rcv:=by
 have hu:∀op∈MemOp.ofEvents i fn pos es,∀a,op.act.touch?=some a→blkOf a.loc=some Wg∧AtK i a∧OldOk t i Wg:=fun op hop a ha=>by
  obtain ⟨e,he,rfl⟩:=Conc.mem_ofEvents hop
  exact (hev e he).1 a ha
 have hout:=h.sh Wg hg
 refine ⟨?_,by rw[hsz];exact h.apt,h.sh,fun c hc=>?_,h.msg⟩
 ·rw[hsz]
  exact h.safe.own (fun op hop=>by obtain ⟨e,_,rfl⟩:=Conc.mem_ofEvents hop;rfl) (fun op hop a ha B hB=>by
   obtain ⟨q1,q2⟩:=hu op hop a ha
   rw[q1]at hB
   obtain rfl:=Option.some.inj hB
   exact .inl ⟨hg,q2⟩) (fun op hop=>by obtain ⟨e,he,rfl⟩:=Conc.mem_ofEvents hop;exact (hev e he).2) (Nat.le_refl _) (fun _ _ q _=>q) (fun _ _ q _=>q) (fun j B q1 q2 _=>by omega) (fun j B q1 q2 _=>h.apt.dis _ _ B (inl_ne fun e=>q1 e.symm) q2) (fun j B q1 q2 _ q4=>h.apt.dis _ _ B (inl_ne q1) q4 q2)
 ·obtain ⟨c1,c2,c3,buf,c4,c5,c6⟩:=h.chan c hc
  refine ⟨c1,by rw[hsz];exact c2,c3,buf,by rw[hk c (fun e=>c3 (e▸hg))];exact c4,c5,fun k v hk'=>?_⟩
  obtain ⟨p,m1,m2,m3,m4⟩:=c6 k v hk'
  have hn:∀B,kn (.inr (c,rcv c+k)) B→B≠Wg:=fun B q e=>(h.apt.low _ B q).2 (e▸hout)
  refine ⟨p,hM _ _ _ _ _ _ _ m1 ⟨by rw[hsz];exact Nat.le_refl _,fun B q _=>hk B (hn B q),hb⟩,m2.app _,fun B q=>(m3 B q).app (fun x hx a ha hB _=>?_),fun B q=>(m4 B q).app (fun x hx a ha hB=>?_)⟩
  ·rw[(hu x hx a ha).1]at hB
   exact hn B q (Option.some.inj hB).symm
  ·rw[(hu x hx a ha).1]at hB
   exact hn B (h.apt.own _ B q) (Option.some.inj hB).symm
end
structure RelAt (a:Addr) (t:Trace) (kn ow:Who→Nat→Prop) (i r:Nat):Prop where
 act:t.act? r=some (.mark (.releaseMerge a))
 g:t.g? r=some i
 heard:t.heard r
 rd:∀B,kn (.inl i) B→RdAt t r B
 wr:∀B,ow (.inl i) B→WrAt t r B
section
variable {M:Msg} {Out Sh:Nat→Prop} {W W1:World} {t:Trace} {kn ow:Who→Nat→Prop} {chs:List Nat} {cap snt rcv:Nat→Nat} {a:Addr} {i r:Nat}
theorem RelAt.app(h:RelAt a t kn ow i r)(u:Trace){kn' ow':Who→Nat→Prop}(hk:∀B,kn' (.inl i) B→kn (.inl i) B)(ho:∀B,ow' (.inl i) B→ow (.inl i) B)
  (h1:∀x∈u,∀b,x.act.touch?=some b→∀B,blkOf b.loc=some B→b.write=true→¬kn (.inl i) B) (h2:∀x∈u,∀b,x.act.touch?=some b→∀B,blkOf b.loc=some B→¬ow (.inl i) B):RelAt a (t++u) kn' ow' i r:=by
 have hr:=lt_of_act? h.act
 exact ⟨by rw[act?_old hr];exact h.act,by rw[g?_old hr];exact h.g,(heard_old hr).2 h.heard,fun B q=>(h.rd B (hk B q)).app fun x hx b hb hB hw=>h1 x hx b hb B hB hw (hk B q),fun B q=>(h.wr B (ho B q)).app fun x hx b hb hB=>h2 x hx b hb B hB (ho B q)⟩
theorem RelAt.mute(h:RelAt a t kn ow i r){u:Trace}(hu:∀op∈u,op.act.touch?=none){kn' ow':Who→Nat→Prop}(hk:∀B,kn' (.inl i) B→kn (.inl i) B)(ho:∀B,ow' (.inl i) B→ow (.inl i) B):RelAt a (t++u) kn' ow' i r:=
 h.app u hk ho (fun x hx b hb=>by rw[hu x hx]at hb;cases hb) (fun x hx b hb=>by rw[hu x hx]at hb;cases hb)
theorem RelAt.group(h:RelAt a t kn ow i r)(hn:Net M Out Sh W t kn ow chs cap snt rcv){Wg:Nat}(hg:Sh Wg){u:Trace}(hu:∀op∈u,∀b,op.act.touch?=some b→blkOf b.loc=some Wg):RelAt a (t++u) kn ow i r:=by
 have ho:=hn.sh Wg hg
 refine h.app u (fun _ q=>q) (fun _ q=>q) (fun x hx b hb B hB _ q=>?_) (fun x hx b hb B hB q=>?_)
 ·rw[hu x hx b hb]at hB
  exact (hn.apt.low _ B q).2 ((Option.some.inj hB)▸ho)
 ·rw[hu x hx b hb]at hB
  exact (hn.apt.low _ B (hn.apt.own _ B q)).2 ((Option.some.inj hB)▸ho)
theorem RelAt.new(hn:Net M Out Sh W t kn ow chs cap snt rcv)(hd:Deaf t i=0)(fn:FuncId)(pos:String):RelAt a (t++#[{ g:=i,fn,pos,act:=.mark (.releaseMerge a) }]) kn ow i t.size:=by
 have h0:(t++#[{ g:=i,fn,pos,act:=.mark (.releaseMerge a) }])[t.size]?=some { g:=i,fn,pos,act:=.mark (.releaseMerge a) }:=by rw[Array.getElem?_append_right (Nat.le_refl _)];simp
 refine ⟨act?_of h0,by simp[Trace.g?],(mute_one ⟨rfl,fun _ _=>rfl⟩).heard (Nat.le_refl _) h0 hd,fun B q=>?_,fun B q=>?_⟩
 ·have hl:=hn.apt.low _ B q
  exact (hn.safe.rd i B q hl.1 (fun z=>hl.2 (hn.sh B z))).release rfl rfl
 ·have hl:=hn.apt.low _ B (hn.apt.own _ B q)
  exact (hn.safe.wr i B q hl.1 (fun z=>hl.2 (hn.sh B z))).release rfl rfl
theorem RelAt.knows(h:RelAt a t kn ow i r){q j:Nat}{y:MemOp}(hy:t[q]?=some y)(hg:y.g=j)(ha:y.act=.mark (.acquire a))(hq:t.heard q)(hrq:r<q)(hn:∀k,t.act? k≠some (.mark (.release a))):Knows t j r:=mark_knows h.act h.heard hrq hy hg ha hq hn
def joins (f:Who→Nat→Prop) (j:Nat) (D:Nat→Prop):Who→Nat→Prop:=fun x B=>(x=.inl j∧(f (.inl j) B∨∃k,D k∧f (.inl k) B))∨(x≠.inl j∧(∀k,x=.inl k→¬D k)∧f x B)
theorem Net.join(h:Net M Out Sh W t kn ow chs cap snt rcv){j:Nat}{D:Nat→Prop}(hj:¬D j)(hD:∀i,D i→∃r,RelAt a t kn ow i r∧Knows t j r):
  Net M Out Sh W t (joins kn j D) (joins ow j D) chs cap snt rcv:=by
 have hmsg:∀(f:Who→Nat→Prop) (m:Nat×Nat),joins f j D (.inr m)=f (.inr m):=fun f m=>by
  funext B
  refine propext ⟨fun q=>?_,fun q=>.inr ⟨inr_inl _ _,fun k e=>(by cases e),q⟩⟩
  rcases q with ⟨e,_⟩|⟨_,_,q⟩
  ·cases e
  ·exact q
 refine ⟨h.safe.more (fun i B q _ _=>?_) (fun i B q _ _=>?_),⟨fun x y B hxy q1 q2=>?_,fun i B q=>?_,fun i B q=>?_⟩,h.sh,fun c hc=>?_,fun c k hk B q=>h.msg c k hk B (by rw[hmsg]at q;exact q)⟩
 ·rcases q with ⟨e,q|⟨k,hk,q⟩⟩|⟨_,_,q⟩
  ·rw[e];exact .inl q
  ·obtain ⟨r,hr,hkn⟩:=hD k hk
   rw[Sum.inl.inj e]
   exact .inr ((hr.rd B q).knows hkn)
  ·exact .inl q
 ·rcases q with ⟨e,q|⟨k,hk,q⟩⟩|⟨_,_,q⟩
  ·rw[e];exact .inl q
  ·obtain ⟨r,hr,hkn⟩:=hD k hk
   rw[Sum.inl.inj e]
   exact .inr ((hr.wr B q).knows hkn)
  ·exact .inl q
 ·have src:∀(f:Who→Nat→Prop) z,joins f j D z B→∃k,f k B∧(k=z∨(z=.inl j∧∃d,k=.inl d∧D d)):=fun f z q=>by
   rcases q with ⟨rfl,q|⟨k,hk,q⟩⟩|⟨_,_,q⟩
   ·exact ⟨_,q,.inl rfl⟩
   ·exact ⟨_,q,.inr ⟨rfl,k,rfl,hk⟩⟩
   ·exact ⟨z,q,.inl rfl⟩
  have nd:∀(f:Who→Nat→Prop) z,joins f j D z B→∀k,z=.inl k→¬D k:=fun f z q=>by
   rcases q with ⟨rfl,_⟩|⟨_,q,_⟩
   ·exact fun k e=>by rw[←Sum.inl.inj e];exact hj
   ·exact q
  obtain ⟨k1,a1,e1⟩:=src kn x q1
  obtain ⟨k2,a2,e2⟩:=src ow y q2
  refine h.apt.dis k1 k2 B (fun e=>?_) a1 a2
  subst e
  rcases e1 with e1|⟨e1,d,z1,d1⟩
  ·rcases e2 with e2|⟨e2,d',z2,d2⟩
   ·exact hxy (e1.symm.trans e2)
   ·exact nd kn x q1 d' (e1.symm.trans z2) d2
  ·rcases e2 with e2|⟨e2,d',z2,d2⟩
   ·exact nd ow y q2 d (e2.symm.trans z1) d1
   ·exact hxy (e1.trans e2.symm)
 ·rcases q with ⟨rfl,q|⟨k,hk,q⟩⟩|⟨e,d,q⟩
  ·exact .inl ⟨rfl,.inl (h.apt.own _ B q)⟩
  ·exact .inl ⟨rfl,.inr ⟨k,hk,h.apt.own _ B q⟩⟩
  ·exact .inr ⟨e,d,h.apt.own i B q⟩
 ·rcases q with ⟨rfl,q|⟨k,hk,q⟩⟩|⟨_,_,q⟩
  ·exact h.apt.low _ B q
  ·exact h.apt.low _ B q
  ·exact h.apt.low i B q
 ·obtain ⟨c1,c2,c3,buf,c4,c5,c6⟩:=h.chan c hc
  refine ⟨c1,c2,c3,buf,c4,c5,fun k v hk=>?_⟩
  rw[hmsg,hmsg]
  exact c6 k v hk
end
end Go.Proofs.Ytniloklglpchfai
