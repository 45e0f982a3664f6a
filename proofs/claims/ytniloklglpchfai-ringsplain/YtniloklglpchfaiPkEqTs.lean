/- What passes from one goroutine to another with a message, and by a group's marks. No program in sight. -/
import Derived.Test.YtniloklglpchfaiPkEqXq
import Derived.Conc.CrowdTrace
import Derived.Conc.TokenTrace
import Derived.Conc.CrowdComm
namespace Go.Proofs.Ytniloklglpchfai
open Go Go.Conc
def SentAt (t:Trace) (c k m:Nat):Prop:=t.act? m=some (.send c k)∧t.heard m
theorem SentAt.app{t:Trace}{c k m:Nat}(h:SentAt t c k m)(u:Trace):SentAt (t++u) c k m:=
 ⟨by rw[act?_old (lt_of_act? h.1)];exact h.1,(heard_old (lt_of_act? h.1)).2 h.2⟩
theorem SentAt.knows{t:Trace}{c k m q j:Nat}{y:MemOp}(h:SentAt t c k m)(hy:t[q]?=some y)(hg:y.g=j)(ha:y.act=.recvDone c k)(hh:t.heard q):Knows t j m:=
 ⟨q,y,hy,hg,.inr (.single (.inr ⟨.handOver h.1 (by rw[act?_of hy,ha]),h.2,hh⟩))⟩
def Mute (u:Trace):Prop:=∀op∈u,op.act.touch?=none∧∀g d,deafStep g d op=d
theorem Mute.deaf{t u:Trace}(h:Mute u)(g:Nat):Deaf (t++u) g=Deaf t g:=Deaf_quiet fun op hop d=>(h op hop).2 g d
theorem Mute.rd{t u:Trace}{p B:Nat}(h:Mute u)(hr:RdAt t p B):RdAt (t++u) p B:=hr.app fun x hx a ha=>by rw[(h x hx).1]at ha;cases ha
theorem Mute.wr{t u:Trace}{p B:Nat}(h:Mute u)(hr:WrAt t p B):WrAt (t++u) p B:=hr.app fun x hx a ha=>by rw[(h x hx).1]at ha;cases ha
theorem Mute.heard{t u:Trace}{q:Nat}{y:MemOp}(h:Mute u)(hq:t.size≤q)(hy:(t++u)[q]?=some y)(hd:Deaf t y.g=0):(t++u).heard q:=by
 have hlt:=lt_size_of_getElem? hy
 refine ⟨y.g,by simp[Trace.g?,hy],?_⟩
 have e:q=t.size+(q - t.size):=by omega
 rw[e,deaf_quiet (fun op hop d=>(h op hop).2 y.g d) (q - t.size) (by simp at hlt;omega)]
 exact hd
theorem mute_one{x:MemOp}(h:x.act.touch?=none∧∀g d,deafStep g d x=d):Mute #[x]:=fun op hop=>by
 have:op=x:=by simpa using hop
 rw[this];exact h
section
variable {t:Trace} {i j c s r cap:Nat} {fn fn':FuncId} {pos pos':String}
theorem mute_send:Mute #[{ g:=i,fn,pos,act:=.send c s },{ g:=i,fn,pos,act:=.sendDone c s }]:=fun op hop=>by
 simp only[List.mem_toArray,List.mem_cons,List.not_mem_nil,or_false]at hop
 rcases hop with rfl|rfl<;>exact ⟨rfl,fun _ _=>rfl⟩
theorem mute_recv:Mute #[{ g:=j,fn,pos,act:=.recv c r cap },{ g:=j,fn,pos,act:=.recvDone c r }]:=fun op hop=>by
 simp only[List.mem_toArray,List.mem_cons,List.not_mem_nil,or_false]at hop
 rcases hop with rfl|rfl<;>exact ⟨rfl,fun _ _=>rfl⟩
theorem mute_met:Mute #[{ g:=i,fn,pos,act:=.send c s },{ g:=j,fn:=fn',pos:=pos',act:=.recv c r cap },{ g:=i,fn,pos,act:=.sendDone c s },{ g:=j,fn:=fn',pos:=pos',act:=.recvDone c r }]:=fun op hop=>by
 simp only[List.mem_toArray,List.mem_cons,List.not_mem_nil,or_false]at hop
 rcases hop with rfl|rfl|rfl|rfl<;>exact ⟨rfl,fun _ _=>rfl⟩
theorem mute_go:Mute #[{ g:=i,fn,pos,act:=.go c },{ g:=c,fn:=fn',pos:=pos',act:=.start }]:=fun op hop=>by
 simp only[List.mem_toArray,List.mem_cons,List.not_mem_nil,or_false]at hop
 rcases hop with rfl|rfl<;>exact ⟨rfl,fun _ _=>rfl⟩
theorem laid_down(hd:Deaf t i=0):∃u:Trace,u=#[{ g:=i,fn,pos,act:=.send c s },{ g:=i,fn,pos,act:=.sendDone c s }]∧SentAt (t++u) c s t.size∧
  (∀B,RdOk t i B→RdAt (t++u) t.size B)∧(∀B,WrOk t i B→WrAt (t++u) t.size B):=by
 refine ⟨_,rfl,?_,fun B h=>?_,fun B h=>?_⟩
 ·have h0:(t++#[{ g:=i,fn,pos,act:=.send c s },{ g:=i,fn,pos,act:=.sendDone c s }])[t.size]?=some { g:=i,fn,pos,act:=.send c s }:=by rw[Array.getElem?_append_right (Nat.le_refl _)];simp
  exact ⟨act?_of h0,mute_send.heard (Nat.le_refl _) h0 hd⟩
 ·have:=h.release (y:={ g:=i,fn,pos,act:=.send c s }) rfl rfl
  have e:t++#[{ g:=i,fn,pos,act:=.send c s },{ g:=i,fn,pos,act:=.sendDone c s }]=(t++#[{ g:=i,fn,pos,act:=.send c s }])++#[{ g:=i,fn,pos,act:=.sendDone c s }]:=by apply Array.ext';simp
  rw[e]
  exact (mute_one ⟨rfl,fun _ _=>rfl⟩).rd this
 ·have:=h.release (y:={ g:=i,fn,pos,act:=.send c s }) rfl rfl
  have e:t++#[{ g:=i,fn,pos,act:=.send c s },{ g:=i,fn,pos,act:=.sendDone c s }]=(t++#[{ g:=i,fn,pos,act:=.send c s }])++#[{ g:=i,fn,pos,act:=.sendDone c s }]:=by apply Array.ext';simp
  rw[e]
  exact (mute_one ⟨rfl,fun _ _=>rfl⟩).wr this
theorem taken_up{m:Nat}(hs:SentAt t c r m)(hd:Deaf t j=0):∃u:Trace,u=#[{ g:=j,fn,pos,act:=.recv c r cap },{ g:=j,fn,pos,act:=.recvDone c r }]∧
  (∀B,RdAt t m B→RdOk (t++u) j B)∧(∀B,WrAt t m B→WrOk (t++u) j B):=by
 refine ⟨_,rfl,?_⟩
 have h1:(t++#[{ g:=j,fn,pos,act:=.recv c r cap },{ g:=j,fn,pos,act:=.recvDone c r }])[t.size+1]?=some { g:=j,fn,pos,act:=.recvDone c r }:=by rw[Array.getElem?_append_right (by omega)];simp
 have hk:=(hs.app _).knows h1 rfl rfl (mute_recv.heard (by omega) h1 hd)
 exact ⟨fun B h=>(mute_recv.rd h).knows hk,fun B h=>(mute_recv.wr h).knows hk⟩
theorem hand_hand(hi:Deaf t i=0)(hj:Deaf t j=0):∃u:Trace,u=#[{ g:=i,fn,pos,act:=.send c s },{ g:=j,fn:=fn',pos:=pos',act:=.recv c s cap },{ g:=i,fn,pos,act:=.sendDone c s },{ g:=j,fn:=fn',pos:=pos',act:=.recvDone c s }]∧
  (∀B,RdOk t i B→RdOk (t++u) j B)∧(∀B,WrOk t i B→WrOk (t++u) j B):=by
 refine ⟨_,rfl,?_⟩
 obtain ⟨u,hu⟩:∃u:Trace,u=#[{ g:=i,fn,pos,act:=.send c s },{ g:=j,fn:=fn',pos:=pos',act:=.recv c s cap },{ g:=i,fn,pos,act:=.sendDone c s },{ g:=j,fn:=fn',pos:=pos',act:=.recvDone c s }]:=⟨_,rfl⟩
 have hm:Mute u:=by rw[hu];exact mute_met
 rw[←hu]
 have h0:(t++u)[t.size]?=some { g:=i,fn,pos,act:=.send c s }:=by rw[Array.getElem?_append_right (Nat.le_refl _),hu];simp
 have h3:(t++u)[t.size+3]?=some { g:=j,fn:=fn',pos:=pos',act:=.recvDone c s }:=by rw[Array.getElem?_append_right (by omega),hu];simp
 have hs:SentAt (t++u) c s t.size:=⟨act?_of h0,hm.heard (Nat.le_refl _) h0 hi⟩
 have hk:=hs.knows h3 rfl rfl (hm.heard (by omega) h3 hj)
 have e:t++u=(t++#[{ g:=i,fn,pos,act:=.send c s }])++#[{ g:=j,fn:=fn',pos:=pos',act:=.recv c s cap },{ g:=i,fn,pos,act:=.sendDone c s },{ g:=j,fn:=fn',pos:=pos',act:=.recvDone c s }]:=by rw[hu];apply Array.ext';simp
 have hm2:Mute #[{ g:=j,fn:=fn',pos:=pos',act:=.recv c s cap },{ g:=i,fn,pos,act:=.sendDone c s },{ g:=j,fn:=fn',pos:=pos',act:=.recvDone c s }]:=fun op hop=>by
  simp only[List.mem_toArray,List.mem_cons,List.not_mem_nil,or_false]at hop
  rcases hop with rfl|rfl|rfl<;>exact ⟨rfl,fun _ _=>rfl⟩
 refine ⟨fun B h=>?_,fun B h=>?_⟩
 ·have:=hm2.rd (h.release (y:={ g:=i,fn,pos,act:=.send c s }) rfl rfl)
  rw[←e]at this
  exact this.knows hk
 ·have:=hm2.wr (h.release (y:={ g:=i,fn,pos,act:=.send c s }) rfl rfl)
  rw[←e]at this
  exact this.knows hk
end
theorem mark_knows{t:Trace}{a:Addr}{r q j:Nat}{y:MemOp}(hr:t.act? r=some (.mark (.releaseMerge a)))(hh:t.heard r)(hrq:r<q)(hy:t[q]?=some y)(hg:y.g=j)(ha:y.act=.mark (.acquire a))(hq:t.heard q)
  (hn:∀k,t.act? k≠some (.mark (.release a))):Knows t j r:=
 ⟨q,y,hy,hg,.inr (.single (.inr ⟨.marked hrq (.inr hr) (by rw[act?_of hy,ha]) (fun k _ _=>hn k),hh,hq⟩))⟩
abbrev Who:=Nat⊕(Nat×Nat)
abbrev Msg:=Nat→Nat→Value→World→(Nat→Prop)→(Nat→Prop)→Prop
abbrev Cm:=Bool×Nat×Nat
abbrev Stand:=Goroutine→World→(Nat→Prop)→(Nat→Prop)→Prop
structure Split (kn ow k1 o1 k2 o2:Nat→Prop):Prop where
 a1:∀B,k1 B→kn B
 a2:∀B,k2 B→kn B
 b1:∀B,o1 B→ow B
 b2:∀B,o2 B→ow B
 c1:∀B,o1 B→k1 B
 c2:∀B,o2 B→k2 B
 d1:∀B,k1 B→¬o2 B
 d2:∀B,k2 B→¬o1 B
def orP (a b:Nat→Prop):Nat→Prop:=fun B=>a B∨b B
def noP:Nat→Prop:=fun _=>False
def Gets (E:Env) (M:Msg) (Next:Stand) (c j:Nat) (g:Goroutine) (f:Bool) (W:World) (kn ow:Nat→Prop):Prop:=
 ∀W' v mb mo,Ext kn W W'→M c j v W' mb mo→(∀B,mb B→B<W'.heap.size)→(∀B,mo B→mb B)→(∀B,mo B→¬kn B)→(∀B,mb B→¬ow B)→∃n ρ,Path E Next n ρ (Conc.served g (recvd f v true)) W' (orP kn mb) (orP ow mo)
def Puts (E:Env) (M:Msg) (Next:Stand) (c j:Nat) (g:Goroutine) (v:Value) (W:World) (kn ow:Nat→Prop):Prop:=
 ∃mb mo k1 o1,M c j v W mb mo∧Split kn ow k1 o1 mb mo∧∃n ρ,Path E Next n ρ (Conc.served g undef) W k1 o1
def Run (E:Env) (M:Msg) (Fin:Stand):List Cm→Stand
 |[],g,W,kn,ow=>Fin g W kn ow
 |(true,c,j)::l,g,W,kn,ow=>g.status=.running∧∃g₂ v z,(∀m,stepG E.P m g W=.comm g₂ #[scase c v z] true .send W #[])∧Puts E M (Run E M Fin l) c j g₂ v W kn ow
 |(false,c,j)::l,g,W,kn,ow=>g.status=.running∧∃g₂ z f,(∀m,stepG E.P m g W=.comm g₂ #[rcase c z] true (.recv f) W #[])∧Gets E M (Run E M Fin l) c j g₂ f W kn ow
theorem Gets.ext{E:Env}{M:Msg}{Next:Stand}{c j:Nat}{g:Goroutine}{f:Bool}{W W2:World}{kn ow:Nat→Prop}(h:Gets E M Next c j g f W kn ow)(hx:Ext kn W W2):Gets E M Next c j g f W2 kn ow:=
 fun W' v mb mo h1 h2 h3=>h W' v mb mo (hx.trans h1) h2 h3
def Msg.Fast (M:Msg):Prop:=∀c j v W W' mb mo,M c j v W mb mo→Ext mb W W'→M c j v W' mb mo
theorem Ext.le{kn kn':Nat→Prop}{W W':World}(h:Ext kn W W')(hk:∀B,kn' B→kn B):Ext kn' W W':=⟨h.size,fun B q=>h.keep B (hk B q),h.bare⟩
theorem Puts.ext{E:Env}{M:Msg}(hM:M.Fast){Next:Stand}{c j:Nat}{g:Goroutine}{v:Value}{W W2:World}{kn ow:Nat→Prop}(h:Puts E M Next c j g v W kn ow)(hx:Ext kn W W2):Puts E M Next c j g v W2 kn ow:=by
 obtain ⟨mb,mo,k1,o1,h1,h2,n,ρ,h3⟩:=h
 exact ⟨mb,mo,k1,o1,hM _ _ _ _ _ _ _ h1 (hx.le h2.a2),h2,n,ρ,h3.ext (hx.le h2.a1)⟩
def put (f:Who→Nat→Prop) (i:Who) (x:Nat→Prop):Who→Nat→Prop:=fun j B=>if j=i then x B else f j B
theorem put_self(f:Who→Nat→Prop)(i:Who)(x:Nat→Prop)(B:Nat):put f i x i B↔x B:=by simp[put]
theorem put_at(f:Who→Nat→Prop)(i:Who)(x:Nat→Prop):put f i x i=x:=by funext B;simp[put]
theorem put_off(f:Who→Nat→Prop){i k:Who}(h:k≠i)(x:Nat→Prop):put f i x k=f k:=by funext B;simp[put,h]
structure Apt (Out:Nat→Prop) (top:Nat) (kn ow:Who→Nat→Prop):Prop where
 dis:∀i j B,i≠j→kn i B→¬ow j B
 own:∀i B,ow i B→kn i B
 low:∀i B,kn i B→B<top∧¬Out B
theorem Apt.split{Out:Nat→Prop}{top:Nat}{kn ow:Who→Nat→Prop}(h:Apt Out top kn ow){x y:Who}(hxy:x≠y)(hy:∀B,¬kn y B){k1 o1 k2 o2:Nat→Prop}(s:Split (kn x) (ow x) k1 o1 k2 o2):Apt Out top (put (put kn x k1) y k2) (put (put ow x o1) y o2):=by
 have hk:∀z B,put (put kn x k1) y k2 z B→(z=y∧k2 B)∨(z=x∧k1 B)∨(z≠x∧z≠y∧kn z B):=fun z B q=>by
  unfold put at q;split at q
  ·next e=>exact .inl ⟨e,q⟩
  ·next e=>
   split at q
   ·next e2=>exact .inr (.inl ⟨e2,q⟩)
   ·next e2=>exact .inr (.inr ⟨e2,e,q⟩)
 have ho:∀z B,put (put ow x o1) y o2 z B→(z=y∧o2 B)∨(z=x∧o1 B)∨(z≠x∧z≠y∧ow z B):=fun z B q=>by
  unfold put at q;split at q
  ·next e=>exact .inl ⟨e,q⟩
  ·next e=>
   split at q
   ·next e2=>exact .inr (.inl ⟨e2,q⟩)
   ·next e2=>exact .inr (.inr ⟨e2,e,q⟩)
 refine ⟨fun i j B hij q1 q2=>?_,fun i B q=>?_,fun i B q=>?_⟩
 ·rcases hk i B q1 with ⟨rfl,a⟩|⟨rfl,a⟩|⟨a1,a2,a⟩<;>rcases ho j B q2 with ⟨rfl,b⟩|⟨rfl,b⟩|⟨b1,b2,b⟩
  ·exact hij rfl
  ·exact s.d2 B a b
  ·exact h.dis _ _ B (fun e=>b1 e.symm) (s.a2 B a) b
  ·exact s.d1 B a b
  ·exact hij rfl
  ·exact h.dis _ _ B (fun e=>b1 e.symm) (s.a1 B a) b
  ·exact h.dis _ _ B a1 a (s.b2 B b)
  ·exact h.dis _ _ B a1 a (s.b1 B b)
  ·exact h.dis _ _ B hij a b
 ·rcases ho i B q with ⟨rfl,b⟩|⟨rfl,b⟩|⟨b1,b2,b⟩
  ·rw[put_at];exact s.c2 B b
  ·rw[put_off _ hxy,put_at];exact s.c1 B b
  ·rw[put_off _ b2,put_off _ b1];exact h.own i B b
 ·rcases hk i B q with ⟨rfl,a⟩|⟨rfl,a⟩|⟨a1,a2,a⟩
  ·exact h.low x B (s.a2 B a)
  ·exact h.low _ B (s.a1 B a)
  ·exact h.low i B a
theorem Apt.merge{Out:Nat→Prop}{top:Nat}{kn ow:Who→Nat→Prop}(h:Apt Out top kn ow){x y:Who}(hxy:x≠y):Apt Out top (put (put kn y noP) x (orP (kn x) (kn y))) (put (put ow y noP) x (orP (ow x) (ow y))):=by
 have hq:∀(f:Who→Nat→Prop) z B,put (put f y noP) x (orP (f x) (f y)) z B→z≠y∧(f z B∨(z=x∧f y B)):=fun f z B q=>by
  unfold put at q;split at q
  ·next e=>exact ⟨fun e2=>hxy (e.symm.trans e2),q.imp (fun q=>by rw[e];exact q) (fun q=>⟨e,q⟩)⟩
  ·split at q
   ·exact q.elim
   ·next e=>exact ⟨e,.inl q⟩
 refine ⟨fun i j B hij q1 q2=>?_,fun i B q=>?_,fun i B q=>?_⟩
 ·obtain ⟨a1,a⟩:=hq kn i B q1
  obtain ⟨b1,b⟩:=hq ow j B q2
  rcases a with a|⟨rfl,a⟩<;>rcases b with b|⟨rfl,b⟩
  ·exact h.dis _ _ B hij a b
  ·exact h.dis _ _ B a1 a b
  ·exact h.dis _ _ B (fun e=>b1 e.symm) a b
  ·exact hij rfl
 ·obtain ⟨a1,a⟩:=hq ow i B q
  by_cases e:i=x
  ·subst e
   rw[put_at]
   rcases a with a|⟨_,a⟩
   ·exact .inl (h.own _ B a)
   ·exact .inr (h.own _ B a)
  ·rw[put_off _ e,put_off _ a1]
   rcases a with a|⟨z,_⟩
   ·exact h.own _ B a
   ·exact absurd z e
 ·obtain ⟨a1,a⟩:=hq kn i B q
  rcases a with a|⟨_,a⟩
  ·exact h.low _ B a
  ·exact h.low _ B a
def ChanAt (M:Msg) (W:World) (t:Trace) (kn ow:Who→Nat→Prop) (c cap s r:Nat):Prop:=
 ∃buf:Array Value,W.heap[c]?=some (.chan cap buf false s r false)∧r+buf.size=s∧∀k v,buf[k]?=some v→∃p,M c (r+k) v W (kn (.inr (c,r+k))) (ow (.inr (c,r+k)))∧SentAt t c (r+k) p∧(∀B,kn (.inr (c,r+k)) B→RdAt t p B)∧(∀B,ow (.inr (c,r+k)) B→WrAt t p B)
structure Net (M:Msg) (Out Sh:Nat→Prop) (W:World) (t:Trace) (kn ow:Who→Nat→Prop) (chs:List Nat) (cap snt rcv:Nat→Nat):Prop where
 safe:Safe Sh t (fun i=>kn (.inl i)) (fun i=>ow (.inl i)) W.heap.size
 apt:Apt Out W.heap.size kn ow
 sh:∀B,Sh B→Out B
 chan:∀c,c∈chs→Out c∧c<W.heap.size∧¬Sh c∧ChanAt M W t kn ow c (cap c) (snt c) (rcv c)
 msg:∀c j,¬(c∈chs∧rcv c≤j∧j<snt c)→∀B,¬kn (.inr (c,j)) B
theorem EvS.touch{kn ow:Nat→Prop}{top top1:Nat}{e:Event}(h:EvS kn ow top top1 e){a:Touch}(ha:(MemAct.ofEvent e).touch?=some a){B:Nat}(hB:blkOf a.loc=some B):B<top1∧(B<top→kn B∧(a.write=true→ow B)):=by
 rcases h with ⟨x,wr,rfl,h2,h3⟩|⟨b,wr,s,rfl,h2,h3⟩|rfl
 ·simp only[MemAct.ofEvent,MemAct.touch?,Option.some.injEq]at ha
  subst ha
  simp only[blkOf,Option.some.injEq]at hB
  subst hB
  exact ⟨h2,h3⟩
 ·cases wr<;>cases s<;>simp only[MemAct.ofEvent,MemAct.touch?,Option.some.injEq,reduceCtorEq]at ha<;>(subst ha;simp only[blkOf,Option.some.injEq]at hB;subst hB;exact ⟨h2,fun q=>⟨(h3 q).2,fun _=>(h3 q).1⟩⟩)
 ·simp only[MemAct.ofEvent,MemAct.touch?,reduceCtorEq]at ha
theorem EvS.low{kn ow:Nat→Prop}{top top1:Nat}{e:Event}(h:EvS kn ow top top1 e):(MemAct.ofEvent e).low top1:=by
 rcases h with ⟨x,wr,rfl,h2,h3⟩|⟨b,wr,s,rfl,h2,h3⟩|rfl
 ·exact h2
 ·cases wr<;>cases s<;>exact h2
 ·trivial
section
variable {M:Msg} {Out Sh:Nat→Prop} {W W1:World} {t:Trace} {kn ow:Who→Nat→Prop} {chs:List Nat} {cap snt rcv:Nat→Nat}
theorem inl_ne{i j:Nat}(h:i≠j):(Sum.inl i:Who)≠.inl j:=fun e=>h (Sum.inl.inj e)
theorem inr_inl(x:Nat×Nat)(j:Nat):(Sum.inr x:Who)≠.inl j:=fun e=>by cases e
theorem inl_inr(j:Nat)(x:Nat×Nat):(Sum.inl j:Who)≠.inr x:=fun e=>by cases e
theorem Net.own1(h:Net M Out Sh W t kn ow chs cap snt rcv)(hM:M.Fast){i:Nat}{kn1 ow1:Nat→Prop}{es:Array Event}(hq:Own1 (kn (.inl i)) (ow (.inl i)) kn1 ow1 W W1 es)(hnew:∀B,W.heap.size≤B→¬Out B)(fn:FuncId)(pos:String):
  Net M Out Sh W1 (t++MemOp.ofEvents i fn pos es) (put kn (.inl i) kn1) (put ow (.inl i) ow1) chs cap snt rcv:=by
 have hsh:∀B,¬Out B→¬Sh B:=fun B q z=>q (h.sh B z)
 have htc:∀op∈MemOp.ofEvents i fn pos es,∀a,op.act.touch?=some a→TcOk Sh t (fun i=>kn (.inl i)) (fun i=>ow (.inl i)) W.heap.size i a:=fun op hop a ha B hB=>by
  obtain ⟨e,he,rfl⟩:=Conc.mem_ofEvents hop
  obtain ⟨q1,q2⟩:=(hq.evs e he).touch ha hB
  refine .inr ⟨hsh B ?_,q2⟩
  rcases Nat.lt_or_ge B W.heap.size with z|z
  ·exact (h.apt.low _ B (q2 z).1).2
  ·exact hnew B z
 have hkp:∀j B,put kn (.inl i) kn1 j B→B<W.heap.size→kn j B:=fun j B q z=>by
  unfold put at q;split at q
  ·next e=>subst e;exact hq.kn B q z
  ·exact q
 have hop':∀j B,put ow (.inl i) ow1 j B→B<W.heap.size→ow j B:=fun j B q z=>by
  unfold put at q;split at q
  ·next e=>subst e;exact hq.ow B q z
  ·exact q
 have hownk:∀j B,put ow (.inl i) ow1 j B→put kn (.inl i) kn1 j B:=fun j B q=>by
  unfold put at q ⊢;split at q
  ·next e=>rw[if_pos e];exact hq.owk B q
  ·next e=>rw[if_neg e];exact h.apt.own j B q
 have hge:∀j B,put kn (.inl i) kn1 j B→W.heap.size≤B→j=.inl i:=fun j B q z=>by
  unfold put at q;split at q
  ·next e=>exact e
  ·exact absurd (h.apt.low j B q).1 (Nat.not_lt.2 z)
 refine ⟨h.safe.own (fun op hop=>by obtain ⟨e,_,rfl⟩:=Conc.mem_ofEvents hop;rfl) htc (fun op hop=>by obtain ⟨e,he,rfl⟩:=Conc.mem_ofEvents hop;exact (hq.evs e he).low) hq.size (fun j B q=>hkp (.inl j) B q) (fun j B q=>hop' (.inl j) B q) (fun j B q1 _ q3=>Sum.inl.inj (hge (.inl j) B (q3.elim id (hownk (.inl j) B)) q1)) (fun j B q1 q2 _=>h.apt.dis _ _ B (inl_ne fun e=>q1 e.symm) q2) (fun j B q1 q2 _ q4=>h.apt.dis _ _ B (inl_ne q1) q4 q2),⟨fun a b B hab q1 q2=>?_,hownk,fun j B q=>?_⟩,h.sh,fun c hc=>?_,fun c j hj B q=>?_⟩
 ·rcases Nat.lt_or_ge B W.heap.size with z|z
  ·exact h.apt.dis a b B hab (hkp a B q1 z) (hop' b B q2 z)
  ·exact hab ((hge a B q1 z).trans (hge b B (hownk b B q2) z).symm)
 ·rcases Nat.lt_or_ge B W.heap.size with z|z
  ·exact ⟨Nat.lt_of_lt_of_le z hq.size,(h.apt.low j B (hkp j B q z)).2⟩
  ·have e:=hge j B q z
   subst e
   exact ⟨hq.knl B ((put_self kn _ kn1 B).1 q),hnew B z⟩
 ·obtain ⟨c1,c2,c3,buf,c4,c5,c6⟩:=h.chan c hc
  refine ⟨c1,Nat.lt_of_lt_of_le c2 hq.size,c3,buf,?_,c5,fun k v hk=>?_⟩
  ·rw[hq.keep c c2 (fun z=>(h.apt.low _ c (h.apt.own _ c z)).2 c1)];exact c4
  ·obtain ⟨p,m1,m2,m3,m4⟩:=c6 k v hk
   rw[put_off _ (inr_inl _ _),put_off _ (inr_inl _ _)]
   have hlow:∀B,kn (.inr (c,rcv c+k)) B→B<W.heap.size:=fun B q=>(h.apt.low _ B q).1
   refine ⟨p,hM _ _ _ _ _ _ _ m1 ⟨hq.size,fun B q1 q2=>hq.keep B q2 (h.apt.dis _ _ B (inr_inl _ _) q1),hq.bare⟩,m2.app _,fun B q=>(m3 B q).app fun x hx a ha hb hw=>?_,fun B q=>(m4 B q).app fun x hx a ha hb=>?_⟩
   ·obtain ⟨e,he,rfl⟩:=Conc.mem_ofEvents hx
    exact h.apt.dis _ _ B (inr_inl _ i) q (((hq.evs e he).touch ha hb).2 (hlow B q)|>.2 hw)
   ·obtain ⟨e,he,rfl⟩:=Conc.mem_ofEvents hx
    exact h.apt.dis _ _ B (inl_inr i _) (((hq.evs e he).touch ha hb).2 (hlow B (h.apt.own _ B q))).1 q
 ·rw[put_off _ (inr_inl _ _)]at q
  exact h.msg c j hj B q
theorem bare_setChan(W:World)(c cap:Nat)(buf:Array Value)(cl:Bool)(s r:Nat)(tm:Bool):bare (W.setChan c cap buf cl s r tm)=bare W:=rfl
theorem size_setChan(W:World)(c cap:Nat)(buf:Array Value)(cl:Bool)(s r:Nat)(tm:Bool):(W.setChan c cap buf cl s r tm).heap.size=W.heap.size:=by simp[World.setChan]
theorem get_setChan(W:World)(c cap:Nat)(buf:Array Value)(cl:Bool)(s r:Nat)(tm:Bool){B:Nat}(h:B≠c):(W.setChan c cap buf cl s r tm).heap[B]?=W.heap[B]?:=by
 show (W.heap.setIfInBounds c _)[B]?=_
 rw[Array.getElem?_setIfInBounds_ne (fun e=>h e.symm)]
theorem at_setChan(W:World){c:Nat}(cap:Nat)(buf:Array Value)(cl:Bool)(s r:Nat)(tm:Bool)(h:c<W.heap.size):(W.setChan c cap buf cl s r tm).heap[c]?=some (.chan cap buf cl s r tm):=by
 show (W.heap.setIfInBounds c _)[c]?=_
 rw[Array.getElem?_setIfInBounds_self_of_lt h]
theorem Ext.chan{kn:Nat→Prop}{W:World}{c:Nat}(h:¬kn c)(cap:Nat)(buf:Array Value)(cl:Bool)(s r:Nat)(tm:Bool):Ext kn W (W.setChan c cap buf cl s r tm):=
 ⟨by rw[size_setChan];exact Nat.le_refl _,fun B q _=>get_setChan W c cap buf cl s r tm (fun e=>h (e▸q)),bare_setChan ..⟩
theorem Net.beside(h:Net M Out Sh W t kn ow chs cap snt rcv)(hM:M.Fast){c:Nat}(hc:c∈chs){u:Trace}(hu:Mute u)(hl:∀op∈u,op.act.low W.heap.size){kn' ow':Who→Nat→Prop}(cp:Nat)(buf:Array Value)(s r:Nat)
  (hk:∀i B,kn' (.inl i) B→kn (.inl i) B∨RdOk (t++u) i B) (ho:∀i B,ow' (.inl i) B→ow (.inl i) B∨WrOk (t++u) i B) (hm:∀d j,d≠c→kn' (.inr (d,j))=kn (.inr (d,j))∧ow' (.inr (d,j))=ow (.inr (d,j))):
  Safe Sh (t++u) (fun i=>kn' (.inl i)) (fun i=>ow' (.inl i)) W.heap.size∧(∀c',c'∈chs→c'≠c→Out c'∧c'<W.heap.size∧¬Sh c'∧ChanAt M (W.setChan c cp buf false s r false) (t++u) kn' ow' c' (cap c') (snt c') (rcv c')):=by
 obtain ⟨c1,c2,c3,_⟩:=h.chan c hc
 refine ⟨(h.safe.quiet (fun op hop=>(hu op hop).1) hl).more (fun i B q _ _=>hk i B q) (fun i B q _ _=>ho i B q),fun c' hc' hne=>?_⟩
 obtain ⟨d1,d2,d3,bf,d4,d5,d6⟩:=h.chan c' hc'
 refine ⟨d1,d2,d3,bf,by rw[get_setChan _ _ _ _ _ _ _ _ hne];exact d4,d5,fun k v hk'=>?_⟩
 obtain ⟨p,m1,m2,m3,m4⟩:=d6 k v hk'
 rw[(hm c' _ hne).1,(hm c' _ hne).2]
 exact ⟨p,hM _ _ _ _ _ _ _ m1 (Ext.chan (fun z=>(h.apt.low _ c z).2 c1) ..),m2.app _,fun B q=>hu.rd (m3 B q),fun B q=>hu.wr (m4 B q)⟩
def bump (f:Nat→Nat) (c:Nat):Nat→Nat:=fun d=>if d=c then f d+1 else f d
theorem bump_self(f:Nat→Nat)(c:Nat):bump f c c=f c+1:=if_pos rfl
theorem bump_ne(f:Nat→Nat){c d:Nat}(h:d≠c):bump f c d=f d:=if_neg h
def gives (f:Who→Nat→Prop) (i c j:Nat) (x y:Nat→Prop):Who→Nat→Prop:=put (put f (.inl i) x) (.inr (c,j)) y
def takes (f:Who→Nat→Prop) (i c j:Nat):Who→Nat→Prop:=put (put f (.inr (c,j)) noP) (.inl i) (orP (f (.inl i)) (f (.inr (c,j))))
theorem gives_self(f:Who→Nat→Prop)(i c j:Nat)(x y:Nat→Prop):gives f i c j x y (.inl i)=x:=by unfold gives;rw[put_off _ (inl_inr _ _),put_at]
theorem gives_off(f:Who→Nat→Prop){i k:Nat}(hk:k≠i)(c j:Nat)(x y:Nat→Prop):gives f i c j x y (.inl k)=f (.inl k):=by unfold gives;rw[put_off _ (inl_inr _ _),put_off _ (inl_ne hk)]
theorem gives_msg(f:Who→Nat→Prop)(i c j:Nat)(x y:Nat→Prop):gives f i c j x y (.inr (c,j))=y:=put_at ..
theorem gives_oth(f:Who→Nat→Prop)(i c j:Nat)(x y:Nat→Prop){m:Nat×Nat}(hm:m≠(c,j)):gives f i c j x y (.inr m)=f (.inr m):=by unfold gives;rw[put_off _ (fun e=>hm (Sum.inr.inj e)),put_off _ (inr_inl _ _)]
theorem takes_self(f:Who→Nat→Prop)(i c j:Nat):takes f i c j (.inl i)=orP (f (.inl i)) (f (.inr (c,j))):=put_at ..
theorem takes_off(f:Who→Nat→Prop){i k:Nat}(hk:k≠i)(c j:Nat):takes f i c j (.inl k)=f (.inl k):=by unfold takes;rw[put_off _ (inl_ne hk),put_off _ (inl_inr _ _)]
theorem takes_msg(f:Who→Nat→Prop)(i c j:Nat):takes f i c j (.inr (c,j))=noP:=by unfold takes;rw[put_off _ (inr_inl _ _),put_at]
theorem takes_oth(f:Who→Nat→Prop)(i c j:Nat){m:Nat×Nat}(hm:m≠(c,j)):takes f i c j (.inr m)=f (.inr m):=by unfold takes;rw[put_off _ (inr_inl _ _),put_off _ (fun e=>hm (Sum.inr.inj e))]
theorem gives_had{f:Who→Nat→Prop}{i c j:Nat}{x y:Nat→Prop}(hx:∀B,x B→f (.inl i) B)(hy:∀B,y B→f (.inl i) B)(z:Who)(B:Nat)(h:gives f i c j x y z B):∃w,f w B:=by
 unfold gives at h
 by_cases e:z=.inr (c,j)
 ·subst e;rw[put_at]at h;exact ⟨_,hy B h⟩
 ·rw[put_off _ e]at h
  by_cases e2:z=.inl i
  ·subst e2;rw[put_at]at h;exact ⟨_,hx B h⟩
  ·rw[put_off _ e2]at h;exact ⟨_,h⟩
theorem takes_had{f:Who→Nat→Prop}{i c j:Nat}(z:Who)(B:Nat)(h:takes f i c j z B):∃w,f w B:=by
 unfold takes at h
 by_cases e:z=.inl i
 ·subst e;rw[put_at]at h;exact h.elim (fun q=>⟨_,q⟩) fun q=>⟨_,q⟩
 ·rw[put_off _ e]at h
  by_cases e2:z=.inr (c,j)
  ·subst e2;rw[put_at]at h;exact h.elim
  ·rw[put_off _ e2]at h;exact ⟨_,h⟩
theorem ne_pair{c j d k:Nat}(h:d≠c∨k≠j):(d,k)≠(c,j):=fun e=>h.elim (fun q=>q (Prod.mk.inj e).1) (fun q=>q (Prod.mk.inj e).2)
theorem Net.send(h:Net M Out Sh W t kn ow chs cap snt rcv)(hM:M.Fast){i c:Nat}(hc:c∈chs){v:Value}{mb mo k1 o1:Nat→Prop}(hd:Deaf t i=0)(hm:M c (snt c) v W mb mo)(hs:Split (kn (.inl i)) (ow (.inl i)) k1 o1 mb mo)(fn:FuncId)(pos:String):
  ∃buf,W.heap[c]?=some (.chan (cap c) buf false (snt c) (rcv c) false)∧rcv c+buf.size=snt c∧
   Net M Out Sh (W.setChan c (cap c) (buf.push v) false (snt c+1) (rcv c) false) (t++#[{ g:=i,fn,pos,act:=.send c (snt c) },{ g:=i,fn,pos,act:=.sendDone c (snt c) }]) (gives kn i c (snt c) k1 mb) (gives ow i c (snt c) o1 mo) chs cap (bump snt c) rcv:=by
 obtain ⟨c1,c2,c3,buf,c4,c5,c6⟩:=h.chan c hc
 refine ⟨buf,c4,c5,?_⟩
 obtain ⟨u,hu,hsent,hrd,hwr⟩:=laid_down (t:=t) (i:=i) (c:=c) (s:=snt c) (fn:=fn) (pos:=pos) hd
 rw[←hu]
 have hmu:Mute u:=by rw[hu];exact mute_send
 have hl:∀op∈u,op.act.low W.heap.size:=fun op hop=>by
  rw[hu]at hop
  simp only[List.mem_toArray,List.mem_cons,List.not_mem_nil,or_false]at hop
  rcases hop with rfl|rfl<;>exact c2
 have hnone:∀B,¬kn (.inr (c,snt c)) B:=h.msg c (snt c) (fun q=>Nat.lt_irrefl _ q.2.2)
 obtain ⟨b1,b3⟩:=h.beside hM hc hmu hl (kn':=gives kn i c (snt c) k1 mb) (ow':=gives ow i c (snt c) o1 mo) (cap c) (buf.push v) (snt c+1) (rcv c)
  (fun a B q=>by
   by_cases e:a=i
   ·subst e;rw[gives_self]at q;exact .inl (hs.a1 B q)
   ·rw[gives_off _ e]at q;exact .inl q)
  (fun a B q=>by
   by_cases e:a=i
   ·subst e;rw[gives_self]at q;exact .inl (hs.b1 B q)
   ·rw[gives_off _ e]at q;exact .inl q)
  (fun d j e=>⟨gives_oth _ _ _ _ _ _ (ne_pair (.inl e)),gives_oth _ _ _ _ _ _ (ne_pair (.inl e))⟩)
 refine ⟨by rw[size_setChan];exact b1,by rw[size_setChan];exact h.apt.split (inl_inr _ _) hnone hs,h.sh,fun c' hc'=>?_,fun d j hj B q=>?_⟩
 ·by_cases e:c'=c
  ·subst e
   refine ⟨c1,by rw[size_setChan];exact c2,c3,buf.push v,by rw[at_setChan _ _ _ _ _ _ _ c2,bump_self],by rw[Array.size_push,bump_self];omega,fun k x hk=>?_⟩
   rcases Nat.lt_trichotomy k buf.size with z|z|z
   ·rw[Array.getElem?_push_lt z]at hk
    obtain ⟨p,m1,m2,m3,m4⟩:=c6 k x (by rw[Array.getElem?_eq_getElem z];exact hk)
    have hne:(c',rcv c'+k)≠(c',snt c'):=ne_pair (.inr (by omega))
    rw[gives_oth _ _ _ _ _ _ hne,gives_oth _ _ _ _ _ _ hne]
    exact ⟨p,hM _ _ _ _ _ _ _ m1 (Ext.chan (fun z=>(h.apt.low _ c' z).2 c1) ..),m2.app _,fun B q=>hmu.rd (m3 B q),fun B q=>hmu.wr (m4 B q)⟩
   ·subst z
    rw[Array.getElem?_push_size]at hk
    obtain rfl:=Option.some.inj hk
    rw[c5,gives_msg,gives_msg]
    refine ⟨t.size,hM _ _ _ _ _ _ _ hm (Ext.chan (fun z=>(h.apt.low _ c' (hs.a2 c' z)).2 c1) ..),hsent,fun B q=>?_,fun B q=>?_⟩
    ·have hl':=h.apt.low _ B (hs.a2 B q)
     exact hrd B (h.safe.rd i B (hs.a2 B q) hl'.1 (fun z=>hl'.2 (h.sh B z)))
    ·have hl':=h.apt.low _ B (hs.a2 B (hs.c2 B q))
     exact hwr B (h.safe.wr i B (hs.b2 B q) hl'.1 (fun z=>hl'.2 (h.sh B z)))
   ·rw[Array.getElem?_eq_none (by rw[Array.size_push];omega)]at hk
    cases hk
  ·obtain ⟨d1,d2,d3,d4⟩:=b3 c' hc' e
   exact ⟨d1,by rw[size_setChan];exact d2,d3,by rw[bump_ne _ e];exact d4⟩
 ·by_cases e:(d,j)=(c,snt c)
  ·obtain ⟨rfl,rfl⟩:=Prod.mk.inj e
   exact hj ⟨hc,by omega,by rw[bump_self];omega⟩
  ·rw[gives_oth _ _ _ _ _ _ e]at q
   refine h.msg d j (fun z=>hj ⟨z.1,z.2.1,?_⟩) B q
   have:=z.2.2
   unfold bump;split<;>omega
theorem Net.recv(h:Net M Out Sh W t kn ow chs cap snt rcv)(hM:M.Fast){j c:Nat}(hc:c∈chs)(hd:Deaf t j=0)(hsome:rcv c<snt c)(fn:FuncId)(pos:String)(cp:Nat):
  ∃buf v,W.heap[c]?=some (.chan (cap c) buf false (snt c) (rcv c) false)∧rcv c+buf.size=snt c∧0<buf.size∧buf.getD 0 undef=v∧M c (rcv c) v W (kn (.inr (c,rcv c))) (ow (.inr (c,rcv c)))∧
   Net M Out Sh (W.setChan c (cap c) (buf.extract 1 buf.size) false (snt c) (rcv c+1) false) (t++#[{ g:=j,fn,pos,act:=.recv c (rcv c) cp },{ g:=j,fn,pos,act:=.recvDone c (rcv c) }]) (takes kn j c (rcv c)) (takes ow j c (rcv c)) chs cap snt (bump rcv c):=by
 obtain ⟨c1,c2,c3,buf,c4,c5,c6⟩:=h.chan c hc
 have h0:0<buf.size:=by omega
 obtain ⟨p,m1,m2,m3,m4⟩:=c6 0 buf[0] (Array.getElem?_eq_getElem h0)
 rw[Nat.add_zero]at m1 m2 m3 m4
 refine ⟨buf,buf[0],c4,c5,h0,by simp[Array.getD,h0],m1,?_⟩
 obtain ⟨u,hu,hrd,hwr⟩:=taken_up (t:=t) (j:=j) (c:=c) (r:=rcv c) (cap:=cp) (fn:=fn) (pos:=pos) m2 hd
 rw[←hu]
 have hmu:Mute u:=by rw[hu];exact mute_recv
 have hl:∀op∈u,op.act.low W.heap.size:=fun op hop=>by
  rw[hu]at hop
  simp only[List.mem_toArray,List.mem_cons,List.not_mem_nil,or_false]at hop
  rcases hop with rfl|rfl<;>exact c2
 obtain ⟨b1,b3⟩:=h.beside hM hc hmu hl (kn':=takes kn j c (rcv c)) (ow':=takes ow j c (rcv c)) (cap c) (buf.extract 1 buf.size) (snt c) (rcv c+1)
  (fun a B q=>by
   by_cases e:a=j
   ·subst e;rw[takes_self]at q;exact q.imp id fun z=>hrd B (m3 B z)
   ·rw[takes_off _ e]at q;exact .inl q)
  (fun a B q=>by
   by_cases e:a=j
   ·subst e;rw[takes_self]at q;exact q.imp id fun z=>hwr B (m4 B z)
   ·rw[takes_off _ e]at q;exact .inl q)
  (fun d k e=>⟨takes_oth _ _ _ _ (ne_pair (.inl e)),takes_oth _ _ _ _ (ne_pair (.inl e))⟩)
 refine ⟨by rw[size_setChan];exact b1,by rw[size_setChan];exact h.apt.merge (inl_inr _ _),h.sh,fun c' hc'=>?_,fun d k hk B q=>?_⟩
 ·by_cases e:c'=c
  ·subst e
   refine ⟨c1,by rw[size_setChan];exact c2,c3,buf.extract 1 buf.size,by rw[at_setChan _ _ _ _ _ _ _ c2,bump_self],by rw[Array.size_extract,bump_self];omega,fun k x hk'=>?_⟩
   have hk2:buf[k+1]?=some x:=by
    rw[Array.getElem?_extract]at hk'
    split at hk'
    ·rw[Nat.add_comm];exact hk'
    ·cases hk'
   obtain ⟨p',n1,n2,n3,n4⟩:=c6 (k+1) x hk2
   have hne:(c',rcv c'+(k+1))≠(c',rcv c'):=ne_pair (.inr (by omega))
   rw[bump_self,show rcv c'+1+k=rcv c'+(k+1) by omega,takes_oth _ _ _ _ hne,takes_oth _ _ _ _ hne]
   exact ⟨p',hM _ _ _ _ _ _ _ n1 (Ext.chan (fun z=>(h.apt.low _ c' z).2 c1) ..),n2.app _,fun B q=>hmu.rd (n3 B q),fun B q=>hmu.wr (n4 B q)⟩
  ·obtain ⟨d1,d2,d3,d4⟩:=b3 c' hc' e
   exact ⟨d1,by rw[size_setChan];exact d2,d3,by rw[bump_ne _ e];exact d4⟩
 ·by_cases e:(d,k)=(c,rcv c)
  ·rw[e,takes_msg]at q
   exact q
  ·rw[takes_oth _ _ _ _ e]at q
   refine h.msg d k (fun z=>hk ⟨z.1,?_,z.2.2⟩) B q
   have:=z.2.1
   unfold bump
   split
   ·next e2=>subst e2;have:k≠rcv d:=fun e3=>e (by rw[e3]);omega
   ·exact this
end
end Go.Proofs.Ytniloklglpchfai
