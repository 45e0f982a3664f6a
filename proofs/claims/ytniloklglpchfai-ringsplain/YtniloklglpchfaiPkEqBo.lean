/- Many that are started and waited for: where each stands. No program in sight. -/
import Derived.Test.YtniloklglpchfaiPkEqBk
import Derived.Test.YtniloklglpchfaiEqWb
import Derived.Test.YtniloklglpchfaiEqWc
namespace Go.Proofs.Ytniloklglpchfai
open Go Go.Conc
open Go.ConcN (CTag WD WgLive)
open Go.ConcR (KK WgAt stA smA rd wr mk DC0)
theorem rg_trans{ty:TypeId}{Wg:Nat}(a b c:World)(h:RG ty Wg a b)(k:RG ty Wg b c):RG ty Wg a c:=fun x=>k (h x)
theorem rg_refl{ty:TypeId}{Wg:Nat}(a:World):RG ty Wg a a:=id
def WS (P:Program) (ty:TypeId) (Wg:Nat) (s m d:Nat) (g:Goroutine) (w:World):Prop:=
 match s with
 |7=>d=0∧Goes P false (RG ty Wg) DC0 (StR0 P ty Wg) m g w
 |6=>d=0∧Goes P false (RG ty Wg) DC0 (StK1 P ty Wg) m g w
 |5=>d=1∧Goes P false (RG ty Wg) DC0 (StD1 P ty Wg) m g w
 |4=>d=1∧Goes P false (RG ty Wg) DC0 (StD2 P ty Wg) m g w
 |3=>d=1∧Goes P false (RG ty Wg) DC0 (StD3 P ty Wg) m g w
 |2=>d=1∧Goes P false (RG ty Wg) DC0 (StD4 P ty Wg) m g w
 |1=>QuitsD P m d g
 |_=>False
theorem WS.rely{P:Program}{ty:TypeId}{Wg s m d:Nat}{g:Goroutine}{w w':World}(h:WS P ty Wg s m d g w)(hr:RG ty Wg w w'):WS P ty Wg s m d g w':=by
 unfold WS at h ⊢
 split at h
 ·exact ⟨h.1,Goes.rely rg_trans h.2 hr⟩
 ·exact ⟨h.1,Goes.rely rg_trans h.2 hr⟩
 ·exact ⟨h.1,Goes.rely rg_trans h.2 hr⟩
 ·exact ⟨h.1,Goes.rely rg_trans h.2 hr⟩
 ·exact ⟨h.1,Goes.rely rg_trans h.2 hr⟩
 ·exact ⟨h.1,Goes.rely rg_trans h.2 hr⟩
 ·exact h
 ·exact h
theorem WS.status{P:Program}{ty:TypeId}{Wg s m d:Nat}{g:Goroutine}{w:World}(h:WS P ty Wg s m d g w):g.status=.running∨(g.status=.finished∧s=1):=by
 unfold WS at h
 split at h
 ·exact .inl (Goes.running (fun _ _ x=>x.1) w (rg_refl w) h.2)
 ·exact .inl (Goes.running (fun _ _ x=>x.1) w (rg_refl w) h.2)
 ·exact .inl (Goes.running (fun _ _ x=>x.1) w (rg_refl w) h.2)
 ·exact .inl (Goes.running (fun _ _ x=>x.1) w (rg_refl w) h.2)
 ·exact .inl (Goes.running (fun _ _ x=>x.1) w (rg_refl w) h.2)
 ·exact .inl (Goes.running (fun _ _ x=>x.1) w (rg_refl w) h.2)
 ·exact h.status.imp id fun q=>⟨q,rfl⟩
 ·exact h.elim
theorem WS.woken{P:Program}{ty:TypeId}{Wg s m d:Nat}{g:Goroutine}{w:World}(h:WS P ty Wg s m d g w)(a a':Goroutine)(W1:World):Conc.woken P a a' W1 g=g:=by
 unfold Conc.woken
 split
 ·exact again_running _ (h.status.imp id fun q=>q.1)
 ·rfl
theorem WS.offers{P:Program}{ty:TypeId}{Wg s m d:Nat}{g:Goroutine}{w:World}(h:WS P ty Wg s m d g w)(c:Nat)(b:Bool):offersAt g c b=[]:=
 offersAt_of_not_blocked (by rcases h.status with q|⟨q,_⟩<;>rw[q]<;>simp) c b
structure Kp (base:World) (N0:Nat) (Out:Nat→Prop) (W:World) (ow:Who→Nat→Prop):Prop where
 bare:bare W=bare base
 blk:∀B,B<N0→W.heap[B]?=base.heap[B]?
 own:∀x B,ow x B→N0≤B
 out:∀B,Out B→N0≤B
 size:N0≤W.heap.size
section
variable {base:World} {N0:Nat} {Out:Nat→Prop} {W W':World} {ow ow':Who→Nat→Prop}
theorem Kp.turn(h:Kp base N0 Out W ow){i:Who}{chs:List Nat}(hg:W.heap.size≤W'.heap.size)(hb:Go.Proofs.Ytniloklglpchfai.bare W'=Go.Proofs.Ytniloklglpchfai.bare W)(hk:∀B,B<W.heap.size→¬ow i B→B ∉ chs→W'.heap[B]?=W.heap[B]?)(hc:∀c,c∈chs→Out c)(ho:∀x B,ow' x B→(∃y,ow y B)∨W.heap.size≤B):Kp base N0 Out W' ow':=
 ⟨hb.trans h.bare,fun B hB=>(hk B (Nat.lt_of_lt_of_le hB h.size) (fun q=>absurd hB (Nat.not_lt.2 (h.own _ B q))) (fun q=>absurd hB (Nat.not_lt.2 (h.out B (hc B q))))).trans (h.blk B hB),fun x B q=>(ho x B q).elim (fun ⟨y,z⟩=>h.own y B z) fun z=>Nat.le_trans h.size z,h.out,Nat.le_trans h.size hg⟩
theorem Kp.same(h:Kp base N0 Out W ow){X:Nat}(hX:Out X)(hs:W'.heap.size=W.heap.size)(hb:Go.Proofs.Ytniloklglpchfai.bare W'=Go.Proofs.Ytniloklglpchfai.bare W)(hk:∀B,B≠X→W'.heap[B]?=W.heap[B]?)(ho:∀x B,ow' x B→∃y,ow y B):Kp base N0 Out W' ow':=
 ⟨hb.trans h.bare,fun B hB=>(hk B (fun q=>absurd hB (Nat.not_lt.2 (h.out B (q▸hX))))).trans (h.blk B hB),fun x B q=>let ⟨y,z⟩:=ho x B q;h.own y B z,h.out,by rw[hs];exact h.size⟩
theorem Kp.less(h:Kp base N0 Out W ow)(ho:∀x B,ow' x B→∃y,ow y B):Kp base N0 Out W ow':=⟨h.bare,h.blk,fun x B q=>let ⟨y,z⟩:=ho x B q;h.own y B z,h.out,h.size⟩
theorem Kp.at(h:Kp base N0 Out W ow)(d:Nat):Kp base N0 Out (W.at d) ow:=⟨h.bare,h.blk,h.own,h.out,h.size⟩
end
structure Bo where
 E:Env
 M:Msg
 chs:List Nat
 cap:Nat→Nat
 rdr:Nat→Nat
 wtr:Nat→Nat
 Out:Nat→Prop
 Sh:Nat→Prop
 ty:TypeId
 Wg:Nat
 b0:Nat
 nk:Nat
 scr:Nat→List Cm
 Res:Nat→World→(Nat→Prop)→(Nat→Prop)→Prop
 sc0:List Cm
 Res0:Goroutine→World→(Nat→Prop)→(Nat→Prop)→Prop
 Anch:Goroutine→Goroutine→World→Prop
 base:World
 N0:Nat
section
variable (o:Bo)
abbrev Bo.GM (S:Goroutine→World→Prop) (m:Nat) (g:Goroutine) (W:World):Prop:=Goes o.E.P true (RG o.ty o.Wg) DC0 S m g W
def Bo.FinW (i:Nat):Stand:=fun g W kn ow=>g.status=.running∧(WgLive o.ty o.Wg W→∃m,Goes o.E.P false (RG o.ty o.Wg) DC0 (StR0 o.E.P o.ty o.Wg) m g W)∧o.Res i W kn ow
def Bo.WaitAt:Stand:=fun g W kn ow=>g.status=.running∧∃bk,(WgLive o.ty o.Wg W→∃m,o.GM (StMk o.E.P o.ty o.Wg (ConcR.mk .disable) (o.Anch bk)) m g W)∧o.Res0 bk W kn ow
def Bo.GoAt (i:Nat) (F:Stand) (l:List Cm):Stand:=fun g W kn ow=>g.status=.running∧∃g1 child k1 o1 kc oc,stepG o.E.P true g W=.spawn g1 child W #[]∧Split kn ow k1 o1 kc oc∧(∃n ρ,Path o.E (Run o.E o.M (o.FinW i) (o.scr i)) n ρ child W kc oc)∧∃n ρ,Path o.E (Run o.E o.M F l) n ρ g1 W k1 o1
abbrev Bo.SA (bk:Goroutine):Goroutine→World→Prop:=StMk o.E.P o.ty o.Wg (ConcR.mk .enable) fun g _=>g=bk
def Bo.AddAt (G:Stand):Stand:=fun g W kn ow=>g.status=.running∧(WgLive o.ty o.Wg W→∃bk m,o.GM (StMk o.E.P o.ty o.Wg (ConcR.mk .disable) (StAdd o.E.P o.ty o.Wg (o.SA bk))) m g W∧∀W',Ext kn W W'→∃n ρ,Path o.E G n ρ bk W' kn ow)
def Bo.nextL:Nat→List Cm
 |0=>o.sc0
 |_+1=>[]
def Bo.nextF:Nat→Stand
 |0=>o.WaitAt
 |r+1=>o.AddAt (o.GoAt (o.b0+o.nk - (r+1)) (Bo.nextF r) (o.nextL r))
def Bo.Prom (r:Nat) (bk:Goroutine) (W:World) (kn ow:Nat→Prop):Prop:=∀W',Ext kn W W'→∃n ρ,Path o.E (o.GoAt (o.b0+o.nk - (r+1)) (o.nextF r) (o.nextL r)) n ρ bk W' kn ow
abbrev Bo.SEnd (bk:Goroutine):Goroutine→World→Prop:=StMk o.E.P o.ty o.Wg (ConcR.mk (.acquire (stA o.Wg))) fun g _=>g=bk
def Bo.MS (x r vs m d:Nat) (g:Goroutine) (W:World) (kn ow:Nat→Prop):Prop:=
 match x with
 |28=>d=0∧∃bk r',r=r'+1∧o.GM (StMk o.E.P o.ty o.Wg (ConcR.mk .disable) (StAdd o.E.P o.ty o.Wg (o.SA bk))) m g W∧o.Prom r' bk W kn ow
 |27=>d=1∧∃bk r',r=r'+1∧o.GM (StAdd o.E.P o.ty o.Wg (o.SA bk)) m g W∧o.Prom r' bk W kn ow
 |23=>d=1∧∃bk r',r=r'+1∧o.GM (StMk o.E.P o.ty o.Wg ⟨.mark (.read ⟨o.Wg,1,none⟩),false,true⟩ (o.SA bk)) m g W∧o.Prom r' bk W kn ow
 |22=>d=1∧∃bk r',r=r'+1∧o.GM (o.SA bk) m g W∧o.Prom r' bk W kn ow
 |21=>d=0∧∃bk r',r=r'+1∧o.GM (fun g _=>g=bk) m g W∧o.Prom r' bk W kn ow
 |18=>d=0∧r=0∧∃bk,o.GM (StMk o.E.P o.ty o.Wg (ConcR.mk .disable) (o.Anch bk)) m g W∧o.Res0 bk W kn ow
 |17=>d=1∧r=0∧∃bk,o.GM (o.Anch bk) m g W∧o.Res0 bk W kn ow
 |16=>d=1∧r=0∧∃bk,o.GM (StW1 o.E.P o.ty o.Wg bk (o.Anch bk)) m g W∧o.Res0 bk W kn ow
 |14=>d=1∧r=0∧∃bk,o.GM (StW2 o.E.P o.ty o.Wg bk (o.Anch bk) vs) m g W∧o.Res0 bk W kn ow
 |13=>d=1∧r=0∧∃bk,o.GM (StMk o.E.P o.ty o.Wg ⟨.mark (.write ⟨o.Wg,1,none⟩),false,true⟩ (StW3 o.E.P o.ty o.Wg bk)) m g W∧o.Res0 bk W kn ow
 |12=>d=1∧r=0∧∃bk,o.GM (StW3 o.E.P o.ty o.Wg bk) m g W∧o.Res0 bk W kn ow
 |11=>d=1∧r=0∧∃bk,(∃g0:Goroutine,g={ g0 with status:=.blocked }∧∀w₁,RG o.ty o.Wg W w₁→StW3 o.E.P o.ty o.Wg bk g0 w₁)∧o.Res0 bk W kn ow
 |10=>d=1∧r=0∧∃bk,o.GM (StW4 o.E.P o.ty o.Wg bk) m g W∧o.Res0 bk W kn ow
 |9=>d=1∧r=0∧∃bk,o.GM (StEnd o.E.P o.ty o.Wg bk) m g W∧o.Res0 bk W kn ow
 |8=>d=0∧r=0∧∃bk,o.GM (o.SEnd bk) m g W∧o.Res0 bk W kn ow
 |_=>False
def tagOf (x vs:Nat):CTag:=
 match x with
 |23|22|21|20=>.sp 0 0
 |14=>.w2 vs
 |13|12=>.w3
 |11=>.blk
 |10=>.w4
 |9=>.ke
 |8=>.acq
 |_=>.kd
end
open Go.ConcN (CTag WD WgLive)
open Go.ConcR (KK WgAt stA smA rd wr DC0)
section
variable {E:Env} {M:Msg} {Fin:Nat→Stand} {chs:List Nat} {cap rdr wtr:Nat→Nat} {Out Sh In:Nat→Prop} {gs gs':Array Goroutine} {W W':World} {t u:Trace} {kn ow kn' ow':Who→Nat→Prop} {snt rcv snt' rcv':Nat→Nat} {sc sc':Nat→List Cm} {pk:Nat→Bool} {n:Nat→Nat} {ρ:Nat→Rho} {rk rk':Nat→Rk} {i:Nat}
theorem Turn.ext(U:Turn E chs rdr wtr In i gs gs' W W' u kn ow kn' ow' sc sc' snt snt' rcv rcv' rk rk')(T:Talk E M Fin chs cap rdr wtr Out Sh In gs W t kn ow snt rcv sc pk n ρ)(hi:In i){k:Nat}(hk:¬In k):Ext (kn (.inl k)) W W':=
 ⟨U.grow,fun B q1 q2=>U.keep B q2 (T.net.apt.dis _ _ B (inl_ne fun (e:k=i)=>hk (e▸hi)) q1) (fun hc=>(T.net.apt.low _ B q1).2 (T.net.chan B hc).1),U.plain⟩
theorem Turn.deaf(U:Turn E chs rdr wtr In i gs gs' W W' u kn ow kn' ow' sc sc' snt snt' rcv rcv' rk rk')(k:Nat):Deaf (t++u) k=Deaf t k:=by
 refine Deaf_quiet fun op hop d=>?_
 rcases U.tr with h|⟨kn1,ow1,es,fn,pos,ho,rfl⟩
 ·obtain ⟨-,h2⟩:=h op hop
  unfold deafStep
  cases hact:op.act with
  |mark m=>exact absurd hact (h2 m)
  |_=>rfl
 ·obtain ⟨e,he,rfl⟩:=Conc.mem_ofEvents hop
  exact (ho.evs e he).calm k i d _ _
theorem act_app{t u:Trace}{k:Nat}{a:MemAct}(h:(t++u).act? k=some a):t.act? k=some a∨∃x,x∈u∧x.act=a:=by
 unfold Trace.act? at h
 cases hx:(t++u)[k]? with
 |none=>rw[hx]at h;cases h
 |some x=>
  rw[hx]at h
  rcases getElem?_append_cases hx with ⟨_,q⟩|⟨_,q⟩
  ·exact .inl (by unfold Trace.act?;rw[q];exact h)
  ·exact .inr ⟨x,q,by simpa using h⟩
theorem Turn.norel(U:Turn E chs rdr wtr In i gs gs' W W' u kn ow kn' ow' sc sc' snt snt' rcv rcv' rk rk'){a:Addr}(h:∀k,t.act? k≠some (.mark (.release a)))(k:Nat):(t++u).act? k≠some (.mark (.release a)):=fun q=>by
 rcases act_app q with q|⟨x,hx,q⟩
 ·exact h k q
 ·rcases U.tr with z|⟨kn1,ow1,es,fn,pos,ho,rfl⟩
  ·exact (z x hx).2 _ q
  ·obtain ⟨e,he,rfl⟩:=Conc.mem_ofEvents hx
   rcases ho.evs e he with ⟨y,wr,rfl,_⟩|⟨b,wr,s,rfl,_⟩|rfl
   ·cases wr<;>cases q
   ·cases wr<;>cases s<;>cases q
   ·cases q
theorem Turn.touch(U:Turn E chs rdr wtr In i gs gs' W W' u kn ow kn' ow' sc sc' snt snt' rcv rcv' rk rk'){x:MemOp}(hx:x∈u){b:Touch}(hb:x.act.touch?=some b){B:Nat}(hB:blkOf b.loc=some B)(hlt:B<W.heap.size):kn (.inl i) B∧(b.write=true→ow (.inl i) B):=by
 rcases U.tr with z|⟨kn1,ow1,es,fn,pos,ho,rfl⟩
 ·rw[(z x hx).1]at hb;cases hb
 ·obtain ⟨e,he,rfl⟩:=Conc.mem_ofEvents hx
  exact ((ho.evs e he).touch hb hB).2 hlt
theorem Turn.old(U:Turn E chs rdr wtr In i gs gs' W W' u kn ow kn' ow' sc sc' snt snt' rcv rcv' rk rk')(T:Talk E M Fin chs cap rdr wtr Out Sh In gs W t kn ow snt rcv sc pk n ρ){B k:Nat}(hB:Out B)(hlt:B<W.heap.size)(h:OldOk t k B):OldOk (t++u) k B:=
 h.app fun _ hx _ ha hb=>absurd hB (T.net.apt.low _ B (U.touch hx ha hb hlt).1).2
theorem Turn.rel(U:Turn E chs rdr wtr In i gs gs' W W' u kn ow kn' ow' sc sc' snt snt' rcv rcv' rk rk')(T:Talk E M Fin chs cap rdr wtr Out Sh In gs W t kn ow snt rcv sc pk n ρ)(hi:In i){k q:Nat}{a:Addr}(hk:¬In k)(h:RelAt a t kn ow k q):RelAt a (t++u) kn' ow' k q:=by
 have hne:i≠k:=fun e=>hk (e▸hi)
 refine h.app u (fun B z=>by rw[(U.others k hk).1]at z;exact z) (fun B z=>by rw[(U.others k hk).2]at z;exact z) (fun x hx b hb B hB hw z=>?_) (fun x hx b hb B hB z=>?_)
 ·exact T.net.apt.dis _ _ B (inl_ne fun e=>hne e.symm) z ((U.touch hx hb hB (T.net.apt.low _ B z).1).2 hw)
 ·exact T.net.apt.dis _ _ B (inl_ne hne) (U.touch hx hb hB (T.net.apt.low _ B (T.net.apt.own _ B z)).1).1 z
theorem Turn.relBy(U:Turn E chs rdr wtr In i gs gs' W W' u kn ow kn' ow' sc sc' snt snt' rcv rcv' rk rk')(hi:In i){k q:Nat}{a:Addr}(hk:¬In k)(h:ConcN.RelBy a t k q):ConcN.RelBy a (t++u) k q:=by
 refine h.app fun l hl hg hc=>?_
 obtain ⟨x,hx,_⟩:=hc
 obtain ⟨op,hop,hox⟩:=touch_of hx
 rcases getElem?_append_cases hop with ⟨hi',_⟩|⟨_,hopu⟩
 ·omega
 ·rcases U.tr with z|⟨kn1,ow1,es,fn,pos,ho,rfl⟩
  ·rw[(z op hopu).1]at hox;cases hox
  ·obtain ⟨e,he,rfl⟩:=Conc.mem_ofEvents hopu
   have:i=k:=by simpa [Trace.g?,hop] using hg
   exact hk (this▸hi)
def HandW (b n:Nat) (t:Trace):Prop:=∀k g,t.g? k=some g→g≠0→t.counts k→(∃q,t.g? q=some 0∧HappensBefore t k q)∨(b≤g∧g<b+n)
theorem HandW.app{b n n':Nat}(h:HandW b n t)(hn:n≤n')(hu:∀op∈u,op.g=0∨op.act.touch?=none∨(b≤op.g∧op.g<b+n')):HandW b n' (t++u):=by
 intro k g hg hne hc
 obtain ⟨x,hx,_⟩:=hc
 obtain ⟨op,hop,hox⟩:=touch_of hx
 rcases getElem?_append_cases hop with ⟨hi,hop'⟩|⟨_,hopu⟩
 ·rcases h k g (by simpa [Trace.g?,getElem?_append_old hi] using hg) hne ((counts_old hi).1 ⟨x,hx,‹_›⟩) with ⟨j,hj,hb⟩|q
  ·have hjl:j<t.size:=by
    unfold Trace.g? at hj
    obtain ⟨z,hz,_⟩:=Option.map_eq_some_iff.1 hj
    exact lt_size_of_getElem? hz
   exact .inl ⟨j,by simpa [Trace.g?,getElem?_append_old hjl] using hj,hb_app u hb⟩
  ·exact .inr ⟨q.1,by omega⟩
 ·have hog:op.g=g:=by simpa [Trace.g?,hop] using hg
  rcases hu op hopu with h0|h0|h0
  ·exact absurd (hog.symm.trans h0) hne
  ·rw[h0]at hox;cases hox
  ·rw[hog]at h0;exact .inr h0
theorem Turn.hand(U:Turn E chs rdr wtr In i gs gs' W W' u kn ow kn' ow' sc sc' snt snt' rcv rcv' rk rk'){b m:Nat}(hi:i=0∨(b≤i∧i<b+m))(h:HandW b m t):HandW b m (t++u):=by
 refine h.app (Nat.le_refl _) fun op hop=>?_
 rcases U.tr with z|⟨kn1,ow1,es,fn,pos,ho,rfl⟩
 ·exact .inr (.inl (z op hop).1)
 ·obtain ⟨e,he,rfl⟩:=Conc.mem_ofEvents hop
  exact hi.imp id .inr
end
structure Bo.Ok (o:Bo):Prop where
 fast:o.M.Fast
 res:∀i W W' kn ow,o.Res i W kn ow→Ext kn W W'→o.Res i W' kn ow
 res0:∀bk W W' kn ow,o.Res0 bk W kn ow→Ext kn W W'→o.Res0 bk W' kn ow
 backr:∀bk W kn ow,o.Res0 bk W kn ow→bk.status=.running
 b1:1≤o.b0
 nk:o.nk<2147483647
 anch:∀bk g w,o.Anch bk g w→∃m,o.GM (StW1 o.E.P o.ty o.Wg bk (o.Anch bk)) m g w
 anchr:∀bk g w,o.Anch bk g w→g.status=.running
 sh:o.Sh o.Wg
section
variable {o:Bo}
theorem Bo.Prom.ext{r:Nat}{bk:Goroutine}{W W':World}{kn ow:Nat→Prop}(h:o.Prom r bk W kn ow)(hx:Ext kn W W'):o.Prom r bk W' kn ow:=fun W2 h2=>h W2 (hx.trans h2)
theorem Bo.MS.rely(K:o.Ok){x r vs m d:Nat}{g:Goroutine}{W W':World}{kn ow:Nat→Prop}(h:o.MS x r vs m d g W kn ow)(hr:RG o.ty o.Wg W W')(hx:Ext kn W W'):o.MS x r vs m d g W' kn ow:=by
 unfold Bo.MS at h ⊢
 split at h
 case h_12=>obtain ⟨h1,h2,bk,⟨g0,h3,h4⟩,h5⟩:=h;exact ⟨h1,h2,bk,⟨g0,h3,fun w1 z=>h4 w1 (rg_trans _ _ _ hr z)⟩,K.res0 _ _ _ _ _ h5 hx⟩
 case h_16=>exact h
 all_goals first
  |(obtain ⟨h1,bk,r',h2,h3,h4⟩:=h;exact ⟨h1,bk,r',h2,Goes.rely rg_trans h3 hr,h4.ext hx⟩)
  |(obtain ⟨h1,h2,bk,h3,h4⟩:=h;exact ⟨h1,h2,bk,Goes.rely rg_trans h3 hr,K.res0 _ _ _ _ _ h4 hx⟩)
theorem Bo.Prom.running{r:Nat}{bk:Goroutine}{W:World}{kn ow:Nat→Prop}(h:o.Prom r bk W kn ow)(hk:∀B,kn B→B<W.heap.size)(ho:∀B,ow B→kn B):bk.status=.running:=by
 obtain ⟨n,ρ,hp⟩:=h W (Ext.refl _ _)
 exact hp.running (fun _ _ _ _ q=>q.1) hk ho
theorem Bo.MS.status(K:o.Ok){x r vs m d:Nat}{g:Goroutine}{W:World}{kn ow:Nat→Prop}(h:o.MS x r vs m d g W kn ow)(hk:∀B,kn B→B<W.heap.size)(ho:∀B,ow B→kn B):(g.status=.running∧x≠11)∨(g.status=.blocked∧g.offers=none∧x=11):=by
 unfold Bo.MS at h
 split at h
 case h_5=>obtain ⟨_,bk,r',_,h3,h4⟩:=h;exact .inl ⟨Goes.running (fun g _ (q:g=bk)=>by rw[q];exact h4.running hk ho) W (rg_refl W) h3,by omega⟩
 case h_7=>obtain ⟨_,_,bk,h3,_⟩:=h;exact .inl ⟨Goes.running (K.anchr bk) W (rg_refl W) h3,by omega⟩
 case h_12=>obtain ⟨h1,h2,bk,⟨g0,rfl,h4⟩,h5⟩:=h;exact .inr ⟨rfl,(h4 W (rg_refl W)).2.1,rfl⟩
 case h_16=>exact h.elim
 all_goals first
  |(obtain ⟨_,bk,r',_,h3,_⟩:=h;exact .inl ⟨Goes.running (fun _ _ q=>q.1) W (rg_refl W) h3,by omega⟩)
  |(obtain ⟨_,_,bk,h3,_⟩:=h;exact .inl ⟨Goes.running (fun _ _ q=>q.1) W (rg_refl W) h3,by omega⟩)
theorem Bo.MS.offers(K:o.Ok){x r vs m d:Nat}{g:Goroutine}{W:World}{kn ow:Nat→Prop}(h:o.MS x r vs m d g W kn ow)(hk:∀B,kn B→B<W.heap.size)(ho:∀B,ow B→kn B)(c:Nat)(b:Bool):offersAt g c b=[]:=by
 rcases h.status K hk ho with ⟨q,_⟩|⟨_,q,_⟩
 ·exact offersAt_of_not_blocked (by rw[q];simp) c b
 ·unfold offersAt
  rw[q]
  cases g.status<;>rfl
theorem Bo.MS.wokenBy(K:o.Ok){x r vs m d:Nat}{g:Goroutine}{W:World}{kn ow:Nat→Prop}(h:o.MS x r vs m d g W kn ow)(hk:∀B,kn B→B<W.heap.size)(ho:∀B,ow B→kn B)(a a':Goroutine):
  ∃x' m',o.MS x' r vs m' d (Conc.woken o.E.P a a' W g) W kn ow∧(x'=x∧m'=m∨(x=11∧x'=12))∧(mayWake o.E.P a=true→a'.status=.running→x'≠11):=by
 unfold Conc.woken
 split
 ·rcases h.status K hk ho with ⟨hs,hne⟩|⟨_,hof,rfl⟩
  ·exact ⟨x,m,by rw[again_running _ (.inl hs)];exact h,.inl ⟨rfl,rfl⟩,fun _ _=>hne⟩
  ·unfold Bo.MS at h
   obtain ⟨h1,h2,bk,⟨g0,rfl,h4⟩,h5⟩:=h
   have h3:=h4 W (rg_refl W)
   exact ⟨12,0,by rw[ConcR.again_blocked h3.1 h3.2.1];exact ⟨h1,h2,bk,Goes.stop h4,h5⟩,.inr ⟨rfl,rfl⟩,fun _ _=>by omega⟩
 ·rename_i hc
  exact ⟨x,m,h,.inl ⟨rfl,rfl⟩,fun h1 h2=>absurd (by simp[h1,h2]) hc⟩
end
end Go.Proofs.Ytniloklglpchfai
