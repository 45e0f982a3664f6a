/- Turns of the machine of many: who moves, and what of the others stays. No program in sight. -/
import Derived.Test.YtniloklglpchfaiPkEqNu
namespace Go.Proofs.Ytniloklglpchfai
open Go Go.Conc
section
variable {P:Program} {gs:Array Goroutine} {W W1:World} {sl:Option (Nat×Nat)} {i j:Nat} {g g1 g₂ gj:Goroutine} {es:Array Event}
theorem lt_of_at{α:Type}{a:Array α}{i:Nat}{x:α}(h:a[i]?=some x):i<a.size:=(Array.getElem?_eq_some_iff.1 h).1
theorem set_at(hi:gs[i]?=some g)(x:Goroutine):(gs.setIfInBounds i x)[i]?=some x:=Array.getElem?_setIfInBounds_self_of_lt (lt_of_at hi)
theorem set_off(x:Goroutine){k:Nat}(hk:k≠i):(gs.setIfInBounds i x)[k]?=gs[k]?:=Array.getElem?_setIfInBounds_ne (fun e=>hk e.symm)
theorem turn_own(hi:gs[i]?=some g)(hs:stepG P (i==0) g W=.go g1 W1 es):∃gs',runT P (crowd gs W sl) i=(.next (crowd gs' W1 sl),MemOp.ofEvents i g.frame.fn g.frame.place es)∧gs'.size=gs.size∧gs'[i]?=some g1∧
  ∀k,k≠i→gs'[k]?=(gs[k]?).map (woken P g g1 W1):=
 ⟨_,runT_crowd_go hi hs,by simp,by rw[Array.getElem?_setIfInBounds_self_of_lt (by simpa using lt_of_at hi)],fun k hk=>by rw[Array.getElem?_setIfInBounds_ne (fun e=>hk e.symm),Array.getElem?_map]⟩
theorem none_offers{c:Nat}{sd:Bool}(hno:∀k x,k≠i→gs[k]?=some x→offersAt x c sd=[]):partners (gs.setIfInBounds i ph) c sd=[]:=partners_nil fun k x hk=>by
 rcases getElem?_stand gs i k x hk with ⟨_,rfl⟩|⟨h1,h2⟩
 ·exact offersAt_ph c sd
 ·exact hno k x h1 h2
theorem turn_send{c cap s r:Nat}{buf:Array Value}{v z:Value}(hi:gs[i]?=some g)(hs:∀m,stepG P m g W=.comm g₂ #[scase c v z] true .send W #[])(hc:W.heap[c]?=some (.chan cap buf false s r false))(hroom:buf.size<cap)(hno:∀k x,k≠i→gs[k]?=some x→offersAt x c false=[]):
  ∃gs',runT P (crowd gs W sl) i=(.next (crowd gs' (W.setChan c cap (buf.push v) false (s+1) r false) sl),#[{ g:=i,fn:=g₂.frame.fn,pos:=g₂.frame.place,act:=.send c s },{ g:=i,fn:=g₂.frame.fn,pos:=g₂.frame.place,act:=.sendDone c s }])∧
   gs'.size=gs.size∧gs'[i]?=some (Conc.served g₂ undef)∧∀k,k≠i→gs'[k]?=gs[k]?:=by
 refine ⟨_,(crowd_send_room hi (hs _) hc hroom (none_offers hno)).trans ?_,by simp,set_at hi _,fun k hk=>set_off _ hk⟩
 rw[finishComm_send]
 simp[MemOp.ofEvents]
theorem turn_recv{c cap s r:Nat}{buf:Array Value}{z:Value}{f:Bool}(hi:gs[i]?=some g)(hs:∀m,stepG P m g W=.comm g₂ #[rcase c z] true (.recv f) W #[])(hc:W.heap[c]?=some (.chan cap buf false s r false))(h0:0<buf.size)(hno:∀k x,k≠i→gs[k]?=some x→offersAt x c true=[]):
  ∃gs',runT P (crowd gs W sl) i=(.next (crowd gs' (W.setChan c cap (buf.extract 1 buf.size) false s (r+1) false) sl),#[{ g:=i,fn:=g₂.frame.fn,pos:=g₂.frame.place,act:=.recv c r cap },{ g:=i,fn:=g₂.frame.fn,pos:=g₂.frame.place,act:=.recvDone c r }])∧
   gs'.size=gs.size∧gs'[i]?=some (Conc.served g₂ (recvd f (buf.getD 0 undef) true))∧∀k,k≠i→gs'[k]?=gs[k]?:=by
 refine ⟨_,(crowd_recv_buf hi (hs _) hc h0 (none_offers hno)).trans ?_,by simp,set_at hi _,fun k hk=>set_off _ hk⟩
 rw[finishComm_recv]
 simp[MemOp.ofEvents]
theorem turn_wait{c cap s r:Nat}{z:Value}{f:Bool}(hi:gs[i]?=some g)(hs:∀m,stepG P m g W=.comm g₂ #[rcase c z] true (.recv f) W #[])(hc:W.heap[c]?=some (.chan cap #[] false s r false))(hno:∀k x,k≠i→gs[k]?=some x→offersAt x c true=[]):
  ∃gs',runT P (crowd gs W sl) i=(.next (crowd gs' W sl),#[])∧gs'.size=gs.size∧gs'[i]?=some (parked g₂ #[rcase c z] (.recv f))∧∀k,k≠i→gs'[k]?=gs[k]?:=by
 refine ⟨_,(crowd_waits hi (hs _) (fun cc hcc=>?_)).trans (by simp[MemOp.ofEvents]),by simp,set_at hi _,fun k hk=>set_off _ hk⟩
 have:cc=rcase c z:=by simpa using hcc
 rw[this]
 exact ways_recv_none hc (none_offers hno)
theorem turn_meet{c cap s r:Nat}{buf:Array Value}{v z zj:Value}{f:Bool}(hi:gs[i]?=some g)(hs:∀m,stepG P m g W=.comm g₂ #[scase c v z] true .send W #[])(hc:W.heap[c]?=some (.chan cap buf false s r false))(hij:j≠i)(hj:gs[j]?=some (parked gj #[rcase c zj] (.recv f)))(hno:∀k x,k≠i→k≠j→gs[k]?=some x→offersAt x c false=[]):
  ∃gs',runT P (crowd gs W sl) i=(.next (crowd gs' (W.setChan c cap buf false (s+1) (r+1) false) sl),#[{ g:=i,fn:=g₂.frame.fn,pos:=g₂.frame.place,act:=.send c s },{ g:=j,fn:=gj.frame.fn,pos:=gj.frame.place,act:=.recv c r cap },{ g:=i,fn:=g₂.frame.fn,pos:=g₂.frame.place,act:=.sendDone c s },{ g:=j,fn:=gj.frame.fn,pos:=gj.frame.place,act:=.recvDone c r }])∧
   gs'.size=gs.size∧gs'[i]?=some (Conc.served g₂ undef)∧gs'[j]?=some (Conc.served gj (recvd f v true))∧∀k,k≠i→k≠j→gs'[k]?=gs[k]?:=by
 have hp:partners (gs.setIfInBounds i ph) c false=[(j,0)]:=by
  rw[partners_one (stand_get hij hj) (fun k x hk hx=>?_),offersAt_parked_recv,if_pos rfl]
  ·rfl
  ·rcases getElem?_stand gs i k x hx with ⟨_,rfl⟩|⟨h1,h2⟩
   ·exact offersAt_ph c false
   ·exact hno k x h1 hk h2
 refine ⟨(gs.setIfInBounds j (Conc.served gj (recvd f v true))).setIfInBounds i (Conc.served g₂ undef),(crowd_send_meets hi (hs _) hc hij hj hp).trans ?_,by simp,?_,?_,fun k h1 h2=>?_⟩
 rotate_left
 ·exact Array.getElem?_setIfInBounds_self_of_lt (by simpa using lt_of_at hi)
 ·rw[Array.getElem?_setIfInBounds_ne (fun e=>hij e.symm),Array.getElem?_setIfInBounds_self_of_lt (lt_of_at hj)]
 ·rw[Array.getElem?_setIfInBounds_ne (fun e=>h1 e.symm),Array.getElem?_setIfInBounds_ne (fun e=>h2 e.symm)]
 ·rw[finishComm_send,finishComm_recv]
  simp[MemOp.ofEvents]
theorem turn_full{c cap s r:Nat}{buf:Array Value}{v z:Value}(hi:gs[i]?=some g)(hs:∀m,stepG P m g W=.comm g₂ #[scase c v z] true .send W #[])(hc:W.heap[c]?=some (.chan cap buf false s r false))(hfull:cap≤buf.size)(hno:∀k x,k≠i→gs[k]?=some x→offersAt x c false=[]):
  ∃gs',runT P (crowd gs W sl) i=(.next (crowd gs' W sl),#[])∧gs'.size=gs.size∧gs'[i]?=some (parked g₂ #[scase c v z] .send)∧∀k,k≠i→gs'[k]?=gs[k]?:=by
 refine ⟨_,(crowd_waits hi (hs _) (fun cc hcc=>?_)).trans (by simp[MemOp.ofEvents]),by simp,set_at hi _,fun k hk=>set_off _ hk⟩
 have:cc=scase c v z:=by simpa using hcc
 rw[this]
 exact ways_send_none hc hfull (none_offers hno)
theorem turn_shift{c cap s r:Nat}{buf:Array Value}{v z zj:Value}{f:Bool}(hi:gs[i]?=some g)(hs:∀m,stepG P m g W=.comm g₂ #[rcase c z] true (.recv f) W #[])(hc:W.heap[c]?=some (.chan cap buf false s r false))(h0:0<buf.size)(hij:j≠i)(hj:gs[j]?=some (parked gj #[scase c v zj] .send))(hno:∀k x,k≠i→k≠j→gs[k]?=some x→offersAt x c true=[]):
  ∃gs',runT P (crowd gs W sl) i=(.next (crowd gs' (W.setChan c cap ((buf.extract 1 buf.size).push v) false (s+1) (r+1) false) sl),#[{ g:=i,fn:=g₂.frame.fn,pos:=g₂.frame.place,act:=.recv c r cap },{ g:=i,fn:=g₂.frame.fn,pos:=g₂.frame.place,act:=.recvDone c r },{ g:=j,fn:=gj.frame.fn,pos:=gj.frame.place,act:=.send c s },{ g:=j,fn:=gj.frame.fn,pos:=gj.frame.place,act:=.sendDone c s }])∧
   gs'.size=gs.size∧gs'[i]?=some (Conc.served g₂ (recvd f (buf.getD 0 undef) true))∧gs'[j]?=some (Conc.served gj undef)∧∀k,k≠i→k≠j→gs'[k]?=gs[k]?:=by
 have hj':=stand_get hij hj
 have hp:partners (gs.setIfInBounds i ph) c true=[(j,0)]:=by
  rw[partners_one hj' (fun k x hk hx=>?_),offersAt_parked_send,if_pos rfl]
  ·rfl
  ·rcases getElem?_stand gs i k x hx with ⟨_,rfl⟩|⟨h1,h2⟩
   ·exact offersAt_ph c true
   ·exact hno k x h1 hk h2
 have hov:offeredValue (gs.setIfInBounds i ph) j 0=v:=by simp[offeredValue,hj',parked,scase]
 have hfp:finishPartner P (gs.setIfInBounds i ph) j 0 undef=(gs.setIfInBounds i ph).setIfInBounds j (Conc.served gj undef):=by
  rw[finishPartner_at P _ hj' (cs:=#[scase c v zj]) (sh:=.send) rfl]
  rfl
 refine ⟨(gs.setIfInBounds j (Conc.served gj undef)).setIfInBounds i (Conc.served g₂ (recvd f (buf.getD 0 undef) true)),?_,by simp,?_,?_,fun k h1 h2=>?_⟩
 rotate_left
 ·exact Array.getElem?_setIfInBounds_self_of_lt (by simpa using lt_of_at hi)
 ·rw[Array.getElem?_setIfInBounds_ne (fun e=>hij e.symm),Array.getElem?_setIfInBounds_self_of_lt (lt_of_at hj)]
 ·rw[Array.getElem?_setIfInBounds_ne (fun e=>h1 e.symm),Array.getElem?_setIfInBounds_ne (fun e=>h2 e.symm)]
 ·rw[runT_crowd_comm hi (hs _)]
  simp[communicate,ways,rcase,hc,hp,h0,choose,Sem.run,Question.forced,bind,Sem.bind,pure,World.setChan,crowd,hov,hfp,hj',finishComm_recv,parked,MemOp.ofEvents]
  exact set_stand2 gs i j _ _
end
def Sit (E:Env) (M:Msg) (Fin:Stand) (sc:List Cm) (pk:Bool) (n:Nat) (ρ:Rho):Stand:=fun g W kn ow=>
 (pk=false∧Path E (Run E M Fin sc) n ρ g W kn ow)∨(pk=true∧∃c j l g₂ z f,sc=(false,c,j)::l∧g=parked g₂ #[rcase c z] (.recv f)∧Gets E M (Run E M Fin l) c j g₂ f W kn ow)∨
  (pk=true∧∃c j l g₂ v z,sc=(true,c,j)::l∧g=parked g₂ #[scase c v z] .send∧Puts E M (Run E M Fin l) c j g₂ v W kn ow)
theorem Sit.ext{E:Env}{M:Msg}(hM:M.Fast){Fin:Stand}{sc:List Cm}{pk:Bool}{n:Nat}{ρ:Rho}{g:Goroutine}{W W2:World}{kn ow:Nat→Prop}(h:Sit E M Fin sc pk n ρ g W kn ow)(hx:Ext kn W W2):Sit E M Fin sc pk n ρ g W2 kn ow:=by
 rcases h with ⟨h1,h2⟩|⟨h1,c,j,l,g₂,z,f,h2,h3,h4⟩|⟨h1,c,j,l,g₂,v,z,h2,h3,h4⟩
 ·exact .inl ⟨h1,h2.ext hx⟩
 ·exact .inr (.inl ⟨h1,c,j,l,g₂,z,f,h2,h3,h4.ext hx⟩)
 ·exact .inr (.inr ⟨h1,c,j,l,g₂,v,z,h2,h3,h4.ext hM hx⟩)
theorem Path.running{E:Env}{Goal:Stand}(hG:∀g W kn ow,Goal g W kn ow→g.status=.running){n:Nat}{ρ:Rho}{g:Goroutine}{W:World}{kn ow:Nat→Prop}(h:Path E Goal n ρ g W kn ow)(hk:∀B,kn B→B<W.heap.size)(ho:∀B,ow B→kn B):g.status=.running:=by
 rcases h.step hk ho true with q|⟨_,_,_,_,_,_,_,q,_⟩
 ·exact hG _ _ _ _ (q W (Ext.refl _ _))
 ·exact q
theorem Run.running{E:Env}{M:Msg}{Fin:Stand}(hF:∀g W kn ow,Fin g W kn ow→g.status=.running):∀(sc:List Cm) g W kn ow,Run E M Fin sc g W kn ow→g.status=.running
 |[],g,W,kn,ow,h=>hF g W kn ow h
 |(true,_,_)::_,_,_,_,_,h=>h.1
 |(false,_,_)::_,_,_,_,_,h=>h.1
theorem Sit.woken{E:Env}{M:Msg}{Fin:Stand}(hF:∀g W kn ow,Fin g W kn ow→g.status=.running){sc:List Cm}{pk:Bool}{n:Nat}{ρ:Rho}{g:Goroutine}{W W1:World}{kn ow:Nat→Prop}(h:Sit E M Fin sc pk n ρ g W kn ow)(hk:∀B,kn B→B<W.heap.size)(ho:∀B,ow B→kn B)
  (hc:∀b c j l,sc=(b,c,j)::l→∃cap buf s r,W1.heap[c]?=some (.chan cap buf false s r false)) (P:Program) (a a':Goroutine):Conc.woken P a a' W1 g=g:=by
 rcases h with ⟨_,h2⟩|⟨_,c,j,l,g₂,z,f,h2,h3,_⟩|⟨_,c,j,l,g₂,v,z,h2,h3,_⟩
 ·exact woken_run (h2.running (Run.running hF sc) hk ho)
 ·obtain ⟨cap,buf,s,r,q⟩:=hc _ c j l h2
  rw[h3]
  exact woken_recv_open a a' q
 ·obtain ⟨cap,buf,s,r,q⟩:=hc _ c j l h2
  rw[h3]
  exact woken_send_open a a' q
def upF {α:Type} (f:Nat→α) (i:Nat) (x:α):Nat→α:=fun k=>if k=i then x else f k
theorem upF_self{α:Type}(f:Nat→α)(i:Nat)(x:α):upF f i x i=x:=if_pos rfl
theorem upF_ne{α:Type}(f:Nat→α){i k:Nat}(h:k≠i)(x:α):upF f i x k=f k:=if_neg h
def Ord (chs:List Nat) (rdr wtr:Nat→Nat) (i:Nat):List Cm→(Nat→Nat)→(Nat→Nat)→Prop
 |[],_,_=>True
 |(true,c,j)::l,s,r=>c∈chs∧wtr c=i∧j=s c∧Ord chs rdr wtr i l (bump s c) r
 |(false,c,j)::l,s,r=>c∈chs∧rdr c=i∧j=r c∧Ord chs rdr wtr i l s (bump r c)
theorem Ord.same{chs:List Nat}{rdr wtr:Nat→Nat}{i:Nat}:∀{l:List Cm} {s r s' r':Nat→Nat},Ord chs rdr wtr i l s r→(∀c,wtr c=i→s' c=s c)→(∀c,rdr c=i→r' c=r c)→Ord chs rdr wtr i l s' r'
 |[],_,_,_,_,_,_,_=>trivial
 |(true,c,j)::l,s,r,s',r',h,h1,h2=>by
  obtain ⟨a,b,d,f⟩:=h
  refine ⟨a,b,d.trans (h1 c b).symm,f.same (fun x hx=>?_) h2⟩
  by_cases q:x=c
  ·subst q;rw[bump_self,bump_self,h1 x hx]
  ·rw[bump_ne _ q,bump_ne _ q,h1 x hx]
 |(false,c,j)::l,s,r,s',r',h,h1,h2=>by
  obtain ⟨a,b,d,f⟩:=h
  refine ⟨a,b,d.trans (h2 c b).symm,f.same h1 (fun x hx=>?_)⟩
  by_cases q:x=c
  ·subst q;rw[bump_self,bump_self,h2 x hx]
  ·rw[bump_ne _ q,bump_ne _ q,h2 x hx]
structure Talk (E:Env) (M:Msg) (Fin:Nat→Stand) (chs:List Nat) (cap rdr wtr:Nat→Nat) (Out Sh In:Nat→Prop) (gs:Array Goroutine) (W:World) (t:Trace) (kn ow:Who→Nat→Prop) (snt rcv:Nat→Nat) (sc:Nat→List Cm) (pk:Nat→Bool) (n:Nat→Nat) (ρ:Nat→Rho):Prop where
 net:Net M Out Sh W t kn ow chs cap snt rcv
 room:∀c,c∈chs→0<cap c
 fit:∀c,c∈chs→snt c≤rcv c+cap c
 deaf:∀i,In i→Deaf t i=0
 sit:∀i,In i→∃g,gs[i]?=some g∧Sit E M (Fin i) (sc i) (pk i) (n i) (ρ i) g W (kn (.inl i)) (ow (.inl i))
 ord:∀i,In i→Ord chs rdr wtr i (sc i) snt rcv
 park:∀i c j l,In i→pk i=true→sc i=(false,c,j)::l→rcv c=snt c
 full:∀i c j l,In i→pk i=true→sc i=(true,c,j)::l→rcv c+cap c=snt c
 off:∀k g,¬In k→gs[k]?=some g→∀c,c∈chs→∀b,offersAt g c b=[]
def rkOf (sc:Nat→List Cm) (pk:Nat→Bool) (n:Nat→Nat) (ρ:Nat→Rho) (k:Nat):Rk:=(2*(sc k).length+(if pk k then 0 else 1),n k,ρ k)
section
variable {E:Env} {M:Msg} {Fin:Nat→Stand} {chs:List Nat} {cap rdr wtr:Nat→Nat} {Out Sh In:Nat→Prop} {gs:Array Goroutine} {W:World} {t:Trace} {kn ow:Who→Nat→Prop} {snt rcv:Nat→Nat} {sc:Nat→List Cm} {pk:Nat→Bool} {n:Nat→Nat} {ρ:Nat→Rho}
theorem Talk.klow(T:Talk E M Fin chs cap rdr wtr Out Sh In gs W t kn ow snt rcv sc pk n ρ)(i:Who)(B:Nat)(h:kn i B):B<W.heap.size:=(T.net.apt.low i B h).1
theorem Talk.chan(T:Talk E M Fin chs cap rdr wtr Out Sh In gs W t kn ow snt rcv sc pk n ρ){c:Nat}(hc:c∈chs):∃buf,W.heap[c]?=some (.chan (cap c) buf false (snt c) (rcv c) false)∧rcv c+buf.size=snt c:=by
 obtain ⟨_,_,_,buf,h1,h2,_⟩:=T.net.chan c hc
 exact ⟨buf,h1,h2⟩
theorem Talk.noSend(T:Talk E M Fin chs cap rdr wtr Out Sh In gs W t kn ow snt rcv sc pk n ρ)(hF:∀i g W kn ow,Fin i g W kn ow→g.status=.running){c:Nat}(hc:c∈chs)(k:Nat)(x:Goroutine)(hx:gs[k]?=some x)(hne:¬(In k∧pk k=true∧wtr c=k∧∃j l,sc k=(true,c,j)::l)):offersAt x c true=[]:=by
 by_cases hk:In k
 ·obtain ⟨g,hg,hs⟩:=T.sit k hk
  rw[hx]at hg
  obtain rfl:=Option.some.inj hg
  rcases hs with ⟨_,h2⟩|⟨_,c',j,l,g₂,z,f,h2,h3,_⟩|⟨h1,c',j,l,g₂,v,z,h2,h3,_⟩
  ·exact offersAt_of_not_blocked (by rw[h2.running (Run.running (hF k) _) (T.klow _) (T.net.apt.own _)];simp) c true
  ·rw[h3];exact offersAt_parked_recv' g₂ c' z _ c
  ·rw[h3,offersAt_parked_send]
   have ho:=T.ord k hk
   rw[h2]at ho
   have hce:¬c'=c:=fun e=>by
    subst e
    exact hne ⟨hk,h1,ho.2.1,j,l,h2⟩
   exact if_neg hce
 ·exact T.off k x hk hx c hc true
theorem Talk.noRecv(T:Talk E M Fin chs cap rdr wtr Out Sh In gs W t kn ow snt rcv sc pk n ρ)(hF:∀i g W kn ow,Fin i g W kn ow→g.status=.running){c:Nat}(hc:c∈chs)(k:Nat)(x:Goroutine)(hx:gs[k]?=some x)(hne:¬(In k∧pk k=true∧rdr c=k∧∃j l,sc k=(false,c,j)::l)):offersAt x c false=[]:=by
 by_cases hk:In k
 ·obtain ⟨g,hg,hs⟩:=T.sit k hk
  rw[hx]at hg
  obtain rfl:=Option.some.inj hg
  rcases hs with ⟨_,h2⟩|⟨h1,c',j,l,g₂,z,f,h2,h3,_⟩|⟨_,c',j,l,g₂,v,z,h2,h3,_⟩
  ·exact offersAt_of_not_blocked (by rw[h2.running (Run.running (hF k) _) (T.klow _) (T.net.apt.own _)];simp) c false
  ·rw[h3,offersAt_parked_recv]
   have ho:=T.ord k hk
   rw[h2]at ho
   have hce:¬c'=c:=fun e=>by
    subst e
    exact hne ⟨hk,h1,ho.2.1,j,l,h2⟩
   exact if_neg hce
  ·rw[h3];exact offersAt_parked_send' g₂ c' v z _ c
 ·exact T.off k x hk hx c hc false
end
theorem offers_woken{P:Program}{a a' x:Goroutine}{W:World}{c:Nat}{b:Bool}(h:offersAt x c b=[]):offersAt (Conc.woken P a a' W x) c b=[]:=by
 unfold Conc.woken
 split
 ·unfold Goroutine.again
  split
  ·dsimp only
   split
   ·exact offersAt_of_not_blocked (by simp) c b
   ·exact h
  ·exact offersAt_of_not_blocked (by simp) c b
  ·exact offersAt_of_not_blocked (by simp) c b
  ·exact h
 ·exact h
theorem EvS.calm{kn ow:Nat→Prop}{top top1:Nat}{e:Event}(h:EvS kn ow top top1 e)(g i d:Nat)(fn:FuncId)(pos:String):deafStep g d { g:=i,fn,pos,act:=.ofEvent e }=d:=by
 rcases h with ⟨x,wr,rfl,_⟩|⟨b,wr,s,rfl,_⟩|rfl
 ·rfl
 ·cases wr<;>cases s<;>rfl
 ·rfl
def cmc (b:Bool) (c:Nat):List Cm→Nat
 |[]=>0
 |x::l=>(if x.1=b∧x.2.1=c then 1 else 0)+cmc b c l
structure Cnt (In:Nat→Prop) (rdr wtr:Nat→Nat) (sc sc':Nat→List Cm) (snt snt' rcv rcv':Nat→Nat):Prop where
 drop:∀k,∃d,sc' k=(sc k).drop d
 off:∀k,¬In k→sc' k=sc k
 snt:∀c,snt' c+cmc true c (sc' (wtr c))=snt c+cmc true c (sc (wtr c))
 rcv:∀c,rcv' c+cmc false c (sc' (rdr c))=rcv c+cmc false c (sc (rdr c))
theorem Cnt.refl(In:Nat→Prop)(rdr wtr:Nat→Nat)(sc:Nat→List Cm)(snt rcv:Nat→Nat):Cnt In rdr wtr sc sc snt snt rcv rcv:=⟨fun _=>⟨0,rfl⟩,fun _ _=>rfl,fun _=>rfl,fun _=>rfl⟩
theorem Cnt.trans{In:Nat→Prop}{rdr wtr:Nat→Nat}{a b c:Nat→List Cm}{s s' s2 r r' r2:Nat→Nat}(h:Cnt In rdr wtr a b s s' r r')(k:Cnt In rdr wtr b c s' s2 r' r2):Cnt In rdr wtr a c s s2 r r2:=
 ⟨fun i=>by obtain ⟨d,hd⟩:=h.drop i;obtain ⟨e,he⟩:=k.drop i;exact ⟨d+e,by rw[he,hd,List.drop_drop]⟩,fun i hi=>(k.off i hi).trans (h.off i hi),fun i=>(k.snt i).trans (h.snt i),fun i=>(k.rcv i).trans (h.rcv i)⟩
theorem Cnt.pops{In:Nat→Prop}{rdr wtr:Nat→Nat}{sc:Nat→List Cm}{snt rcv:Nat→Nat}{i c j:Nat}{l:List Cm}(hi:In i)(h:sc i=(true,c,j)::l)(hw:wtr c=i):Cnt In rdr wtr sc (upF sc i l) snt (bump snt c) rcv rcv:=by
 refine ⟨fun k=>?_,fun k hk=>upF_ne _ (fun (e:k=i)=>hk (e▸hi)) _,fun d=>?_,fun d=>?_⟩
 ·by_cases e:k=i
  ·subst e;exact ⟨1,by rw[upF_self,h];rfl⟩
  ·exact ⟨0,by rw[upF_ne _ e];rfl⟩
 ·by_cases e:wtr d=i
  ·rw[e,upF_self,h]
   by_cases e2:d=c
   ·subst e2;rw[bump_self];simp[cmc];omega
   ·rw[bump_ne _ e2];simp[cmc];exact fun q=>e2 q.symm
  ·rw[upF_ne _ e,bump_ne _ (fun q=>e (by rw[q,hw]))]
 ·by_cases e:rdr d=i
  ·rw[e,upF_self,h];simp[cmc]
  ·rw[upF_ne _ e]
theorem Cnt.popr{In:Nat→Prop}{rdr wtr:Nat→Nat}{sc:Nat→List Cm}{snt rcv:Nat→Nat}{i c j:Nat}{l:List Cm}(hi:In i)(h:sc i=(false,c,j)::l)(hw:rdr c=i):Cnt In rdr wtr sc (upF sc i l) snt snt rcv (bump rcv c):=by
 refine ⟨fun k=>?_,fun k hk=>upF_ne _ (fun (e:k=i)=>hk (e▸hi)) _,fun d=>?_,fun d=>?_⟩
 ·by_cases e:k=i
  ·subst e;exact ⟨1,by rw[upF_self,h];rfl⟩
  ·exact ⟨0,by rw[upF_ne _ e];rfl⟩
 ·by_cases e:wtr d=i
  ·rw[e,upF_self,h];simp[cmc]
  ·rw[upF_ne _ e]
 ·by_cases e:rdr d=i
  ·rw[e,upF_self,h]
   by_cases e2:d=c
   ·subst e2;rw[bump_self];simp[cmc];omega
   ·rw[bump_ne _ e2];simp[cmc];exact fun q=>e2 q.symm
  ·rw[upF_ne _ e,bump_ne _ (fun q=>e (by rw[q,hw]))]
structure Turn (E:Env) (chs:List Nat) (rdr wtr:Nat→Nat) (In:Nat→Prop) (i:Nat) (gs gs':Array Goroutine) (W W':World) (u:Trace) (kn ow kn' ow':Who→Nat→Prop) (sc sc':Nat→List Cm) (snt snt' rcv rcv':Nat→Nat) (rk rk':Nat→Rk):Prop where
 cnt:Cnt In rdr wtr sc sc' snt snt' rcv rcv'
 size:gs'.size=gs.size
 off:∀k,¬In k→gs'[k]?=gs[k]?∨∃a a',gs'[k]?=(gs[k]?).map (Conc.woken E.P a a' W')
 low:∀k,rk' k=rk k∨LtK (rk' k) (rk k)
 dec:LtK (rk' i) (rk i)
 grow:W.heap.size≤W'.heap.size
 plain:bare W'=bare W
 keep:∀B,B<W.heap.size→¬ow (.inl i) B→B ∉ chs→W'.heap[B]?=W.heap[B]?
 others:∀k,¬In k→kn' (.inl k)=kn (.inl k)∧ow' (.inl k)=ow (.inl k)
 tr:(∀op∈u,op.act.touch?=none∧∀m,op.act≠.mark m)∨∃kn1 ow1 es fn pos,Own1 (kn (.inl i)) (ow (.inl i)) kn1 ow1 W W' es∧u=MemOp.ofEvents i fn pos es
 had:∀x B,ow' x B→(∃y,ow y B)∨W.heap.size≤B
section
variable {E:Env} {M:Msg} {Fin:Nat→Stand} {chs:List Nat} {cap rdr wtr:Nat→Nat} {Out Sh In:Nat→Prop} {gs:Array Goroutine} {W:World} {t:Trace} {kn ow:Who→Nat→Prop} {snt rcv:Nat→Nat} {sc:Nat→List Cm} {pk:Nat→Bool} {n:Nat→Nat} {ρ:Nat→Rho} {sl:Option (Nat×Nat)} {i:Nat} {g:Goroutine}
theorem Talk.own(T:Talk E M Fin chs cap rdr wtr Out Sh In gs W t kn ow snt rcv sc pk n ρ)(hM:M.Fast)(hF:∀i g W kn ow,Fin i g W kn ow→g.status=.running)(hnew:∀B,W.heap.size≤B→¬Out B)(hi:In i)(hpk:pk i=false)(hg:gs[i]?=some g)
  {g1:Goroutine} {W1:World} {es:Array Event} {kn1 ow1:Nat→Prop} {n1:Nat} {ρ1:Rho} (hs:stepG E.P (i==0) g W=.go g1 W1 es) (ho:Own1 (kn (.inl i)) (ow (.inl i)) kn1 ow1 W W1 es) (hp:Path E (Run E M (Fin i) (sc i)) n1 ρ1 g1 W1 kn1 ow1) (hl:Prod.Lex (·<·) Less (n1,ρ1) (n i,ρ i)):
  ∃gs' u,runT E.P (crowd gs W sl) i=(.next (crowd gs' W1 sl),u)∧Talk E M Fin chs cap rdr wtr Out Sh In gs' W1 (t++u) (put kn (.inl i) kn1) (put ow (.inl i) ow1) snt rcv sc pk (upF n i n1) (upF ρ i ρ1)∧
   Turn E chs rdr wtr In i gs gs' W W1 u kn ow (put kn (.inl i) kn1) (put ow (.inl i) ow1) sc sc snt snt rcv rcv (rkOf sc pk n ρ) (rkOf sc pk (upF n i n1) (upF ρ i ρ1)):=by
 obtain ⟨gs',hr,hsz,hgi,hgk⟩:=turn_own (sl:=sl) hg hs
 have hnet:=T.net.own1 hM ho hnew g.frame.fn g.frame.place
 refine ⟨gs',_,hr,⟨hnet,T.room,T.fit,fun k hk=>?_,fun k hk=>?_,T.ord,T.park,T.full,fun k x hk hx c hc b=>?_⟩,⟨Cnt.refl ..,hsz,fun k hk=>.inr ⟨g,g1,hgk k (fun e=>hk (e▸hi))⟩,fun k=>?_,?_,ho.size,ho.bare,fun B h1 h2 _=>ho.keep B h1 h2,fun k hk=>?_,.inr ⟨kn1,ow1,es,_,_,ho,rfl⟩,fun x B q=>?_⟩⟩
 ·rw[Deaf_quiet fun op hop d=>?_]
  ·exact T.deaf k hk
  ·obtain ⟨e,he,rfl⟩:=Conc.mem_ofEvents hop
   exact (ho.evs e he).calm k i d _ _
 ·by_cases e:k=i
  ·subst e
   rw[put_at,put_at,upF_self,upF_self]
   exact ⟨g1,hgi,.inl ⟨hpk,hp⟩⟩
  ·rw[put_off _ (inl_ne e),put_off _ (inl_ne e),upF_ne _ e,upF_ne _ e]
   obtain ⟨x,hx,hsit⟩:=T.sit k hk
   refine ⟨x,?_,hsit.ext hM ⟨ho.size,fun B q1 q2=>ho.keep B q2 (T.net.apt.dis _ _ B (inl_ne e) q1),ho.bare⟩⟩
   rw[hgk k e,hx,Option.map_some,hsit.woken (hF k) (T.klow _) (T.net.apt.own _) (fun b c j l hcl=>?_) E.P g g1]
   have:=T.ord k hk
   rw[hcl]at this
   have hc:c∈chs:=by cases b<;>exact this.1
   obtain ⟨_,_,_,buf,q,_⟩:=hnet.chan c hc
   exact ⟨_,buf,_,_,q⟩
 ·rw[hgk k (fun e=>hk (e▸hi))]at hx
  cases hq:gs[k]? with
  |none=>rw[hq]at hx;cases hx
  |some y=>
   rw[hq,Option.map_some]at hx
   obtain rfl:=Option.some.inj hx
   exact offers_woken (T.off k y hk hq c hc b)
 ·by_cases e:k=i
  ·subst e
   right
   unfold rkOf
   rw[upF_self,upF_self]
   exact .right _ hl
  ·left
   unfold rkOf
   rw[upF_ne _ e,upF_ne _ e]
 ·unfold rkOf
  rw[upF_self,upF_self]
  exact .right _ hl
 ·have e:k≠i:=fun e=>hk (e▸hi)
  exact ⟨put_off _ (inl_ne e) _,put_off _ (inl_ne e) _⟩
 ·by_cases e:x=.inl i
  ·subst e
   rw[put_at]at q
   rcases Nat.lt_or_ge B W.heap.size with z|z
   ·exact .inl ⟨_,ho.ow B q z⟩
   ·exact .inr z
  ·rw[put_off _ e]at q
   exact .inl ⟨_,q⟩
end
end Go.Proofs.Ytniloklglpchfai
