/- One goroutine beside those who leave: its way to a place, and its return. No program in sight. -/
import Derived.Test.YtniloklglpchfaiPkEqBy
namespace Go.Proofs.Ytniloklglpchfai
open Go Go.Conc
def M0:Msg:=fun _ _ _ _ _ _=>False
theorem m0_fast:M0.Fast:=fun _ _ _ _ _ _ _ h=>h.elim
abbrev z0:Nat→Nat:=fun _=>0
structure Al (P:Program) (Out:Nat→Prop) (gs:Array Goroutine) (W:World) (t:Trace) (kn ow:Who→Nat→Prop) (fu df:Nat→Nat):Prop where
 net:Net M0 Out noP W t kn ow [] z0 z0 z0
 deaf0:Deaf t 0=0
 lv:∀i,1≤i→i<gs.size→∃g,gs[i]?=some g∧QuitsD P (fu i) (df i) g∧Deaf t i=df i
 fresh:∀i,gs.size≤i→(∀B,¬kn (.inl i) B)∧Deaf t i=0
 new:∀B,W.heap.size≤B→¬Out B
 hand:t.HandedOver
 norel:∀a k,t.act? k≠some (.mark (.release a))
section
variable {P:Program} {Out:Nat→Prop} {gs gs':Array Goroutine} {W W1:World} {t:Trace} {kn ow:Who→Nat→Prop} {fu df:Nat→Nat} {i:Nat} {sl:Option (Nat×Nat)} {g g1 y:Goroutine} {es:Array Event}
theorem Al.at(A:Al P Out gs W t kn ow fu df)(d:Nat):Al P Out gs (W.at d) t kn ow fu df:=⟨A.net.at m0_fast d,A.deaf0,A.lv,A.fresh,A.new,A.hand,A.norel⟩
theorem Al.awake(A:Al P Out gs W t kn ow fu df)(hg:gs[0]?=some g)(hrun:g.status=.running):∀g∈gs,Conc.awake g:=by
 intro y hy tm
 obtain ⟨i,hi⟩:=Array.mem_iff_getElem?.1 hy
 by_cases h0:i=0
 ·subst h0
  rw[hg]at hi
  obtain rfl:=Option.some.inj hi
  rw[hrun];simp
 ·obtain ⟨z,hz,hq,_⟩:=A.lv i (by omega) (lt_of_at hi)
  rw[hi]at hz
  obtain rfl:=Option.some.inj hz
  rcases hq.status with q|q<;>rw[q]<;>simp
theorem deaf_oth{a k:Nat}(e:a≠k)(fn:FuncId)(pos:String)(es:Array Event):Deaf (t++MemOp.ofEvents a fn pos es) k=Deaf t k:=Deaf_other t e _ (fun op hop=>by obtain ⟨_,_,rfl⟩:=Conc.mem_ofEvents hop;rfl)
theorem Al.leave(A:Al P Out gs W t kn ow fu df)(h1:1≤i)(hy:gs[i]?=some y)(hrun:y.status=.running):∃gs' u fu' df',runT P (crowd gs W sl) i=(.next (crowd gs' W sl),u)∧Al P Out gs' W (t++u) kn ow fu' df'∧gs'.size=gs.size∧(∀g:Goroutine,gs[0]?=some g→g.status=.running→gs'[0]?=some g)∧LtN (·<·) gs.size fu' fu:=by
 have hlt:=lt_of_at hy
 obtain ⟨z,z1,z2,z3⟩:=A.lv i h1 hlt
 rw[hy]at z1
 obtain rfl:=Option.some.inj z1
 cases hq:fu i with
 |zero=>rw[hq]at z2;rw[z2.1]at hrun;cases hrun
 |succ q=>
  rw[hq]at z2
  rcases z2 with ⟨hf,_⟩|⟨_,g',es,hes,hstep,hq'⟩
  ·rw[hf]at hrun;cases hrun
  ·have hi0:(i==0)=false:=by simp;omega
   obtain ⟨gs',hr,hsz,hgi,hgk⟩:=turn_own (sl:=sl) hy (by rw[hi0];exact hstep W)
   have hm:∀op∈MemOp.ofEvents i y.frame.fn y.frame.place es,op.act.touch?=none:=fun op hop=>by obtain ⟨e,q,rfl⟩:=Conc.mem_ofEvents hop;exact mute_touch (hes e q)
   refine ⟨gs',_,upF fu i q,upF df i (deafBehind (df i) es),hr,⟨A.net.still m0_fast hm (fun op hop=>by obtain ⟨e,q,rfl⟩:=Conc.mem_ofEvents hop;exact (mute_evg (i:=0) (Wg:=0) (hes e q)).1.2) rfl rfl,by rw[deaf_oth (by omega)];exact A.deaf0,fun k q1 q2=>?_,fun k hk=>⟨(A.fresh k (by omega)).1,by rw[deaf_oth (by omega)];exact (A.fresh k (by omega)).2⟩,A.new,handedOver_app A.hand fun op hop=>.inr (hm op hop),norel_app A.norel (fun e q=>(mute_evg (i:=0) (Wg:=0) (top:=0) (hes e q)).2) _ _ _⟩,hsz,fun g hg hgr=>by rw[hgk 0 (by omega),hg,Option.map_some,woken_run hgr],fun k hk=>?_,i,hlt,by rw[upF_self,hq];exact Nat.lt_succ_self q⟩
   ·by_cases e:k=i
    ·subst e
     rw[upF_self,upF_self]
     exact ⟨g',hgi,hq',by rw[Deaf_own,z3]⟩
    ·rw[upF_ne _ e,upF_ne _ e]
     obtain ⟨z,z1,z2,z3⟩:=A.lv k q1 (by omega)
     exact ⟨z,by rw[hgk k e,z1,Option.map_some,woken_quitsD z2],z2,by rw[deaf_oth (fun q=>e q.symm)];exact z3⟩
   ·by_cases e:k=i
    ·subst e;rw[upF_self,hq];exact .inr (Nat.lt_succ_self q)
    ·exact .inl (upF_ne _ e _)
theorem Al.own(A:Al P Out gs W t kn ow fu df)(hg:gs[0]?=some g)(hs:stepG P true g W=.go g1 W1 es){kn1 ow1:Nat→Prop}(ho:Own1 (kn (.inl 0)) (ow (.inl 0)) kn1 ow1 W W1 es):∃gs' u,runT P (crowd gs W sl) 0=(.next (crowd gs' W1 sl),u)∧Al P Out gs' W1 (t++u) (put kn (.inl 0) kn1) (put ow (.inl 0) ow1) fu df∧gs'.size=gs.size∧gs'[0]?=some g1:=by
 obtain ⟨gs',hr,hsz,hgi,hgk⟩:=turn_own (sl:=sl) hg hs
 have hlt:=lt_of_at hg
 refine ⟨gs',_,hr,⟨A.net.own1 m0_fast ho A.new _ _,?_,fun k q1 q2=>?_,fun k hk=>⟨?_,by rw[deaf_oth (by omega)];exact (A.fresh k (by omega)).2⟩,fun B hB=>A.new B (Nat.le_trans ho.size hB),handedOver_app A.hand fun op hop=>.inl (by obtain ⟨e,_,rfl⟩:=Conc.mem_ofEvents hop;rfl),norel_app A.norel (fun e he a q=>?_) _ _ _⟩,hsz,hgi⟩
 ·rw[Deaf_quiet fun op hop d=>?_]
  ·exact A.deaf0
  ·obtain ⟨e,he,rfl⟩:=Conc.mem_ofEvents hop
   exact (ho.evs e he).calm 0 0 d _ _
 ·obtain ⟨z,z1,z2,z3⟩:=A.lv k q1 (by omega)
  exact ⟨z,by rw[hgk k (by omega),z1,Option.map_some,woken_quitsD z2],z2,by rw[deaf_oth (by omega)];exact z3⟩
 ·rw[put_off _ (inl_ne (show k≠0 by omega))]
  exact (A.fresh k (by omega)).1
 ·rcases ho.evs e he with ⟨y,wr,rfl,_⟩|⟨b,wr,s,rfl,_⟩|rfl<;>cases q
end
abbrev MuA:=(Nat→Nat)×Nat×Rho
def LtA (m:Nat):MuA→MuA→Prop:=Prod.Lex (LtN (·<·) m) (Prod.Lex (·<·) Less)
theorem ltA_wf(m:Nat):WellFounded (LtA m):=(Prod.lex ⟨_,ltN_wf Nat.lt_wfRel.wf m⟩ (Prod.lex Nat.lt_wfRel ⟨Less,less_wf⟩)).wf
theorem Kp.own1{base:World}{N0:Nat}{Out:Nat→Prop}{W W1:World}{kn ow:Who→Nat→Prop}{i:Who}{kn1 ow1:Nat→Prop}{es:Array Event}(h:Kp base N0 Out W ow)(q:Own1 (kn i) (ow i) kn1 ow1 W W1 es):Kp base N0 Out W1 (put ow i ow1):=
 h.turn (i:=i) (chs:=[]) q.size q.bare (fun B h1 h2 _=>q.keep B h1 h2) (fun c hc=>by cases hc) fun x B z=>by
  by_cases e:x=i
  ·subst e
   rw[put_at]at z
   rcases Nat.lt_or_ge B W.heap.size with y|y
   ·exact .inl ⟨_,q.ow B z y⟩
   ·exact .inr y
  ·rw[put_off _ e]at z
   exact .inl ⟨_,z⟩
theorem Al.reach{E:Env}{Out:Nat→Prop}{Goal:Stand}{base:World}{N0:Nat}(hG:∀g W kn ow,Goal g W kn ow→g.status=.running)(sz:Nat)(μ:MuA):∀(gs:Array Goroutine) (W:World) (sl:Option (Nat×Nat)) (t:Trace) (kn ow:Who→Nat→Prop) (df:Nat→Nat) (g:Goroutine),gs.size=sz→Al E.P Out gs W t kn ow μ.1 df→Kp base N0 Out W ow→gs[0]?=some g→Path E Goal μ.2.1 μ.2.2 g W (kn (.inl 0)) (ow (.inl 0))→
  ∃N gs' W' sl' t' kn' ow' fu' df' g',runNT E.P N (crowd gs W sl) t=(.next (crowd gs' W' sl'),t')∧gs'.size=sz∧Al E.P Out gs' W' t' kn' ow' fu' df'∧Kp base N0 Out W' ow'∧gs'[0]?=some g'∧Goal g' W' (kn' (.inl 0)) (ow' (.inl 0)):=by
 induction μ using (ltA_wf sz).induction with
 |_ μ ih=>
  intro gs W sl t kn ow df g hsz A hkp hg hp
  obtain ⟨fu,n,ρ⟩:=μ
  have hkl:∀B,kn (.inl 0) B→B<W.heap.size:=fun B q=>(A.net.apt.low _ B q).1
  have hrun:=hp.running hG hkl (A.net.apt.own _)
  rcases hp.step hkl (A.net.apt.own _) true with hgoal|_
  ·exact ⟨0,gs,W,sl,t,kn,ow,fu,df,g,rfl,hsz,A,hkp,hg,hgoal W (Ext.refl _ _)⟩
  ·obtain ⟨i,y,e,sl',hy,hyr,hs⟩:=crowd_pick (P:=E.P) (w:=W) (sl:=sl) (A.awake hg hrun) ⟨0,g,hg,hrun⟩
   have A':=A.at e
   have hp':=hp.ext (ext_at _ W e)
   by_cases h0:i=0
   ·subst h0
    rw[hg]at hy
    obtain rfl:=Option.some.inj hy
    rcases hp'.step hkl (A.net.apt.own _) true with hgoal|⟨g1,W1,es,kn1,ow1,n1,ρ1,_,r1,_,r3,r4,r5⟩
    ·refine ⟨0,gs,W,sl,t,kn,ow,fu,df,g,rfl,hsz,A,hkp,hg,?_⟩
     exact hgoal W ⟨Nat.le_refl _,fun _ _ _=>rfl,rfl⟩
    ·obtain ⟨gs',u,a1,a2,a3,a4⟩:=A'.own (sl:=sl') hg r1 r3
     have hlt:LtA sz (fu,n1,ρ1) (fu,n,ρ):=.right _ r5
     obtain ⟨N,gs2,W2,sl2,t2,kn2,ow2,fu2,df2,g2,b1,b2⟩:=ih (fu,n1,ρ1) hlt gs' W1 sl' (t++u) _ _ df g1 (a3.trans hsz) a2 (Kp.own1 (hkp.at e) r3) a4 (by rw[put_at,put_at];exact r4)
     exact ⟨N+1,gs2,W2,sl2,t2,kn2,ow2,fu2,df2,g2,by rw[runNT_succ_next (hs.trans a1)];exact b1,b2⟩
   ·obtain ⟨gs',u,fu',df',a1,a2,a3,a4,a5⟩:=A'.leave (sl:=sl') (by omega) hy hyr
    have hlt:LtA sz (fu',n,ρ) (fu,n,ρ):=.left _ _ (by rw[←hsz];exact a5)
    obtain ⟨N,gs2,W2,sl2,t2,kn2,ow2,fu2,df2,g2,b1,b2⟩:=ih (fu',n,ρ) hlt gs' (W.at e) sl' (t++u) kn ow df' g (a3.trans hsz) a2 (hkp.at e) (a4 g hg hrun) hp'
    exact ⟨N+1,gs2,W2,sl2,t2,kn2,ow2,fu2,df2,g2,by rw[runNT_succ_next (hs.trans a1)];exact b1,b2⟩
def Ends (P:Program) (m:Machine) (t:Trace) (Q:Value→World→Prop):Prop:=∃N last o w t',runNT P (N+1) m t=(.ended o w,t')∧runN P N m=.next last∧step P last=.ended o w∧Conc.Good P Q last o w t'
theorem Al.finish{P:Program}{Out:Nat→Prop}{Q:Value→World→Prop}{g:Goroutine}(sz:Nat)(fu:Nat→Nat)(gs:Array Goroutine)(W:World)(sl:Option (Nat×Nat))(t:Trace)(kn ow:Who→Nat→Prop)(df:Nat→Nat)(hsz:gs.size=sz)(A:Al P Out gs W t kn ow fu df)(hg:gs[0]?=some g)(hrun:g.status=.running)(hret:∀d,∃v,stepG P true g (W.at d)=.ended (.done v) (W.at d) #[]∧Q v (W.at d)):
  Ends P (crowd gs W sl) t Q:=by
 have hat:∀(W:World) d e,(W.at d).at e=W.at e:=fun _ _ _=>rfl
 have key:=run_of_inv (P:=P) (r:=LtN (·<·) sz) (ltN_wf Nat.lt_wfRel.wf sz) (fun fu m t=>∃gs W' sl df,m=crowd gs W' sl∧(∃d,W'=W.at d)∧gs.size=sz∧Al P Out gs W' t kn ow fu df∧gs[0]?=some g) (Conc.Good P Q) (fun fu m t=>by
  rintro ⟨gs,W',sl,df,rfl,⟨d0,rfl⟩,hsz,A,hg⟩
  obtain ⟨i,y,e,sl',hy,hyr,hs⟩:=crowd_pick (P:=P) (w:=W.at d0) (sl:=sl) (A.awake hg hrun) ⟨0,g,hg,hrun⟩
  have A':=A.at e
  rw[hat]at A' hs
  by_cases h0:i=0
  ·subst h0
   rw[hg]at hy
   obtain rfl:=Option.some.inj hy
   left
   obtain ⟨v,hv,hq⟩:=hret e
   refine ⟨_,_,_,hs.trans (ConcN.runT_crowd_ended hg hv),v,rfl,hq,?_,?_,⟨fun z hz=>?_,rfl⟩,fun k z hz hk=>?_⟩
   ·intro said
    have:t++MemOp.ofEvents 0 g.frame.fn g.frame.place #[]=t:=by simp[MemOp.ofEvents]
    rw[this]
    exact A.net.safe.clean said
   ·exact handedOver_app A.hand fun op hop=>by simp[MemOp.ofEvents]at hop
   ·obtain ⟨k,hk⟩:=List.mem_iff_getElem?.1 hz
    rw[List.getElem?_drop]at hk
    have hk:gs[1+k]?=some z:=by simpa [crowd] using hk
    obtain ⟨z',z1,z2,_⟩:=A.lv (1+k) (by omega) (lt_of_at hk)
    rw[hk]at z1
    obtain rfl:=Option.some.inj z1
    exact ⟨_,z2.leaves⟩
   ·have hz:gs[k]?=some z:=hz
    obtain ⟨z',z1,z2,z3⟩:=A.lv k (by omega) (lt_of_at hz)
    rw[hz]at z1
    obtain rfl:=Option.some.inj z1
    have e:t++MemOp.ofEvents 0 g.frame.fn g.frame.place #[]=t:=by simp[MemOp.ofEvents]
    rw[e]
    have z3:t.deaf k t.size=df k:=z3
    rw[z3]
    exact ⟨_,z2.hears _⟩
  ·right
   obtain ⟨gs',u,fu',df',a1,a2,a3,a4,a5⟩:=A'.leave (sl:=sl') (by omega) hy hyr
   exact ⟨_,_,fu',hs.trans a1,by rw[←hsz];exact a5,gs',_,sl',df',rfl,⟨e,rfl⟩,a3.trans hsz,a2,a4 g hg hrun⟩)
 exact key fu _ t ⟨gs,W,sl,df,rfl,⟨W.drawn,rfl⟩,hsz,A,hg⟩
open Go.ConcN (CTag WD WgLive cnt Vc upd pend)
open Go.ConcR (KK WgAt stA smA rd wr DC0)
theorem Apt.less{Out:Nat→Prop}{top:Nat}{kn ow kn' ow':Who→Nat→Prop}(h:Apt Out top kn ow)(hk:∀x B,kn' x B→kn x B)(ho:∀x B,ow' x B→ow x B)(hw:∀x B,ow' x B→kn' x B):Apt Out top kn' ow':=
 ⟨fun i j B e q1 q2=>h.dis i j B e (hk i B q1) (ho j B q2),hw,fun i B q=>h.low i B (hk i B q)⟩
def noMsg (f:Who→Nat→Prop):Who→Nat→Prop:=fun x=>x.elim (fun i=>f (.inl i)) (fun _=>noP)
theorem noMsg_le(f:Who→Nat→Prop)(x:Who)(B:Nat)(h:noMsg f x B):f x B:=by
 cases x with
 |inl i=>exact h
 |inr m=>exact h.elim
theorem joins_had(f:Who→Nat→Prop)(j:Nat)(D:Nat→Prop)(x:Who)(B:Nat)(h:joins f j D x B):∃y,f y B:=by
 rcases h with ⟨-,q|⟨k,-,q⟩⟩|⟨-,-,q⟩
 ·exact ⟨_,q⟩
 ·exact ⟨_,q⟩
 ·exact ⟨_,q⟩
section
variable {o:Bo} {gs:Array Goroutine} {W:World} {t:Trace} {stg fu df:Nat→Nat} {m:Nat} {g:Goroutine} {sl:Option (Nat×Nat)}
theorem Bo.Jn.al{bk:Goroutine}(J:o.Jn gs W t stg fu df m bk):∃kn ow:Who→Nat→Prop,Al o.E.P o.Out gs W t (noMsg (joins kn 0 o.Wk)) (noMsg (joins ow 0 o.Wk)) fu df∧o.Res0 bk W (kn (.inl 0)) (ow (.inl 0))∧(∀i,o.Wk i→o.Res i W (kn (.inl i)) (ow (.inl i)))∧Kp o.base o.N0 o.Out W (noMsg (joins ow 0 o.Wk)):=by
 obtain ⟨kn,ow,snt,rcv,h1,h2,h3,h4,h5⟩:=J.net
 refine ⟨kn,ow,⟨⟨⟨h1.safe.clean,fun i B q hB _=>h1.safe.rd i B q hB (fun z=>(h1.apt.low _ B q).2 (h1.sh B z)),fun i B q hB _=>h1.safe.wr i B q hB (fun z=>(h1.apt.low _ B (h1.apt.own _ B q)).2 (h1.sh B z)),h1.safe.low⟩,h1.apt.less (noMsg_le _) (noMsg_le _) (fun x B q=>?_),fun B q=>q.elim,fun c hc=>(by cases hc),fun c j _ B q=>q⟩,J.deaf0,fun i q1 q2=>J.lv i q1 (by rw[←J.size];exact q2),fun i hi=>⟨fun B q=>?_,J.fresh i (by rw[←J.size];exact hi)⟩,J.new,J.hand,J.norel⟩,h2,h3,h5.less fun x B q=>joins_had _ _ _ _ _ (noMsg_le _ _ _ q)⟩
 ·cases x with
  |inl i=>exact h1.apt.own _ B q
  |inr m=>exact q.elim
 ·rw[J.size]at hi
  rcases q with ⟨e,_⟩|⟨_,_,q⟩
  ·have:i=0:=Sum.inl.inj e
   have hlt:=J.size
   obtain ⟨y,hy,_⟩:=J.main
   have:=lt_of_at hy
   omega
  ·exact h4 i hi B q
theorem noMsg_put{f:Who→Nat→Prop}{i:Nat}{p:Nat→Prop}(hp:∀B,p B→f (.inl i) B)(x:Who)(B:Nat)(h:noMsg (put f (.inl i) p) x B):∃y,f y B:=by
 have h:=noMsg_le _ _ _ h
 by_cases e:x=.inl i
 ·subst e;rw[put_at]at h;exact ⟨_,hp B h⟩
 ·rw[put_off _ e]at h;exact ⟨_,h⟩
theorem Bo.start{Out0:Nat→Prop}{kn ow:Who→Nat→Prop}{k1 o1:Nat→Prop}{n1:Nat}{ρ1:Rho}(A:Al o.E.P Out0 gs W t kn ow fu df)(hkp:Kp o.base o.N0 o.Out W ow)(hg:gs[0]?=some g)(hb0:o.b0=gs.size)(hOut:∀B,o.Out B↔Out0 B∨B∈o.chs∨B=o.Wg)(hSh:∀B,o.Sh B↔B=o.Wg)
  (hch:∀c,c∈o.chs→ow (.inl 0) c∧W.heap[c]?=some (.chan (o.cap c) #[] false 0 0 false)∧0<o.cap c∧c≠o.Wg) (hwo:ow (.inl 0) o.Wg) (hwg:WgAt o.ty o.Wg W 0 0) (hk:∀B,k1 B→kn (.inl 0) B∧B ∉ o.chs∧B≠o.Wg) (ho:∀B,o1 B→ow (.inl 0) B∧k1 B)
  (hp:Path o.E (Run o.E o.M (o.nextF o.nk) (o.nextL o.nk)) n1 ρ1 g W k1 o1) (ho0:Ord o.chs o.rdr o.wtr 0 o.sc0 z0 z0) (how:∀i,o.b0≤i→i<o.b0+o.nk→Ord o.chs o.rdr o.wtr i (o.scr i) z0 z0):∃μ,o.Inv gs W t μ:=by
 have hlt:=lt_of_at hg
 have hnet:Net o.M o.Out o.Sh W t (noMsg (put kn (.inl 0) k1)) (noMsg (put ow (.inl 0) o1)) o.chs o.cap z0 z0:=by
  have hkn:∀i B,noMsg (put kn (.inl 0) k1) (.inl i) B→kn (.inl i) B∧(i=0→k1 B):=fun i B q=>by
   have q:put kn (.inl 0) k1 (.inl i) B:=q
   by_cases e:i=0
   ·subst e;rw[put_at]at q;exact ⟨(hk B q).1,fun _=>q⟩
   ·rw[put_off _ (inl_ne e)]at q;exact ⟨q,fun z=>absurd z e⟩
  have hon:∀i B,noMsg (put ow (.inl 0) o1) (.inl i) B→ow (.inl i) B∧(i=0→o1 B):=fun i B q=>by
   have q:put ow (.inl 0) o1 (.inl i) B:=q
   by_cases e:i=0
   ·subst e;rw[put_at]at q;exact ⟨(ho B q).1,fun _=>q⟩
   ·rw[put_off _ (inl_ne e)]at q;exact ⟨q,fun z=>absurd z e⟩
  refine ⟨⟨A.net.safe.clean,fun i B q hB _=>A.net.safe.rd i B (hkn i B q).1 hB id,fun i B q hB _=>A.net.safe.wr i B (hon i B q).1 hB id,A.net.safe.low⟩,⟨fun x y B e q1 q2=>?_,fun x B q=>?_,fun x B q=>?_⟩,fun B q=>(hOut B).2 (.inr (.inr ((hSh B).1 q))),fun c hc=>?_,fun c j _ B q=>q⟩
  ·cases x with
   |inr m=>exact q1.elim
   |inl i=>cases y with
    |inr m=>exact q2.elim
    |inl k=>exact A.net.apt.dis _ _ B e (hkn i B q1).1 (hon k B q2).1
  ·cases x with
   |inr m=>exact q.elim
   |inl i=>
    show put kn (.inl 0) k1 (.inl i) B
    by_cases e:i=0
    ·subst e;rw[put_at];exact (ho B ((hon 0 B q).2 rfl)).2
    ·rw[put_off _ (inl_ne e)];exact A.net.apt.own _ B (hon i B q).1
  ·cases x with
   |inr m=>exact q.elim
   |inl i=>
    have hl:=A.net.apt.low _ B (hkn i B q).1
    refine ⟨hl.1,fun z=>?_⟩
    rcases (hOut B).1 z with z|z|z
    ·exact hl.2 z
    ·by_cases e:i=0
     ·exact (hk B ((hkn i B q).2 e)).2.1 z
     ·exact A.net.apt.dis _ _ B (inl_ne e) (hkn i B q).1 (hch B z).1
    ·by_cases e:i=0
     ·exact (hk B ((hkn i B q).2 e)).2.2 z
     ·exact A.net.apt.dis _ _ B (inl_ne e) (hkn i B q).1 (z▸hwo)
  ·obtain ⟨c1,c2,c3,c4⟩:=hch c hc
   exact ⟨(hOut c).2 (.inr (.inl hc)),(Array.getElem?_eq_some_iff.1 c2).1,fun z=>c4 ((hSh c).1 z),#[],c2,rfl,fun k v hv=>by simp at hv⟩
 have hk1:noMsg (put kn (.inl 0) k1) (.inl 0)=k1:=put_at kn (.inl 0) k1
 have ho1:noMsg (put ow (.inl 0) o1) (.inl 0)=o1:=put_at ow (.inl 0) o1
 have hin:∀i,o.In 30 0 (fun _=>1) i→i=0:=fun i q=>by
  rcases q with ⟨q,_⟩|⟨_,_,q⟩
  ·exact q
  ·cases q
 have hv:∀i,o.vsc o.nk (fun i=>if i=0 then o.nextL o.nk else o.scr i) i=o.full i:=fun i=>by
  unfold Bo.vsc Bo.full
  by_cases e:i=0
  ·subst e
   by_cases e2:o.nk=0
   ·simp[e2,Bo.nextL]
   ·simp[e2]
  ·simp[e]
 refine ⟨_,.inl ⟨_,_,z0,z0,(fun i=>if i=0 then o.nextL o.nk else o.scr i),(fun _=>false),(fun _=>n1),(fun _=>ρ1),(fun i=>if i=0 then o.nextF o.nk else o.FinW i),0,(fun _=>1),fu,df,30,o.nk,0,0,0,0,0,⟨⟨hnet,fun c hc=>(hch c hc).2.2.1,fun c _=>Nat.zero_le _,fun i q=>?_,fun i q=>?_,fun i q=>?_,fun i c j l _ q=>(by cases q),fun i c j l _ q=>(by cases q),fun k y q hy c _ b=>?_⟩,fun i g W kn ow q=>?_,fun i hi=>if_neg (by omega),Nat.zero_add _,⟨hb0.symm,fun i _ _=>rfl,fun i q1 q2 _=>?_,fun i q1 q2=>by omega,fun i q1 q2=>by omega,A.norel,fun i q=>?_,fun i hi=>?_,fun B hB z=>?_,fun k a q1 q2 q3=>.inl (A.hand k a q1 q2 q3),hkp.less fun x B q=>noMsg_put (fun B q=>(ho B q).1) x B q⟩,⟨fun i hi=>if_neg (by omega),fun i q1 q2=>how i (by omega) q2,fun q=>⟨ho0,?_⟩,fun i=>⟨0,hv i⟩,fun c=>?_,fun c=>?_⟩,fun q=>absurd rfl q,A.deaf0,.inl ⟨rfl,rfl,if_pos rfl⟩,hwg,?_⟩,rfl⟩⟩
 ·rw[hin i q];exact A.deaf0
 ·rw[hin i q,hk1,ho1,if_pos rfl,if_pos rfl]
  exact ⟨g,hg,.inl ⟨rfl,hp⟩⟩
 ·rw[hin i q,if_pos rfl]
  cases hq:o.nk with
  |zero=>exact ho0
  |succ r=>trivial
 ·have h0:k≠0:=fun e=>q (.inl ⟨e,.inl rfl⟩)
  obtain ⟨z,z1,z2,_⟩:=A.lv k (by omega) (lt_of_at hy)
  rw[hy]at z1
  obtain rfl:=Option.some.inj z1
  exact offersAt_of_not_blocked (by rcases z2.status with w|w<;>rw[w]<;>simp) c b
 ·by_cases e:i=0
  ·simp only[e,if_true]at q;exact Bo.nextF.running _ g W kn ow q
  ·simp only[e,if_false]at q;exact q.1
 ·obtain ⟨y,z1,z2,z3⟩:=A.lv i q1 (by omega)
  exact ⟨y,z1,z2,z3⟩
 ·rcases q with rfl|⟨q1,q2⟩
  ·exact (A.net.safe.wr 0 _ hwo (wg_lt hwg) id).old
  ·omega
 ·refine ⟨fun B q=>?_,(A.fresh i (by omega)).2⟩
  have q:put kn (.inl 0) k1 (.inl i) B:=q
  rw[put_off _ (inl_ne (show i≠0 by omega))]at q
  exact (A.fresh i (by omega)).1 B q
 ·rcases (hOut B).1 z with z|z|z
  ·exact A.new B hB z
  ·have:=(Array.getElem?_eq_some_iff.1 (hch B z).2.1).1
   omega
  ·have:=wg_lt hwg
   omega
 ·rw[if_pos rfl]
  cases hq:o.nk with
  |zero=>exact absurd hq q
  |succ r=>rfl
 ·rw[hv];exact Nat.zero_add _
 ·rw[hv];exact Nat.zero_add _
 ·have:ConcN.Mode 0 (o.D fun _=>1) .kd (((Vc 0 (o.D fun _=>1)+pend .kd:Nat):Int)*KK) 0:=.opn trivial (fun i hi=>by omega) (fun vs e=>by cases e)
  show ConcN.Mode 0 (o.D fun _=>1) .kd 0 0
  simpa [Vc,ConcN.sumTo,pend] using this
end
end Go.Proofs.Ytniloklglpchfai
