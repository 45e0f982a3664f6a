/- Many that are started and waited for: Add and Wait step by step, up to the join: all of it. No program in sight. -/
import Derived.Test.YtniloklglpchfaiPkEqBu
namespace Go.Proofs.Ytniloklglpchfai
open Go Go.Conc
open Go.ConcN (CTag WD WgLive cnt Vc upd pend isOpen isW3 OpenSt AllQuit)
open Go.ConcR (KK WgAt stA smA rd wr DC0)
section
variable {o:Bo} {gs gs':Array Goroutine} {W W1:World} {t u:Trace} {kn ow:Who→Nat→Prop} {snt rcv:Nat→Nat} {sc:Nat→List Cm} {pk:Nat→Bool} {n:Nat→Nat} {ρ:Nat→Rho} {Fin:Nat→Stand} {j:Nat} {stg fu df:Nat→Nat} {x r vs m d:Nat} {st sm:Int} {i:Nat} {sl:Option (Nat×Nat)} {g g1:Goroutine} {es:Array Event}
theorem Bo.St.joins(K:o.Ok)(S:o.St gs W t kn ow snt rcv sc pk n ρ Fin j stg fu df 8 0 vs m 0 st sm)(hg:gs[0]?=some g){m':Nat}(hgo:stepG o.E.P true g W=.go g1 W #[ConcR.mk (.acquire (stA o.Wg))]){bk:Goroutine}(hk2:o.GM (fun g _=>g=bk) m' g1 W)(hres:o.Res0 bk W (kn (.inl 0)) (ow (.inl 0))):o.Next gs W t sl 0 (o.mu sc pk n ρ j stg fu 8 0 vs m):=by
 have hb:=K.b1
 have hjr:=S.jr
 have hjn:j=o.nk:=by omega
 subst hjn
 have hni:¬o.In 8 o.nk stg 0:=fun q=>by rcases q with ⟨_,q⟩|⟨q,_⟩<;>omega
 have hlt:=wg_lt S.wg
 have hrun1:g1.status=.running:=Goes.running (fun y _ (q:y=bk)=>by rw[q];exact K.backr _ _ _ _ hres) W (rg_refl W) hk2
 have B:Bk o.Wg 0 W W #[ConcR.mk (.acquire (stA o.Wg))]:=bk_one (evg_acq hlt)
 obtain ⟨gs',hr,hsz,hgi,hgk,T'⟩:=S.talk.book (sl:=sl) K.fast (fun i _=>S.run i) K.sh hni hg hgo (fun e he=>⟨fun a ha=>⟨((B.ev e he).1 a ha).1,((B.ev e he).1 a ha).2,S.rest.old 0 (.inl rfl)⟩,(B.ev e he).2⟩) rfl (fun _ _=>rfl) rfl (fun c _ b=>offersAt_of_not_blocked (by rw[hrun1];simp) c b)
 have hR:=S.rest.book K S.talk.net ⟨_,_,S.wg⟩ B g.frame.fn g.frame.place hsz hgk (.inl rfl) (s':=0) (m':=0) (d':=0) (fun q=>by omega)
 rw[if_pos rfl,if_pos rfl,if_pos rfl]at hR
 have hall:∀i,1≤i→i<o.b0+o.nk→stg i=1:=fun i h1 h2=>by
  rcases Nat.lt_or_ge i o.b0 with q|q
  ·exact S.rest.lv i h1 q
  ·have hm:=S.mode
   generalize htag:tagOf 8 vs=tag at hm
   have ht:tag=.acq:=htag.symm
   cases hm with
   |opn q1 _ _=>subst ht;exact q1.elim
   |reg q1 _ _=>subst ht;exact q1.elim
   |last L q1 _ _ _=>subst ht;exact q1.elim
   |sema _=>cases ht
   |fin _ q2=>
    have:=q2 (i - o.b0) (by omega)
    rw[D_stage,show o.b0+(i - o.b0)=i by omega]at this
    omega
 have hu:MemOp.ofEvents 0 g.frame.fn g.frame.place #[ConcR.mk (.acquire (stA o.Wg))]=#[{ g:=0,fn:=g.frame.fn,pos:=g.frame.place,act:=.mark (.acquire (stA o.Wg)) }]:=by simp[MemOp.ofEvents];rfl
 have hq:(t++MemOp.ofEvents 0 g.frame.fn g.frame.place #[ConcR.mk (.acquire (stA o.Wg))])[t.size]?=some { g:=0,fn:=g.frame.fn,pos:=g.frame.place,act:=.mark (.acquire (stA o.Wg)) }:=by
  rw[hu,Array.getElem?_append_right (Nat.le_refl _)];simp
 have hheard:(t++MemOp.ofEvents 0 g.frame.fn g.frame.place #[ConcR.mk (.acquire (stA o.Wg))]).heard t.size:=by
  rw[hu]at hq ⊢
  exact (mute_one ⟨rfl,fun _ _=>rfl⟩).heard (Nat.le_refl _) hq S.deaf0
 have hnet:=T'.net.join (j:=0) (D:=o.Wk) (a:=stA o.Wg) (fun q=>by have:=q.1;omega) (fun i hi=>by
  have h1:=hall i (by have:=hi.1;omega) hi.2
  obtain ⟨q0,hq0,_⟩:=S.rest.rel i hi.1 hi.2 (by omega) (by omega)
  have hq0':RelAt (stA o.Wg) (t++MemOp.ofEvents 0 g.frame.fn g.frame.place #[ConcR.mk (.acquire (stA o.Wg))]) kn ow i q0:=hq0.group S.talk.net K.sh fun op hop b hb=>by
   rw[hu]at hop
   have:op={ g:=0,fn:=g.frame.fn,pos:=g.frame.place,act:=.mark (.acquire (stA o.Wg)) }:=by simpa using hop
   rw[this]at hb;cases hb
  exact ⟨q0,hq0',hq0'.knows hq rfl rfl hheard (lt_of_act? hq0.act) (hR.norel _)⟩)
 have hhand:(t++MemOp.ofEvents 0 g.frame.fn g.frame.place #[ConcR.mk (.acquire (stA o.Wg))]).HandedOver:=fun k a hka hne hc=>by
  rcases hR.hand k a hka hne hc with z|⟨z1,z2⟩
  ·exact z
  ·have h1:=hall a (by omega) z2
   obtain ⟨q0,hq0,hq0b⟩:=S.rest.rel a z1 z2 (by omega) (by omega)
   have hq0':=hq0b.appOther (u:=MemOp.ofEvents 0 g.frame.fn g.frame.place #[ConcR.mk (.acquire (stA o.Wg))]) (g:=0) (fun op hop=>by obtain ⟨e,_,rfl⟩:=Conc.mem_ofEvents hop;rfl) (by omega)
   have edge:HappensBefore (t++MemOp.ofEvents 0 g.frame.fn g.frame.place #[ConcR.mk (.acquire (stA o.Wg))]) q0 t.size:=.single (.inr ⟨.marked (lt_of_act? hq0.act) (.inr hq0'.act) (by rw[act?_of hq]) (fun k _ _=>hR.norel _ k),hq0'.heard,hheard⟩)
   have hg0:(t++MemOp.ofEvents 0 g.frame.fn g.frame.place #[ConcR.mk (.acquire (stA o.Wg))]).g? t.size=some 0:=by simp[Trace.g?,hq]
   have hle:k≤q0:=Nat.le_of_not_lt fun hlt=>hq0'.after k hlt hka hc
   rcases Nat.lt_or_ge k q0 with hlt|hge
   ·exact ⟨t.size,hg0,.trans (.single (.inl ⟨hlt,a,hka,hq0'.g⟩)) edge⟩
   ·obtain rfl:k=q0:=by omega
    exact ⟨t.size,hg0,edge⟩
 refine ⟨gs',W,_,o.mu sc pk n ρ o.nk stg fu 7 0 vs m',hr,.single ?_,.inr ⟨sc,pk,n,ρ,stg,fu,df,m',vs,bk,⟨hR.size,⟨g1,hgi,hrun1,hk2⟩,?_,hall,fun i h1 h2=>?_,⟨_,_,S.wg⟩,⟨kn,ow,snt,rcv,hnet,hres,fun i hi=>(hR.res i hi.1 hi.2 (by rw[hall i (by have:=hi.1;omega) hi.2];omega)).1,fun i hi=>(hR.fresh i hi).1,hR.kp⟩,fun i hi=>(hR.fresh i hi).2,hR.new,hhand,hR.norel⟩,rfl⟩⟩
 ·exact lex_low (fun k=>.inl rfl) (fun _ _=>rfl) (.inl (.left _ _ (by simp[mx])))
 ·rw[Deaf_own,S.deaf0];rfl
 ·obtain ⟨y,z1,z2,z3⟩:=hR.ws i h1 h2 (by rw[hall i h1 h2];omega)
  rw[hall i h1 h2]at z2
  exact ⟨y,z1,z2,z3⟩
set_option maxHeartbeats 1600000 in
theorem Bo.St.stepM(K:o.Ok)(S:o.St gs W t kn ow snt rcv sc pk n ρ Fin j stg fu df x r vs m d st sm)(h1:x≠30)(h2:x≠20)(hg:gs[0]?=some g)(hrun:g.status=.running):o.Next gs W t sl 0 (o.mu sc pk n ρ j stg fu x r vs m):=by
 obtain ⟨y,hy,hms⟩:∃g,gs[0]?=some g∧o.MS x r vs m d g W (kn (.inl 0)) (ow (.inl 0)):=by
  rcases S.main with ⟨q,_⟩|⟨q,_⟩|⟨_,_,q⟩
  ·exact absurd q h1
  ·exact absurd q h2
  ·exact q
 rw[hg]at hy
 obtain rfl:=Option.some.inj hy
 have hlt:=wg_lt S.wg
 have hnk:=K.nk
 have hjr:=S.jr
 have hVj:=ConcN.Vc_le j (o.D stg)
 have hms0:=hms
 have hmode:=S.mode
 have hb:=K.b1
 -- a step that turns nothing and lists nothing
 have idle:∀{g':Goroutine} {m':Nat},stepG o.E.P true g W=.go g' W #[]→o.MS x r vs m' d g' W (kn (.inl 0)) (ow (.inl 0))→m'<m→o.Next gs W t sl 0 (o.mu sc pk n ρ j stg fu x r vs m):=fun hgo h hm=>S.mnext K h1 h2 hg hgo bk_none h1 h2 h rfl S.wg hmode (.right _ (.left _ _ hm))
 unfold Bo.MS at hms
 split at hms
 ·obtain ⟨rfl,bk,r',rfl,hw,hp⟩:=hms
  rcases Goes.cases hw with hstop|⟨m',hm,hstep⟩
  ·obtain ⟨_,g',hgo,m₂,hk2⟩:=hstop W (rg_refl W)
   exact S.mnext K h1 h2 hg hgo (bk_one evg_dis) (x':=27) (vs':=vs) (m':=m₂) (d':=1) (by omega) (by omega) ⟨rfl,bk,r',rfl,hk2,hp⟩ rfl S.wg hmode (.left _ _ (by simp[mx]))
  ·obtain ⟨g',w',es,hgo,⟨rfl,rfl⟩,hg'⟩:=hstep W (rg_refl W)
   exact idle hgo ⟨rfl,bk,r',rfl,hg',hp⟩ (by omega)
 ·obtain ⟨rfl,bk,r',rfl,hw,hp⟩:=hms
  rcases Goes.cases hw with hstop|⟨m',hm,hstep⟩
  ·obtain ⟨_,hall⟩:=hstop W (rg_refl W)
   have hwg0:=S.wg
   generalize htag:tagOf 27 vs=tag at hmode
   have ht:tag=.kd:=htag.symm
   cases hmode with
   |opn q1 q2 q3=>
    subst ht
    have hw1:WgAt o.ty o.Wg W ((Vc j (o.D stg):Nat)*KK) 0:=by simpa [pend] using hwg0
    obtain ⟨g',hgo,hz,hnz⟩:=hall (Vc j (o.D stg)) (by omega) hw1
    have B:Bk o.Wg 0 W (W.setCell (stA o.Wg) (.int .u64 (((Vc j (o.D stg):Nat)+1)*KK))) #[rd (stA o.Wg),ConcR.wr (stA o.Wg)]:=bk_st _ (evg_two hlt)
    have hM:ConcN.Mode j (o.D stg) (.sp 0 0) (((Vc j (o.D stg)+pend (.sp 0 0):Nat):Int)*KK) 0:=.opn trivial q2 (fun vs e=>by cases e)
    have hM:ConcN.Mode j (o.D stg) (.sp 0 0) (((Vc j (o.D stg):Nat)+1)*KK) 0:=by simpa [pend] using hM
    have hp':=hp.ext (S.ext0 K B (.inl 0))
    by_cases hv:Vc j (o.D stg)=0
    ·obtain ⟨m₂,hk2⟩:=hz hv
     exact S.mnext K h1 h2 hg hgo B (x':=23) (vs':=vs) (m':=m₂) (d':=1) (by omega) (by omega) ⟨rfl,bk,r',rfl,hk2,hp'⟩ rfl (hw1.setSt _) hM (.left _ _ (by simp[mx]))
    ·obtain ⟨m₂,hk2⟩:=hnz hv
     exact S.mnext K h1 h2 hg hgo B (x':=22) (vs':=vs) (m':=m₂) (d':=1) (by omega) (by omega) ⟨rfl,bk,r',rfl,hk2,hp'⟩ rfl (hw1.setSt _) hM (.left _ _ (by simp[mx]))
   |reg q1 _ _=>subst ht;exact q1.elim
   |last L q1 _ _ _=>subst ht;exact q1.elim
   |sema _=>cases ht
   |fin q1 _=>subst ht;exact q1.elim
  ·obtain ⟨g',w',es,hgo,⟨rfl,rfl⟩,hg'⟩:=hstep W (rg_refl W)
   exact idle hgo ⟨rfl,bk,r',rfl,hg',hp⟩ (by omega)
 ·obtain ⟨rfl,bk,r',rfl,hw,hp⟩:=hms
  rcases Goes.cases hw with hstop|⟨m',hm,hstep⟩
  ·obtain ⟨_,g',hgo,m₂,hk2⟩:=hstop W (rg_refl W)
   exact S.mnext K h1 h2 hg hgo (bk_one (evg_read hlt)) (x':=22) (vs':=vs) (m':=m₂) (d':=1) (by omega) (by omega) ⟨rfl,bk,r',rfl,hk2,hp⟩ rfl S.wg hmode (.left _ _ (by simp[mx]))
  ·obtain ⟨g',w',es,hgo,⟨rfl,rfl⟩,hg'⟩:=hstep W (rg_refl W)
   exact idle hgo ⟨rfl,bk,r',rfl,hg',hp⟩ (by omega)
 ·obtain ⟨rfl,bk,r',rfl,hw,hp⟩:=hms
  rcases Goes.cases hw with hstop|⟨m',hm,hstep⟩
  ·obtain ⟨_,g',hgo,m₂,hk2⟩:=hstop W (rg_refl W)
   exact S.mnext K h1 h2 hg hgo (bk_one evg_en) (x':=21) (vs':=vs) (m':=m₂) (d':=0) (by omega) (by omega) ⟨rfl,bk,r',rfl,hk2,hp⟩ rfl S.wg hmode (.left _ _ (by simp[mx]))
  ·obtain ⟨g',w',es,hgo,⟨rfl,rfl⟩,hg'⟩:=hstep W (rg_refl W)
   exact idle hgo ⟨rfl,bk,r',rfl,hg',hp⟩ (by omega)
 ·obtain ⟨rfl,bk,r',hr,hw,hp⟩:=hms
  rcases Goes.cases hw with hstop|⟨m',hm,hstep⟩
  ·have e:g=bk:=hstop W (rg_refl W)
   subst e
   obtain ⟨n1,ρ1,a1,a2⟩:=S.goesOn K hr hg hp
   exact (a1.step20 (sl:=sl) K hg).le a2
  ·obtain ⟨g',w',es,hgo,⟨rfl,rfl⟩,hg'⟩:=hstep W (rg_refl W)
   exact idle hgo ⟨rfl,bk,r',hr,hg',hp⟩ (by omega)
 ·obtain ⟨rfl,rfl,bk,hw,hres⟩:=hms
  rcases Goes.cases hw with hstop|⟨m',hm,hstep⟩
  ·obtain ⟨_,g',hgo,m₂,hk2⟩:=hstop W (rg_refl W)
   exact S.mnext K h1 h2 hg hgo (bk_one evg_dis) (x':=17) (vs':=vs) (m':=m₂) (d':=1) (by omega) (by omega) ⟨rfl,rfl,bk,hk2,hres⟩ rfl S.wg hmode (.left _ _ (by simp[mx]))
  ·obtain ⟨g',w',es,hgo,⟨rfl,rfl⟩,hg'⟩:=hstep W (rg_refl W)
   exact idle hgo ⟨rfl,rfl,bk,hg',hres⟩ (by omega)
 ·obtain ⟨rfl,rfl,bk,hw,hres⟩:=hms
  rcases Goes.cases hw with hstop|⟨m',hm,hstep⟩
  ·obtain ⟨m₂,hk2⟩:=K.anch bk g W (hstop W (rg_refl W))
   have hms':o.MS 16 0 vs m₂ 1 g W (kn (.inl 0)) (ow (.inl 0)):=⟨rfl,rfl,bk,hk2,hres⟩
   have S':o.St gs W t kn ow snt rcv sc pk n ρ Fin j stg fu df 16 0 vs m₂ 1 st sm:=⟨by rw[Bo.In.off h1 h2 (by omega) (by omega)];exact S.talk,S.run,S.finW,S.jr,S.rest,S.plan,fun _=>S.nil (by omega),S.deaf0,.inr (.inr ⟨by omega,by omega,g,hg,hms'⟩),S.wg,hmode⟩
   exact (S'.step16 (sl:=sl) K hg hms').le (lex_low (fun k=>.inl rfl) (fun _ _=>rfl) (.inl (.left _ _ (by simp[mx]))))
  ·obtain ⟨g',w',es,hgo,⟨rfl,rfl⟩,hg'⟩:=hstep W (rg_refl W)
   exact idle hgo ⟨rfl,rfl,bk,hg',hres⟩ (by omega)
 ·exact S.step16 (sl:=sl) K hg hms0
 ·obtain ⟨rfl,rfl,bk,hw,hres⟩:=hms
  rcases Goes.cases hw with hstop|⟨m',hm,hstep⟩
  ·obtain ⟨_,hall⟩:=hstop W (rg_refl W)
   have hwg0:=S.wg
   generalize htag:tagOf 14 vs=tag at hmode
   have ht:tag=.w2 vs:=htag.symm
   cases hmode with
   |opn q1 q2 q3=>
    subst ht
    have h3:=q3 vs rfl
    have hw1:WgAt o.ty o.Wg W ((Vc j (o.D stg):Nat)*KK) 0:=by simpa [pend] using hwg0
    obtain ⟨hz,hnz⟩:=hall (Vc j (o.D stg)) (by omega) hw1
    by_cases hv:Vc j (o.D stg)=vs
    ·obtain ⟨g',hgo,m₂,hk2⟩:=hz hv
     have B:Bk o.Wg 0 W (W.setCell (stA o.Wg) (.int .u64 ((Vc j (o.D stg):Nat)*KK+1))) #[rd (stA o.Wg),ConcR.wr (stA o.Wg)]:=bk_st _ (evg_two hlt)
     exact S.mnext K h1 h2 hg hgo B (x':=13) (vs':=vs) (m':=m₂) (d':=1) (by omega) (by omega) ⟨rfl,rfl,bk,hk2,K.res0 _ _ _ _ _ hres (S.ext0 K B (.inl 0))⟩ rfl (hw1.setSt _) (.reg trivial q2 (by omega)) (.left _ _ (by simp[mx,hv]))
    ·obtain ⟨g',hgo,m₂,hk2⟩:=hnz hv
     have hM:ConcN.Mode j (o.D stg) .kd (((Vc j (o.D stg)+pend .kd:Nat):Int)*KK) 0:=.opn trivial q2 (fun vs e=>by cases e)
     have hM:ConcN.Mode j (o.D stg) .kd ((Vc j (o.D stg):Nat)*KK) 0:=by simpa [pend] using hM
     have hv':¬vs=Vc j (o.D stg):=fun e=>hv e.symm
     exact S.mnext K h1 h2 hg hgo (bk_one (evg_cell hlt _ rfl _)) (x':=17) (vs':=vs) (m':=m₂) (d':=1) (by omega) (by omega) ⟨rfl,rfl,bk,hk2,hres⟩ rfl hw1 hM (.left _ _ (by simp[mx,hv']))
   |reg q1 _ _=>subst ht;exact q1.elim
   |last L q1 _ _ _=>subst ht;exact q1.elim
   |sema _=>cases ht
   |fin q1 _=>subst ht;exact q1.elim
  ·obtain ⟨g',w',es,hgo,⟨rfl,rfl⟩,hg'⟩:=hstep W (rg_refl W)
   exact idle hgo ⟨rfl,rfl,bk,hg',hres⟩ (by omega)
 ·obtain ⟨rfl,rfl,bk,hw,hres⟩:=hms
  rcases Goes.cases hw with hstop|⟨m',hm,hstep⟩
  ·obtain ⟨_,g',hgo,m₂,hk2⟩:=hstop W (rg_refl W)
   exact S.mnext K h1 h2 hg hgo (bk_one (evg_write hlt)) (x':=12) (vs':=vs) (m':=m₂) (d':=1) (by omega) (by omega) ⟨rfl,rfl,bk,hk2,hres⟩ rfl S.wg hmode (.left _ _ (by simp[mx]))
  ·obtain ⟨g',w',es,hgo,⟨rfl,rfl⟩,hg'⟩:=hstep W (rg_refl W)
   exact idle hgo ⟨rfl,rfl,bk,hg',hres⟩ (by omega)
 ·obtain ⟨rfl,rfl,bk,hw,hres⟩:=hms
  rcases Goes.cases hw with hstop|⟨m',hm,hstep⟩
  ·have hst3:=hstop W (rg_refl W)
   obtain ⟨_,hof,hsleep,hwake⟩:=hst3
   have hwg0:=S.wg
   have sleep:∀st0,WgAt o.ty o.Wg W st0 0→ConcN.Mode j (o.D stg) .blk st0 0→o.Next gs W t sl 0 (o.mu sc pk n ρ j stg fu 12 0 vs m):=fun st0 hq hM=>
    S.mnext K h1 h2 hg (hsleep ⟨st0,hq⟩) bk_none (x':=11) (vs':=vs) (m':=0) (d':=1) (by omega) (by omega) ⟨rfl,rfl,bk,⟨g,rfl,hstop⟩,hres⟩ rfl hq hM (.left _ _ (by simp[mx]))
   generalize htag:tagOf 12 vs=tag at hmode
   have ht:tag=.w3:=htag.symm
   cases hmode with
   |opn q1 q2 q3=>subst ht;exact q1.elim
   |reg q1 q2 q3=>exact sleep _ hwg0 (.reg trivial q2 q3)
   |last L q1 q2 q3 q4=>exact sleep _ hwg0 (.last L trivial q2 q3 q4)
   |sema q2=>
    obtain ⟨g',hgo,m₂,hk2⟩:=hwake hwg0
    have B:Bk o.Wg 0 W (W.setCell (smA o.Wg) (.int .u32 0)) (semEvents (smA o.Wg)):=bk_sm _ (evg_sem hlt)
    exact S.mnext K h1 h2 hg hgo B (x':=10) (vs':=vs) (m':=m₂) (d':=1) (by omega) (by omega) ⟨rfl,rfl,bk,hk2,K.res0 _ _ _ _ _ hres (S.ext0 K B (.inl 0))⟩ (by simp[deafBehind,semEvents]) (hwg0.setSm 0) (.fin trivial q2) (.left _ _ (by simp[mx]))
   |fin q1 _=>subst ht;exact q1.elim
  ·obtain ⟨g',w',es,hgo,⟨rfl,rfl⟩,hg'⟩:=hstep W (rg_refl W)
   exact idle hgo ⟨rfl,rfl,bk,hg',hres⟩ (by omega)
 ·obtain ⟨_,_,bk,⟨g0,rfl,_⟩,_⟩:=hms
  cases hrun
 ·obtain ⟨rfl,rfl,bk,hw,hres⟩:=hms
  rcases Goes.cases hw with hstop|⟨m',hm,hstep⟩
  ·obtain ⟨_,hx⟩:=hstop W (rg_refl W)
   have hwg0:=S.wg
   generalize htag:tagOf 10 vs=tag at hmode
   have ht:tag=.w4:=htag.symm
   cases hmode with
   |opn q1 q2 q3=>subst ht;exact q1.elim
   |reg q1 _ _=>subst ht;exact q1.elim
   |last L q1 _ _ _=>subst ht;exact q1.elim
   |sema _=>cases ht
   |fin q1 q2=>
    obtain ⟨g',hgo,m₂,hk2⟩:=hx hwg0
    exact S.mnext K h1 h2 hg hgo (bk_one (evg_cell hlt _ rfl _)) (x':=9) (vs':=vs) (m':=m₂) (d':=1) (by omega) (by omega) ⟨rfl,rfl,bk,hk2,hres⟩ rfl hwg0 (.fin trivial q2) (.left _ _ (by simp[mx]))
  ·obtain ⟨g',w',es,hgo,⟨rfl,rfl⟩,hg'⟩:=hstep W (rg_refl W)
   exact idle hgo ⟨rfl,rfl,bk,hg',hres⟩ (by omega)
 ·obtain ⟨rfl,rfl,bk,hw,hres⟩:=hms
  rcases Goes.cases hw with hstop|⟨m',hm,hstep⟩
  ·obtain ⟨_,g',hgo,m₂,hk2⟩:=hstop W (rg_refl W)
   have hwg0:=S.wg
   generalize htag:tagOf 9 vs=tag at hmode
   have ht:tag=.ke:=htag.symm
   cases hmode with
   |opn q1 q2 q3=>subst ht;exact q1.elim
   |reg q1 _ _=>subst ht;exact q1.elim
   |last L q1 _ _ _=>subst ht;exact q1.elim
   |sema _=>cases ht
   |fin q1 q2=>exact S.mnext K h1 h2 hg hgo (bk_one evg_en) (x':=8) (vs':=vs) (m':=m₂) (d':=0) (by omega) (by omega) ⟨rfl,rfl,bk,hk2,hres⟩ rfl hwg0 (.fin trivial q2) (.left _ _ (by simp[mx]))
  ·obtain ⟨g',w',es,hgo,⟨rfl,rfl⟩,hg'⟩:=hstep W (rg_refl W)
   exact idle hgo ⟨rfl,rfl,bk,hg',hres⟩ (by omega)
 ·obtain ⟨rfl,rfl,bk,hw,hres⟩:=hms
  rcases Goes.cases hw with hstop|⟨m',hm,hstep⟩
  ·obtain ⟨_,g',hgo,m₂,hk2⟩:=hstop W (rg_refl W)
   exact S.joins K hg hgo hk2 hres
  ·obtain ⟨g',w',es,hgo,⟨rfl,rfl⟩,hg'⟩:=hstep W (rg_refl W)
   exact idle hgo ⟨rfl,rfl,bk,hg',hres⟩ (by omega)
 ·exact hms.elim
end
end Go.Proofs.Ytniloklglpchfai
