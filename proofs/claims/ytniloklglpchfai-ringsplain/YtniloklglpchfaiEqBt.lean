/- Many that are started and waited for: each step of one that is done. No program in sight. -/
import Derived.Test.YtniloklglpchfaiPkEqBq
namespace Go.Proofs.Ytniloklglpchfai
open Go Go.Conc
open Go.ConcN (CTag WD WgLive cnt Vc upd pend isOpen isW3 OpenSt AllQuit)
open Go.ConcR (KK WgAt stA smA rd wr DC0)
section
variable {o:Bo} {j:Nat} {stg:Nat→Nat} {i k s':Nat} {st sm:Int} {x vs:Nat}
theorem Bo.D.up(hk:i=o.b0+k):o.D (upF stg i s')=upd (o.D stg) k ⟨min 7 s',0,0⟩:=by
 subst hk
 funext a
 by_cases e:a=k
 ·subst e;rw[ConcN.upd_same];simp[Bo.D,upF_self]
 ·rw[ConcN.upd_ne _ _ e]
  have:o.b0+a≠o.b0+k:=by omega
  simp[Bo.D,upF_ne _ this]
theorem Bo.D.same(h:stg i≠8):o.D (upF stg i (stg i))=o.D stg:=by
 have:upF stg i (stg i)=stg:=by
  funext a
  by_cases e:a=i
  ·subst e;rw[upF_self]
  ·rw[upF_ne _ e]
 rw[this]
theorem D_stage(k:Nat):(o.D stg k).stage=min 7 (stg (o.b0+k)):=rfl
end
section
variable {o:Bo} {gs gs':Array Goroutine} {W W1:World} {t u:Trace} {kn ow:Who→Nat→Prop} {snt rcv:Nat→Nat} {sc:Nat→List Cm} {pk:Nat→Bool} {n:Nat→Nat} {ρ:Nat→Rho} {Fin:Nat→Stand} {j:Nat} {stg fu df:Nat→Nat} {x r vs m d:Nat} {st sm:Int} {i:Nat} {sl:Option (Nat×Nat)} {g g1:Goroutine} {es:Array Event}
theorem pend_le(tag:CTag):pend tag≤1:=by
 cases tag with
 |sp a s=>simp only[pend];split<;>omega
 |_=>simp[pend]
theorem mute_touch{e:Event}(h:e.mute=true):(MemAct.ofEvent e).touch?=none:=by
 rcases ConcR.bk_of_mute (Wg:=0) h with q|q|⟨a,w,rfl,_⟩
 ·rw[ConcR.ofEvent_loc_mark q];rfl
 ·rw[ConcR.ofEvent_loc_mark q];rfl
 ·simp[Event.mute]at h
theorem mute_evg{Wg top:Nat}{e:Event}(h:e.mute=true):EvG Wg i top e:=by
 rcases ConcR.bk_of_mute (Wg:=Wg) h with q|q|⟨a,w,rfl,_⟩
 ·exact ⟨⟨fun b hb=>(by rw[mute_touch h]at hb;cases hb),by rw[ConcR.ofEvent_loc_mark q];trivial⟩,fun _=>by rw[q];simp⟩
 ·exact ⟨⟨fun b hb=>(by rw[mute_touch h]at hb;cases hb),by rw[ConcR.ofEvent_loc_mark q];trivial⟩,fun _=>by rw[q];simp⟩
 ·simp[Event.mute]at h
theorem Bo.St.wquit(K:o.Ok)(S:o.St gs W t kn ow snt rcv sc pk n ρ Fin j stg fu df x r vs m d st sm)(h1:1≤i)(h2:i<o.b0+j)(hst:stg i=1)(hg:gs[i]?=some g)(hrun:g.status=.running):
  ∃gs' W1 u stg' fu' df' x' m'' st' sm',runT o.E.P (crowd gs W sl) i=(.next (crowd gs' W1 sl),u)∧o.St gs' W1 (t++u) kn ow snt rcv sc pk n ρ Fin j stg' fu' df' x' r vs m'' d st' sm'∧o.Lt (o.mu sc pk n ρ j stg' fu' x' r vs m'') (o.mu sc pk n ρ j stg fu x r vs m):=by
 have h8:stg i≠8:=by omega
 obtain ⟨y,hy,hw,_⟩:=S.rest.ws i h1 h2 h8
 rw[hg]at hy
 obtain rfl:=Option.some.inj hy
 rw[hst]at hw
 have hw:QuitsD o.E.P (fu i) (df i) g:=hw
 cases hq:fu i with
 |zero=>rw[hq]at hw;rw[hw.1]at hrun;cases hrun
 |succ q=>
  rw[hq]at hw
  rcases hw with ⟨hf,_⟩|⟨_,g',es,hmute,hstep,hq'⟩
  ·rw[hf]at hrun;cases hrun
  ·obtain ⟨gs',u,x',m'',a1,a2,a3⟩:=S.wbook (sl:=sl) K h1 h2 h8 hg (hstep W) (bk_same fun e he=>mute_evg (hmute e he)) (fun _ e he=>mute_touch (hmute e he)) (s':=1) (m':=q) (d':=deafBehind (df i) es) (fun _=>rfl) (by omega) hq' rfl (fun _ _ q=>by omega) (fun k e he=>.inl (mute_touch (hmute e (Array.mem_of_getElem? he)))) S.wg (fun x' hx _=>by rw[←hst,Bo.D.same h8];exact S.mode.retag (tag_woke hx)) (.inr ⟨hst.symm,by omega⟩)
   exact ⟨gs',W,u,_,_,_,x',m'',_,_,a1,a2,a3⟩
set_option maxHeartbeats 1600000 in
theorem Bo.St.wstep(K:o.Ok)(S:o.St gs W t kn ow snt rcv sc pk n ρ Fin j stg fu df x r vs m d st sm)(h1:1≤i)(h2:i<o.b0+j)(h8:stg i≠8)(hg:gs[i]?=some g)(hrun:g.status=.running):
  ∃gs' W1 u stg' fu' df' x' m'' st' sm',runT o.E.P (crowd gs W sl) i=(.next (crowd gs' W1 sl),u)∧o.St gs' W1 (t++u) kn ow snt rcv sc pk n ρ Fin j stg' fu' df' x' r vs m'' d st' sm'∧o.Lt (o.mu sc pk n ρ j stg' fu' x' r vs m'') (o.mu sc pk n ρ j stg fu x r vs m):=by
 by_cases hst1:stg i=1
 ·exact S.wquit K h1 h2 hst1 hg hrun
 have hb0:o.b0≤i:=by
  rcases Nat.lt_or_ge i o.b0 with q|q
  ·exact absurd (S.rest.lv i h1 q) hst1
  ·exact q
 obtain ⟨k,hk⟩:∃k,i=o.b0+k:=⟨i - o.b0,by omega⟩
 have hkj:k<j:=by omega
 have hlv:∀s',i<o.b0→s'=1:=fun _ q=>by omega
 have htc:∀es:Array Event,i<o.b0→∀e,e∈es→(MemAct.ofEvent e).touch?=none:=fun _ q=>by omega
 have hlt:=wg_lt S.wg
 have hdeaf:∃y,gs[i]?=some y∧Deaf t i=df i:=by obtain ⟨y,q1,_,q3⟩:=S.rest.ws i h1 h2 h8;exact ⟨y,q1,q3⟩
 obtain ⟨y,hy,hw,hdf⟩:=S.rest.ws i h1 h2 h8
 rw[hg]at hy
 obtain rfl:=Option.some.inj hy
 have hmode:=S.mode
 have hDk:(o.D stg k).stage=min 7 (stg i):=by rw[D_stage,hk]
 have idle:∀{g':Goroutine} {m':Nat},stepG o.E.P false g W=.go g' W #[]→WS o.E.P o.ty o.Wg (stg i) m' (df i) g' W→m'<fu i→
   ∃gs' W1 u stg' fu' df' x' m'' st' sm',runT o.E.P (crowd gs W sl) i=(.next (crowd gs' W1 sl),u)∧o.St gs' W1 (t++u) kn ow snt rcv sc pk n ρ Fin j stg' fu' df' x' r vs m'' d st' sm'∧o.Lt (o.mu sc pk n ρ j stg' fu' x' r vs m'') (o.mu sc pk n ρ j stg fu x r vs m):=by
  intro g' m' hgo hws hm
  obtain ⟨gs',u,x',m'',a1,a2,a3⟩:=S.wbook (sl:=sl) K h1 h2 h8 hg hgo bk_none (htc _) (s':=stg i) (m':=m') (d':=df i) (hlv _) h8 hws rfl (fun _ q1 q2=>absurd q2 q1) (fun k e he=>by simp at he) S.wg (fun x' hx _=>by rw[Bo.D.same h8];exact hmode.retag (tag_woke hx)) (.inr ⟨rfl,hm⟩)
  exact ⟨gs',W,u,_,_,_,x',m'',_,_,a1,a2,a3⟩
 have book:∀{g':Goroutine} {W1:World} {es:Array Event} {s' m' d':Nat} {st' sm':Int},stepG o.E.P false g W=.go g' W1 es→Bk o.Wg i W W1 es→WgAt o.ty o.Wg W1 st' sm'→WS o.E.P o.ty o.Wg s' m' d' g' W1→deafBehind (df i) es=d'→s'<stg i→s'≠7→(stg i=7→∃q,RelAt (stA o.Wg) (t++MemOp.ofEvents i g.frame.fn g.frame.place es) kn ow i q∧ConcN.RelBy (stA o.Wg) (t++MemOp.ofEvents i g.frame.fn g.frame.place es) i q)→(∀(k:Nat) e,es[k]?=some e→(MemAct.ofEvent e).touch?=none∨((∃ad w,e=⟨.cell ad,w,true⟩)∧0<deafBehind (df i) (es.extract 0 k)))→
   (∀x',(x'=x∨(x=11∧x'=12))→(mayWake o.E.P g=true→g'.status=.running→x'≠11)→ConcN.Mode j (upd (o.D stg) k ⟨s',0,0⟩) (tagOf x' vs) st' sm')→
   ∃gs' W1 u stg' fu' df' x' m'' st' sm',runT o.E.P (crowd gs W sl) i=(.next (crowd gs' W1 sl),u)∧o.St gs' W1 (t++u) kn ow snt rcv sc pk n ρ Fin j stg' fu' df' x' r vs m'' d st' sm'∧o.Lt (o.mu sc pk n ρ j stg' fu' x' r vs m'') (o.mu sc pk n ρ j stg fu x r vs m):=by
  intro g' W1 es s' m' d' st' sm' hgo hB hwg hws hd hs h7 hrel hnc hmo
  have hs8:s'≤7∧s'≠8:=by
   unfold WS at hws
   split at hws<;>first|omega|exact hws.elim
  have hmin:min 7 s'=s':=by omega
  obtain ⟨gs',u,x',m'',a1,a2,a3⟩:=S.wbook (sl:=sl) K h1 h2 h8 hg hgo hB (htc _) (s':=s') (m':=m') (d':=d') (hlv _) hs8.2 hws hd (fun _ _ q=>hrel q) hnc hwg (fun x' hx hwk=>by rw[Bo.D.up hk,hmin];exact hmo x' hx hwk) (.inl hs)
  exact ⟨gs',W1,u,_,_,_,x',m'',_,_,a1,a2,a3⟩
 have none1:∀e:Event,(MemAct.ofEvent e).touch?=none→∀(k:Nat) e',(#[e]:Array Event)[k]?=some e'→(MemAct.ofEvent e').touch?=none∨((∃ad w,e'=⟨.cell ad,w,true⟩)∧0<deafBehind (df i) ((#[e]:Array Event).extract 0 k)):=fun e he k e' hk=>.inl (by
  have:=Array.mem_of_getElem? hk
  simp at this
  rw[this];exact he)
 have one1:df i=1→∀(ad:Addr) (w:Bool) (k:Nat) e',(#[⟨.cell ad,w,true⟩]:Array Event)[k]?=some e'→(MemAct.ofEvent e').touch?=none∨((∃ad w,e'=⟨.cell ad,w,true⟩)∧0<deafBehind (df i) ((#[⟨.cell ad,w,true⟩]:Array Event).extract 0 k)):=fun hd ad w k e' hk=>by
  match k,hk with
  |0,hk=>simp at hk;exact .inr ⟨⟨ad,w,hk.symm⟩,by simp[deafBehind,hd]⟩
  |k+1,hk=>simp at hk
 have two1:df i=1→∀(k:Nat) e',(#[rd (stA o.Wg),ConcR.wr (stA o.Wg)]:Array Event)[k]?=some e'→(MemAct.ofEvent e').touch?=none∨((∃ad w,e'=⟨.cell ad,w,true⟩)∧0<deafBehind (df i) ((#[rd (stA o.Wg),ConcR.wr (stA o.Wg)]:Array Event).extract 0 k)):=fun hd k e' hk=>by
  match k,hk with
  |0,hk=>simp at hk;exact .inr ⟨⟨_,_,hk.symm⟩,by simp[deafBehind,hd]⟩
  |1,hk=>simp at hk;exact .inr ⟨⟨_,_,hk.symm⟩,by simp[deafBehind,hd,rd]⟩
  |k+2,hk=>simp at hk
 have sem1:df i=1→∀(k:Nat) e',(semEvents (smA o.Wg))[k]?=some e'→(MemAct.ofEvent e').touch?=none∨((∃ad w,e'=⟨.cell ad,w,true⟩)∧0<deafBehind (df i) ((semEvents (smA o.Wg)).extract 0 k)):=fun hd k e' hk=>by
  match k,hk with
  |0,hk=>simp[semEvents]at hk;subst hk;exact .inl rfl
  |1,hk=>simp[semEvents]at hk;exact .inr ⟨⟨_,_,hk.symm⟩,by simp[deafBehind,semEvents,hd]⟩
  |2,hk=>simp[semEvents]at hk;exact .inr ⟨⟨_,_,hk.symm⟩,by simp[deafBehind,semEvents,hd]⟩
  |3,hk=>simp[semEvents]at hk;subst hk;exact .inl rfl
  |k+4,hk=>simp[semEvents]at hk
 have hVj:=ConcN.Vc_le j (o.D stg)
 have hjn:j≤o.nk:=by have:=S.jr;omega
 have hnk:=K.nk
 have hpl:=pend_le (tagOf x vs)
 have hcase:stg i=7∨stg i=6∨stg i=5∨stg i=4∨stg i=3∨stg i=2:=by
  have hw':=hw
  unfold WS at hw'
  split at hw'<;>first|omega|exact hw'.elim
 have hcnt:5≤stg i→5≤(o.D stg k).stage:=fun q=>by rw[hDk];omega
 rcases hcase with hst|hst|hst|hst|hst|hst
 ·rw[hst]at hw
  obtain ⟨hd0,hw⟩:df i=0∧Goes o.E.P false (RG o.ty o.Wg) DC0 (StR0 o.E.P o.ty o.Wg) (fu i) g W:=hw
  rcases Goes.cases hw with hstop|⟨m',hm,hstep⟩
  ·obtain ⟨_,g',hgo,m₂,hk2⟩:=hstop W (rg_refl W)
   exact book (s':=6) (m':=m₂) (d':=0) hgo (bk_one (evg_rel hlt)) S.wg ⟨rfl,hk2⟩ (by rw[hd0];rfl) (by omega) (by omega) (fun _=>⟨t.size,by
    have:=RelAt.new (a:=stA o.Wg) S.talk.net (hdf.trans hd0) g.frame.fn g.frame.place
    have e:MemOp.ofEvents i g.frame.fn g.frame.place #[ConcR.mk (.releaseMerge (stA o.Wg))]=#[{ g:=i,fn:=g.frame.fn,pos:=g.frame.place,act:=.mark (.releaseMerge (stA o.Wg)) }]:=by simp[MemOp.ofEvents];rfl
    rw[e];exact this,ConcN.RelBy.new (hdf.trans hd0) _ _⟩) (none1 _ rfl) (fun x' hx _=>(hmode.counted hkj (hcnt (by omega)) (.inl rfl) 0 0).retag (tag_woke hx))
  ·obtain ⟨g',w',es,hgo,⟨rfl,rfl⟩,hg'⟩:=hstep W (rg_refl W)
   exact idle hgo (by rw[hst];exact ⟨hd0,hg'⟩) (by omega)
 ·rw[hst]at hw
  obtain ⟨hd0,hw⟩:df i=0∧Goes o.E.P false (RG o.ty o.Wg) DC0 (StK1 o.E.P o.ty o.Wg) (fu i) g W:=hw
  rcases Goes.cases hw with hstop|⟨m',hm,hstep⟩
  ·obtain ⟨_,g',hgo,m₂,hk2⟩:=hstop W (rg_refl W)
   exact book (s':=5) (m':=m₂) (d':=1) hgo (bk_one evg_dis) S.wg ⟨rfl,hk2⟩ (by rw[hd0];rfl) (by omega) (by omega) (fun q=>by omega) (none1 _ rfl) (fun x' hx _=>(hmode.counted hkj (hcnt (by omega)) (.inr rfl) 0 0).retag (tag_woke hx))
  ·obtain ⟨g',w',es,hgo,⟨rfl,rfl⟩,hg'⟩:=hstep W (rg_refl W)
   exact idle hgo (by rw[hst];exact ⟨hd0,hg'⟩) (by omega)
 ·rw[hst]at hw
  obtain ⟨hd0,hw⟩:df i=1∧Goes o.E.P false (RG o.ty o.Wg) DC0 (StD1 o.E.P o.ty o.Wg) (fu i) g W:=hw
  rcases Goes.cases hw with hstop|⟨m',hm,hstep⟩
  ·obtain ⟨_,hall⟩:=hstop W (rg_refl W)
   have hwg0:=S.wg
   have hc1:cnt (o.D stg k)=1:=by simp[cnt,hcnt (show 5≤stg i by omega)]
   have hV1:1≤Vc j (o.D stg):=by have:=ConcN.le_sumTo (f:=fun x=>cnt (o.D stg x)) hkj;simp only[Vc];omega
   have hq0:cnt (⟨1,0,0⟩:WD)=0:=rfl
   have opq:OpenSt j (o.D stg)→OpenSt j (upd (o.D stg) k ⟨1,0,0⟩):=fun h a ha=>by
    by_cases e:a=k
    ·subst e;rw[ConcN.upd_same];simp
    ·rw[ConcN.upd_ne _ _ e];exact h a ha
   have hup:=ConcN.Vc_upd (o.D stg) (⟨1,0,0⟩:WD) hkj
   generalize htag:tagOf x vs=tag at hmode
   rw[htag]at hpl
   cases hmode with
   |opn q1 q2 q3=>
    obtain ⟨v,hv⟩:∃v,Vc j (o.D stg)+pend tag=v+1:=⟨Vc j (o.D stg)+pend tag - 1,by omega⟩
    rw[hv]at hwg0
    have hw1:WgAt o.ty o.Wg W (((v:Nat)+1)*KK+((0:Nat):Int)) 0:=by simpa using hwg0
    obtain ⟨g',hgo,_,hq⟩:=hall v 0 (by omega) (by omega) hw1
    obtain ⟨q,hq⟩:=hq (by omega)
    have hv':Vc j (upd (o.D stg) k ⟨1,0,0⟩)+pend tag=v:=by omega
    refine book (s':=1) (m':=q) (d':=1) hgo (bk_st _ (evg_two hlt)) (hwg0.setSt _) hq (by rw[hd0];rfl) (by omega) (by omega) (fun q=>by omega) (two1 hd0) (fun x' hx _=>?_)
    have e:((v:Nat):Int)*KK+((0:Nat):Int)=((Vc j (upd (o.D stg) k ⟨1,0,0⟩)+pend tag:Nat):Int)*KK:=by rw[hv'];simp
    rw[e]
    have hM:ConcN.Mode j (upd (o.D stg) k ⟨1,0,0⟩) tag (((Vc j (upd (o.D stg) k ⟨1,0,0⟩)+pend tag:Nat):Int)*KK) 0:=.opn q1 (opq q2) (fun vs ev=>by have:=q3 vs ev;omega)
    exact hM.retag (by rw[←htag];exact tag_woke hx)
   |reg q1 q2 q3=>
    obtain ⟨v,hv⟩:∃v,Vc j (o.D stg)=v+1:=⟨Vc j (o.D stg) - 1,by omega⟩
    rw[hv]at hwg0
    have hw1:WgAt o.ty o.Wg W (((v:Nat)+1)*KK+((1:Nat):Int)) 0:=by simpa using hwg0
    obtain ⟨g',hgo,hl,hq⟩:=hall v 1 (by omega) (by omega) hw1
    by_cases hv0:v=0
    ·subst hv0
     obtain ⟨m₂,hk2⟩:=hl ⟨rfl,rfl⟩
     refine book (s':=4) (m':=m₂) (d':=1) hgo (bk_st _ (evg_two hlt)) (hwg0.setSt _) ⟨rfl,hk2⟩ (by rw[hd0];rfl) (by omega) (by omega) (fun q=>by omega) (two1 hd0) (fun x' hx _=>?_)
     have hoth:∀a,a<j→a≠k→(o.D stg a).stage=1:=fun a ha e=>by
      have c0:=ConcN.others_uncounted hkj hv hc1 a ha e
      have:=q2 a ha
      simp only[cnt]at c0
      split at c0<;>omega
     have hM:=ConcN.Mode.last (j:=j) (D:=upd (o.D stg) k ⟨4,0,0⟩) (tag:=tag) k q1 hkj (by rw[ConcN.upd_same];simp) (fun a ha e=>by rw[ConcN.upd_ne _ _ e];exact hoth a ha e)
     rw[ConcN.upd_same]at hM
     have hM:ConcN.Mode j (upd (o.D stg) k ⟨4,0,0⟩) tag (((0:Nat):Int)*KK+((1:Nat):Int)) 0:=by simpa using hM
     exact hM.retag (by rw[←htag];exact tag_woke hx)
    ·obtain ⟨q,hq⟩:=hq (by omega)
     have hv':Vc j (upd (o.D stg) k ⟨1,0,0⟩)=v:=by omega
     refine book (s':=1) (m':=q) (d':=1) hgo (bk_st _ (evg_two hlt)) (hwg0.setSt _) hq (by rw[hd0];rfl) (by omega) (by omega) (fun q=>by omega) (two1 hd0) (fun x' hx _=>?_)
     have e:((v:Nat):Int)*KK+((1:Nat):Int)=((Vc j (upd (o.D stg) k ⟨1,0,0⟩):Nat):Int)*KK+1:=by rw[hv'];simp
     rw[e]
     have hM:ConcN.Mode j (upd (o.D stg) k ⟨1,0,0⟩) tag (((Vc j (upd (o.D stg) k ⟨1,0,0⟩):Nat):Int)*KK+1) 0:=.reg q1 (opq q2) (by omega)
     exact hM.retag (by rw[←htag];exact tag_woke hx)
   |last L _ q2 q3 q4=>
    by_cases e:k=L
    ·subst e;rw[hDk]at q3;omega
    ·have:=q4 k hkj e;rw[hDk]at this;omega
   |sema q2=>have:=q2 k hkj;rw[hDk]at this;omega
   |fin _ q2=>have:=q2 k hkj;rw[hDk]at this;omega
  ·obtain ⟨g',w',es,hgo,⟨rfl,rfl⟩,hg'⟩:=hstep W (rg_refl W)
   exact idle hgo (by rw[hst];exact ⟨hd0,hg'⟩) (by omega)
 ·rw[hst]at hw
  obtain ⟨hd0,hw⟩:df i=1∧Goes o.E.P false (RG o.ty o.Wg) DC0 (StD2 o.E.P o.ty o.Wg) (fu i) g W:=hw
  rcases Goes.cases hw with hstop|⟨m',hm,hstep⟩
  ·obtain ⟨_,hx⟩:=hstop W (rg_refl W)
   obtain ⟨hW3,hoth,hs1,hs2⟩:=hmode.isLast hkj (by rw[hDk];omega)
   have hwg0:=S.wg
   rw[hs1,hs2,hDk,hst]at hwg0
   have hwg1:WgAt o.ty o.Wg W 1 0:=by simpa using hwg0
   obtain ⟨g',hgo,m₂,hk2⟩:=hx hwg1
   refine book (s':=3) (m':=m₂) (d':=1) hgo (bk_one (evg_cell hlt _ rfl _)) hwg1 ⟨rfl,hk2⟩ (by rw[hd0];rfl) (by omega) (by omega) (fun q=>by omega) (one1 hd0 _ _) (fun x' hx _=>?_)
   have hM:=ConcN.Mode.last (j:=j) (D:=upd (o.D stg) k ⟨3,0,0⟩) (tag:=tagOf x vs) k hW3 hkj (by rw[ConcN.upd_same];simp) (fun a ha e=>by rw[ConcN.upd_ne _ _ e];exact hoth a ha e)
   rw[ConcN.upd_same]at hM
   exact (by simpa using hM:ConcN.Mode j (upd (o.D stg) k ⟨3,0,0⟩) (tagOf x vs) 1 0).retag (tag_woke hx)
  ·obtain ⟨g',w',es,hgo,⟨rfl,rfl⟩,hg'⟩:=hstep W (rg_refl W)
   exact idle hgo (by rw[hst];exact ⟨hd0,hg'⟩) (by omega)
 ·rw[hst]at hw
  obtain ⟨hd0,hw⟩:df i=1∧Goes o.E.P false (RG o.ty o.Wg) DC0 (StD3 o.E.P o.ty o.Wg) (fu i) g W:=hw
  rcases Goes.cases hw with hstop|⟨m',hm,hstep⟩
  ·obtain ⟨_,hx⟩:=hstop W (rg_refl W)
   obtain ⟨hW3,hoth,hs1,hs2⟩:=hmode.isLast hkj (by rw[hDk];omega)
   have hwg0:=S.wg
   rw[hs1,hs2,hDk,hst]at hwg0
   have hwg1:WgAt o.ty o.Wg W 1 0:=by simpa using hwg0
   obtain ⟨g',hgo,m₂,hk2⟩:=hx hwg1
   refine book (s':=2) (m':=m₂) (d':=1) hgo (bk_st _ (evg_one (evg_cell hlt _ rfl _))) (hwg1.setSt 0) ⟨rfl,hk2⟩ (by rw[hd0];rfl) (by omega) (by omega) (fun q=>by omega) (one1 hd0 _ _) (fun x' hx _=>?_)
   have hM:=ConcN.Mode.last (j:=j) (D:=upd (o.D stg) k ⟨2,0,0⟩) (tag:=tagOf x vs) k hW3 hkj (by rw[ConcN.upd_same];simp) (fun a ha e=>by rw[ConcN.upd_ne _ _ e];exact hoth a ha e)
   rw[ConcN.upd_same]at hM
   exact (by simpa using hM:ConcN.Mode j (upd (o.D stg) k ⟨2,0,0⟩) (tagOf x vs) 0 0).retag (tag_woke hx)
  ·obtain ⟨g',w',es,hgo,⟨rfl,rfl⟩,hg'⟩:=hstep W (rg_refl W)
   exact idle hgo (by rw[hst];exact ⟨hd0,hg'⟩) (by omega)
 ·rw[hst]at hw
  obtain ⟨hd0,hw⟩:df i=1∧Goes o.E.P false (RG o.ty o.Wg) DC0 (StD4 o.E.P o.ty o.Wg) (fu i) g W:=hw
  rcases Goes.cases hw with hstop|⟨m',hm,hstep⟩
  ·obtain ⟨_,hmw,hx⟩:=hstop W (rg_refl W)
   obtain ⟨hW3,hoth,hs1,hs2⟩:=hmode.isLast hkj (by rw[hDk];omega)
   have hwg0:=S.wg
   rw[hs1,hs2,hDk,hst]at hwg0
   have hwg1:WgAt o.ty o.Wg W 0 0:=by simpa using hwg0
   obtain ⟨g',hgo,q,hq⟩:=hx hwg1
   have hrun':g'.status=.running:=by
    cases q with
    |zero=>exact absurd hq.2 (by decide)
    |succ q=>exact hq.elim (fun x=>absurd x.2 (by decide)) (fun x=>x.1)
   refine book (s':=1) (m':=q) (d':=1) hgo (bk_sm _ (evg_sem hlt)) (hwg1.setSm 1) hq (by rw[hd0];simp[deafBehind,semEvents]) (by omega) (by omega) (fun q=>by omega) (sem1 hd0) (fun x' hx hwk=>?_)
   have hnb:=hwk hmw hrun'
   have e3:tagOf x' vs=.w3:=by
    rcases tag_woke (vs:=vs) hx with z|⟨_,z⟩
    ·rw[z]
     cases hq:tagOf x vs with
     |w3=>rfl
     |blk=>
      have:x=11:=by
       unfold tagOf at hq
       split at hq<;>first|rfl|cases hq
      exfalso
      rcases hx with rfl|⟨_,rfl⟩
      ·exact hnb this
      ·rw[this]at z;simp[tagOf]at z
     |_=>rw[hq]at hW3;exact hW3.elim
    ·exact z
   rw[e3]
   exact .sema fun a ha=>by
    by_cases e:a=k
    ·subst e;rw[ConcN.upd_same]
    ·rw[ConcN.upd_ne _ _ e];exact hoth a ha e
  ·obtain ⟨g',w',es,hgo,⟨rfl,rfl⟩,hg'⟩:=hstep W (rg_refl W)
   exact idle hgo (by rw[hst];exact ⟨hd0,hg'⟩) (by omega)
end
end Go.Proofs.Ytniloklglpchfai
