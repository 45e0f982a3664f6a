/- Many that are started and waited for: what holds between two turns; a turn of one that talks. No program in sight. -/
import Derived.Test.YtniloklglpchfaiPkEqBo
namespace Go.Proofs.Ytniloklglpchfai
open Go Go.Conc
open Go.ConcN (CTag WD WgLive)
open Go.ConcR (KK WgAt stA smA rd wr DC0)
section
variable (o:Bo)
def Bo.In (x j:Nat) (stg:Nat→Nat):Nat→Prop:=fun i=>(i=0∧(x=30∨x=20))∨(o.b0≤i∧i<o.b0+j∧stg i=8)
def Bo.D (stg:Nat→Nat):Nat→WD:=fun k=>⟨min 7 (stg (o.b0+k)),0,0⟩
def Bo.full (i:Nat):List Cm:=if i=0 then o.sc0 else o.scr i
def Bo.vsc (r:Nat) (sc:Nat→List Cm) (i:Nat):List Cm:=if i=0∧r≠0 then o.sc0 else sc i
structure Bo.Rest (gs:Array Goroutine) (W:World) (t:Trace) (kn ow:Who→Nat→Prop) (sc:Nat→List Cm) (j:Nat) (stg fu df:Nat→Nat):Prop where
 size:gs.size=o.b0+j
 lv:∀i,1≤i→i<o.b0→stg i=1
 ws:∀i,1≤i→i<o.b0+j→stg i≠8→∃g,gs[i]?=some g∧WS o.E.P o.ty o.Wg (stg i) (fu i) (df i) g W∧Deaf t i=df i
 res:∀i,o.b0≤i→i<o.b0+j→stg i≠8→o.Res i W (kn (.inl i)) (ow (.inl i))∧sc i=[]
 rel:∀i,o.b0≤i→i<o.b0+j→stg i≠8→stg i≠7→∃q,RelAt (stA o.Wg) t kn ow i q∧ConcN.RelBy (stA o.Wg) t i q
 norel:∀a k,t.act? k≠some (.mark (.release a))
 old:∀i,i=0∨(o.b0≤i∧i<o.b0+j)→OldOk t i o.Wg
 fresh:∀i,o.b0+j≤i→(∀B,¬kn (.inl i) B)∧Deaf t i=0
 new:∀B,W.heap.size≤B→¬o.Out B
 hand:HandW o.b0 j t
 kp:Kp o.base o.N0 o.Out W ow
structure Bo.Plan (snt rcv:Nat→Nat) (sc:Nat→List Cm) (j r:Nat):Prop where
 later:∀i,o.b0+j≤i→sc i=o.scr i
 ordl:∀i,o.b0+j≤i→i<o.b0+o.nk→Ord o.chs o.rdr o.wtr i (o.scr i) snt rcv
 ord0:r≠0→Ord o.chs o.rdr o.wtr 0 o.sc0 snt rcv∧sc 0=[]
 suf:∀i,∃d,o.vsc r sc i=(o.full i).drop d
 tsn:∀c,snt c+cmc true c (o.vsc r sc (o.wtr c))=cmc true c (o.full (o.wtr c))
 trc:∀c,rcv c+cmc false c (o.vsc r sc (o.rdr c))=cmc false c (o.full (o.rdr c))
def Bo.Main (gs:Array Goroutine) (W:World) (kn ow:Who→Nat→Prop) (Fin:Nat→Stand) (j x r vs m d:Nat):Prop:=
 (x=30∧d=0∧Fin 0=o.nextF r)∨(x=20∧d=0∧∃r',r=r'+1∧Fin 0=o.GoAt (o.b0+j) (o.nextF r') (o.nextL r'))∨
  (x≠30∧x≠20∧∃g,gs[0]?=some g∧o.MS x r vs m d g W (kn (.inl 0)) (ow (.inl 0)))
structure Bo.St (gs:Array Goroutine) (W:World) (t:Trace) (kn ow:Who→Nat→Prop) (snt rcv:Nat→Nat) (sc:Nat→List Cm) (pk:Nat→Bool) (n:Nat→Nat) (ρ:Nat→Rho) (Fin:Nat→Stand) (j:Nat) (stg fu df:Nat→Nat) (x r vs m d:Nat) (st sm:Int):Prop where
 talk:Talk o.E o.M Fin o.chs o.cap o.rdr o.wtr o.Out o.Sh (o.In x j stg) gs W t kn ow snt rcv sc pk n ρ
 run:∀i g W kn ow,Fin i g W kn ow→g.status=.running
 finW:∀i,o.b0≤i→Fin i=o.FinW i
 jr:j+r=o.nk
 rest:o.Rest gs W t kn ow sc j stg fu df
 plan:o.Plan snt rcv sc j r
 nil:x≠30→sc 0=[]
 deaf0:Deaf t 0=d
 main:o.Main gs W kn ow Fin j x r vs m d
 wg:WgAt o.ty o.Wg W st sm
 mode:ConcN.Mode j (o.D stg) (tagOf x vs) st sm
def zr:Rho:=fun _=>0
def Bo.wr (sc:Nat→List Cm) (pk:Nat→Bool) (n:Nat→Nat) (ρ:Nat→Rho) (j:Nat) (stg fu:Nat→Nat) (i:Nat):Rk:=
 if i<o.b0+j then (if stg i=8 then (10+(rkOf sc pk n ρ i).1,(rkOf sc pk n ρ i).2) else (stg i,fu i,zr)) else (12+2*(o.scr i).length,0,zr)
def mx (b x vs v:Nat):Nat:=
 match x with
 |28=>b+8
 |27=>b+7
 |23=>b+6
 |22=>b+5
 |21=>b+4
 |18=>18
 |17=>16
 |16=>15
 |14=>if vs=v then 14 else 17
 |y=>y
def Bo.mr (rk:Rk) (x r vs m v:Nat):Rk:=
 if x=30 then (40+(2*o.sc0.length+40)*r+(if r=0 then 0 else 9)+rk.1,rk.2) else if x=20 then (40+(2*o.sc0.length+40)*r+1+rk.1,rk.2) else (mx (40+(2*o.sc0.length+40)*r) x vs v,m,zr)
abbrev Mu:=(Nat→Rk)×Rk
def Bo.mu (sc:Nat→List Cm) (pk:Nat→Bool) (n:Nat→Nat) (ρ:Nat→Rho) (j:Nat) (stg fu:Nat→Nat) (x r vs m:Nat):Mu:=
 (fun k=>o.wr sc pk n ρ j stg fu (k+1),o.mr (rkOf sc pk n ρ 0) x r vs m (ConcN.Vc j (o.D stg)))
def Bo.Lt:Mu→Mu→Prop:=Prod.Lex (LtN LtK (o.b0+o.nk)) LtK
theorem Bo.lt_wf:WellFounded o.Lt:=(Prod.lex ⟨_,ltN_wf ltK_wf _⟩ ⟨_,ltK_wf⟩).wf
end
theorem ltK_irr(a:Rk):¬LtK a a:=fun h=>by
 have:∀b,b=a→False:=fun b=>ltK_wf.induction (C:=fun b=>b=a→False) b fun x ih e=>by subst e;exact ih x h rfl
 exact this a rfl
theorem lex_low{N:Nat}{f f':Nat→Rk}{a a':Rk}(h:∀k,f' k=f k∨LtK (f' k) (f k))(hN:∀k,N≤k→f' k=f k)(ha:LtK a' a∨∃k,LtK (f' k) (f k)):Prod.Lex (LtN LtK N) LtK (f',a') (f,a):=by
 by_cases hx:∃k,LtK (f' k) (f k)
 ·obtain ⟨k,hk⟩:=hx
  refine .left _ _ ⟨fun i _=>h i,k,?_,hk⟩
  rcases Nat.lt_or_ge k N with q|q
  ·exact q
  ·rw[hN k q]at hk
   exact absurd hk (ltK_irr _)
 ·have e:f'=f:=funext fun k=>(h k).resolve_right fun q=>hx ⟨k,q⟩
  rw[e]
  exact .right _ (ha.resolve_right hx)
theorem ltK_add{a b:Rk}(c:Nat)(h:LtK a b):LtK (c+a.1,a.2) (c+b.1,b.2):=by
 obtain ⟨a1,a2⟩:=a
 obtain ⟨b1,b2⟩:=b
 cases h with
 |left _ _ h=>exact .left _ _ (Nat.add_lt_add_left h c)
 |right _ h=>exact .right _ h
section
variable {o:Bo} {gs gs':Array Goroutine} {W W':World} {t u:Trace} {kn ow kn' ow':Who→Nat→Prop} {snt rcv snt' rcv':Nat→Nat} {sc sc':Nat→List Cm} {pk pk':Nat→Bool} {n n':Nat→Nat} {ρ ρ':Nat→Rho} {Fin:Nat→Stand} {j:Nat} {stg fu df:Nat→Nat} {x r vs m d:Nat} {st sm:Int} {i:Nat}
theorem Bo.In.woke{x':Nat}(h:x'=x∨(x=11∧x'=12)):o.In x' j stg=o.In x j stg:=by
 funext i
 rcases h with rfl|⟨rfl,rfl⟩
 ·rfl
 ·simp[Bo.In]
theorem Bo.Plan.turn(L:o.Plan snt rcv sc j r)(C:Cnt (o.In x j stg) o.rdr o.wtr sc sc' snt snt' rcv rcv')(hb:1≤o.b0):o.Plan snt' rcv' sc' j r:=by
 have hnin:∀i,o.b0+j≤i→¬o.In x j stg i:=fun i hi q=>by
  rcases q with ⟨rfl,_⟩|⟨_,q,_⟩<;>omega
 have hnil:sc 0=[]→sc' 0=[]:=fun h=>by obtain ⟨d,hd⟩:=C.drop 0;rw[hd,h,List.drop_nil]
 have h0:∀k,k=0∧r≠0→sc' k=sc k:=fun k hk=>by rw[hk.1,(L.ord0 hk.2).2,hnil (L.ord0 hk.2).2]
 have hs:∀k,(¬o.In x j stg k∨(k=0∧r≠0))→(∀c,o.wtr c=k→snt' c=snt c)∧(∀c,o.rdr c=k→rcv' c=rcv c):=fun k hk=>by
  have e:sc' k=sc k:=hk.elim (C.off k) (h0 k)
  refine ⟨fun c hc=>?_,fun c hc=>?_⟩
  ·have:=C.snt c;rw[hc,e]at this;omega
  ·have:=C.rcv c;rw[hc,e]at this;omega
 refine ⟨fun i hi=>(C.off i (hnin i hi)).trans (L.later i hi),fun i hi hn=>(L.ordl i hi hn).same (hs i (.inl (hnin i hi))).1 (hs i (.inl (hnin i hi))).2,fun hr=>⟨(L.ord0 hr).1.same (hs 0 (.inr ⟨rfl,hr⟩)).1 (hs 0 (.inr ⟨rfl,hr⟩)).2,hnil (L.ord0 hr).2⟩,fun i=>?_,fun c=>?_,fun c=>?_⟩
 ·have:=L.suf i
  unfold Bo.vsc at this ⊢
  split
  ·next h=>rw[if_pos h]at this;exact this
  ·next h=>
   rw[if_neg h]at this
   obtain ⟨d,hd⟩:=this
   obtain ⟨e,he⟩:=C.drop i
   exact ⟨d+e,by rw[he,hd,List.drop_drop]⟩
 ·have:=L.tsn c
  unfold Bo.vsc at this ⊢
  split
  ·next h=>rw[if_pos h]at this;rw[(hs _ (.inr h)).1 c rfl];exact this
  ·next h=>rw[if_neg h]at this;rw[←this];exact C.snt c
 ·have:=L.trc c
  unfold Bo.vsc at this ⊢
  split
  ·next h=>rw[if_pos h]at this;rw[(hs _ (.inr h)).2 c rfl];exact this
  ·next h=>rw[if_neg h]at this;rw[←this];exact C.rcv c
theorem wg_lt{ty:TypeId}{Wg:Nat}(h:WgAt ty Wg W st sm):Wg<W.heap.size:=by
 have h:W.heap[Wg]?=some _:=h
 exact (Array.getElem?_eq_some_iff.1 h).1
theorem Bo.Main.turn(K:o.Ok)(h:o.Main gs W kn ow Fin j x r vs m d)(hap:Apt o.Out W'.heap.size kn' ow')(hkn:x≠30→x≠20→kn' (.inl 0)=kn (.inl 0)∧ow' (.inl 0)=ow (.inl 0)∧Ext (kn (.inl 0)) W W')(hr:RG o.ty o.Wg W W')(a a':Goroutine)
  (hg:x≠30→x≠20→gs'[0]?=gs[0]?∨gs'[0]?=(gs[0]?).map (Conc.woken o.E.P a a' W')):∃x' m',o.Main gs' W' kn' ow' Fin j x' r vs m' d∧(x'=x∧m'=m∨(x=11∧x'=12))∧(x≠30→x≠20→gs'[0]?=(gs[0]?).map (Conc.woken o.E.P a a' W')→mayWake o.E.P a=true→a'.status=.running→x'≠11):=by
 rcases h with h|h|⟨h1,h2,g,h3,h4⟩
 ·exact ⟨x,m,.inl h,.inl ⟨rfl,rfl⟩,fun q=>absurd h.1 q⟩
 ·exact ⟨x,m,.inr (.inl h),.inl ⟨rfl,rfl⟩,fun _ q=>absurd h.1 q⟩
 ·obtain ⟨e1,e2,e3⟩:=hkn h1 h2
  have h5:=h4.rely K hr e3
  rw[←e1,←e2]at h5
  have hk:∀B,kn' (.inl 0) B→B<W'.heap.size:=fun B q=>(hap.low _ B q).1
  obtain ⟨x',m',q1,q2,q3⟩:=h5.wokenBy K hk (hap.own _) a a'
  have hne:∀y,(y=x∨(x=11∧y=12))→y≠30∧y≠20:=fun y hy=>by omega
  rcases hg h1 h2 with z|z
  ·by_cases hz:gs'[0]?=(gs[0]?).map (Conc.woken o.E.P a a' W')
   ·exact ⟨x',m',.inr (.inr ⟨(hne x' (q2.imp (·.1) id)).1,(hne x' (q2.imp (·.1) id)).2,_,by rw[hz,h3];rfl,q1⟩),q2,fun _ _ _=>q3⟩
   ·exact ⟨x,m,.inr (.inr ⟨h1,h2,g,by rw[z];exact h3,h5⟩),.inl ⟨rfl,rfl⟩,fun _ _ q=>absurd q hz⟩
  ·exact ⟨x',m',.inr (.inr ⟨(hne x' (q2.imp (·.1) id)).1,(hne x' (q2.imp (·.1) id)).2,_,by rw[z,h3];rfl,q1⟩),q2,fun _ _ _=>q3⟩
theorem tag_woke{x':Nat}(h:x'=x∨(x=11∧x'=12)):tagOf x' vs=tagOf x vs∨(tagOf x vs=.blk∧tagOf x' vs=.w3):=by
 rcases h with rfl|⟨rfl,rfl⟩
 ·exact .inl rfl
 ·exact .inr ⟨rfl,rfl⟩
end
open Go.ConcN (CTag WD WgLive)
open Go.ConcR (KK WgAt stA smA rd wr DC0)
section
variable {o:Bo} {gs gs':Array Goroutine} {W W':World} {t u:Trace} {kn ow kn' ow':Who→Nat→Prop} {snt rcv snt' rcv':Nat→Nat} {sc sc':Nat→List Cm} {pk pk':Nat→Bool} {n n':Nat→Nat} {ρ ρ':Nat→Rho} {Fin:Nat→Stand} {j:Nat} {stg fu df:Nat→Nat} {x r vs m d:Nat} {st sm:Int} {i:Nat}
theorem Bo.notIn{k:Nat}(h1:1≤k)(h8:k<o.b0+j→stg k≠8):¬o.In x j stg k:=fun q=>by
 rcases q with ⟨rfl,_⟩|⟨_,q1,q2⟩
 ·omega
 ·exact h8 q1 q2
theorem Bo.St.wgOut(K:o.Ok)(S:o.St gs W t kn ow snt rcv sc pk n ρ Fin j stg fu df x r vs m d st sm):o.Out o.Wg:=S.talk.net.sh _ K.sh
theorem Bo.St.wgChs(K:o.Ok)(S:o.St gs W t kn ow snt rcv sc pk n ρ Fin j stg fu df x r vs m d st sm):o.Wg ∉ o.chs:=fun h=>(S.talk.net.chan _ h).2.2.1 K.sh
theorem Bo.St.turn(K:o.Ok)(S:o.St gs W t kn ow snt rcv sc pk n ρ Fin j stg fu df x r vs m d st sm)(hi:o.In x j stg i)(T':Talk o.E o.M Fin o.chs o.cap o.rdr o.wtr o.Out o.Sh (o.In x j stg) gs' W' (t++u) kn' ow' snt' rcv' sc' pk' n' ρ')
  (U:Turn o.E o.chs o.rdr o.wtr (o.In x j stg) i gs gs' W W' u kn ow kn' ow' sc sc' snt snt' rcv rcv' (rkOf sc pk n ρ) (rkOf sc' pk' n' ρ')):
  ∃x' m',o.St gs' W' (t++u) kn' ow' snt' rcv' sc' pk' n' ρ' Fin j stg fu df x' r vs m' d st sm∧o.Lt (o.mu sc' pk' n' ρ' j stg fu x' r vs m') (o.mu sc pk n ρ j stg fu x r vs m):=by
 have hout:=S.wgOut K
 have hlt:=wg_lt S.wg
 have hwg:W'.heap[o.Wg]?=W.heap[o.Wg]?:=U.keep _ hlt (fun q=>(S.talk.net.apt.low _ _ (S.talk.net.apt.own _ _ q)).2 hout) (S.wgChs K)
 have hrg:RG o.ty o.Wg W W':=fun ⟨a,b,h⟩=>⟨a,b,hwg.trans h⟩
 have hb:=K.b1
 have hdf:∀k,Deaf (t++u) k=Deaf t k:=fun k=>U.deaf k
 have hn0:x≠30→x≠20→¬o.In x j stg 0:=fun h1 h2 q=>by
  rcases q with ⟨_,q⟩|⟨q,_⟩<;>omega
 have hmain:∃x' m',o.Main gs' W' kn' ow' Fin j x' r vs m' d∧(x'=x∧m'=m∨(x=11∧x'=12)):=by
  by_cases h0:o.In x j stg 0
  ·have hx:x=30∨x=20:=by
    rcases h0 with ⟨_,q⟩|⟨q,_⟩
    ·exact q
    ·omega
   obtain ⟨x',m',q1,q2,_⟩:=S.main.turn (gs':=gs') K T'.net.apt (fun h1 h2=>absurd hx (by omega)) hrg default default (fun h1 h2=>absurd hx (by omega))
   exact ⟨x',m',q1,q2⟩
  ·have hk:x≠30→x≠20→kn' (.inl 0)=kn (.inl 0)∧ow' (.inl 0)=ow (.inl 0)∧Ext (kn (.inl 0)) W W':=fun _ _=>⟨(U.others 0 h0).1,(U.others 0 h0).2,U.ext S.talk hi h0⟩
   rcases U.off 0 h0 with z|⟨a,a',z⟩
   ·obtain ⟨x',m',q1,q2,_⟩:=S.main.turn (gs':=gs') K T'.net.apt hk hrg default default (fun _ _=>.inl z)
    exact ⟨x',m',q1,q2⟩
   ·obtain ⟨x',m',q1,q2,_⟩:=S.main.turn (gs':=gs') K T'.net.apt hk hrg a a' (fun _ _=>.inr z)
    exact ⟨x',m',q1,q2⟩
 obtain ⟨x',m',hm1,hm2⟩:=hmain
 have hx':x'=x∨(x=11∧x'=12):=hm2.imp (·.1) id
 have hnil:x'≠30→sc' 0=[]:=fun h=>by
  have:x≠30:=by omega
  obtain ⟨e,he⟩:=U.cnt.drop 0
  rw[he,S.nil this,List.drop_nil]
 refine ⟨x',m',⟨by rw[Bo.In.woke hx'];exact T',S.run,S.finW,S.jr,⟨U.size.trans S.rest.size,S.rest.lv,fun k h1 h2 h8=>?_,fun k h1 h2 h8=>?_,fun k h1 h2 h8 h7=>?_,fun a=>U.norel (S.rest.norel a),fun k hk=>U.old S.talk hout hlt (S.rest.old k hk),fun k hk=>?_,fun B hB=>S.rest.new B (Nat.le_trans U.grow hB),U.hand (hi.imp (·.1) fun q=>⟨q.1,q.2.1⟩) S.rest.hand,S.rest.kp.turn U.grow U.plain U.keep (fun c hc=>(S.talk.net.chan c hc).1) U.had⟩,S.plan.turn U.cnt hb,hnil,(hdf 0).trans S.deaf0,hm1,hwg.trans S.wg,S.mode.retag (tag_woke hx')⟩,?_⟩
 ·have hnk:=Bo.notIn (o:=o) (x:=x) (j:=j) h1 (fun _=>h8)
  obtain ⟨g,q1,q2,q3⟩:=S.rest.ws k h1 h2 h8
  have q2':=q2.rely hrg
  refine ⟨g,?_,q2',(hdf k).trans q3⟩
  rcases U.off k hnk with z|⟨a,a',z⟩
  ·rw[z];exact q1
  ·rw[z,q1,Option.map_some,q2'.woken]
 ·have hnk:=Bo.notIn (o:=o) (x:=x) (j:=j) (k:=k) (by omega) (fun _=>h8)
  obtain ⟨q1,q2⟩:=S.rest.res k h1 h2 h8
  rw[(U.others k hnk).1,(U.others k hnk).2]
  exact ⟨K.res _ _ _ _ _ q1 (U.ext S.talk hi hnk),(U.cnt.off k hnk).trans q2⟩
 ·have hnk:=Bo.notIn (o:=o) (x:=x) (j:=j) (k:=k) (by omega) (fun _=>h8)
  obtain ⟨q,hq⟩:=S.rest.rel k h1 h2 h8 h7
  exact ⟨q,U.rel S.talk hi hnk hq.1,U.relBy hi hnk hq.2⟩
 ·have hnk:=Bo.notIn (o:=o) (x:=x) (j:=j) (stg:=stg) (k:=k) (by omega) (fun q=>by omega)
  rw[(U.others k hnk).1]
  exact ⟨(S.rest.fresh k hk).1,(hdf k).trans (S.rest.fresh k hk).2⟩
 ·have hw:∀k,o.wr sc' pk' n' ρ' j stg fu (k+1)=o.wr sc pk n ρ j stg fu (k+1)∨LtK (o.wr sc' pk' n' ρ' j stg fu (k+1)) (o.wr sc pk n ρ j stg fu (k+1)):=fun k=>by
   unfold Bo.wr
   split
   ·split
    ·rcases U.low (k+1) with z|z
     ·exact .inl (by rw[z])
     ·exact .inr (ltK_add 10 z)
    ·exact .inl rfl
   ·exact .inl rfl
  refine lex_low hw (fun k hk=>?_) ?_
  ·have:=S.jr
   show o.wr sc' pk' n' ρ' j stg fu (k+1)=o.wr sc pk n ρ j stg fu (k+1)
   unfold Bo.wr
   rw[if_neg (show ¬k+1<o.b0+j by omega),if_neg (show ¬k+1<o.b0+j by omega)]
  ·rcases hi with ⟨rfl,hx⟩|⟨h1,h2,h8⟩
   ·left
    have e:x'=x:=by omega
    subst e
    show LtK (o.mr _ x' r vs m' _) (o.mr _ x' r vs m _)
    unfold Bo.mr
    rcases hx with rfl|rfl
    ·rw[if_pos rfl,if_pos rfl]
     exact ltK_add _ U.dec
    ·rw[if_neg (show ¬(20:Nat)=30 by omega),if_neg (show ¬(20:Nat)=30 by omega),if_pos rfl,if_pos rfl]
     exact ltK_add _ U.dec
   ·right
    refine ⟨i - 1,?_⟩
    show LtK (o.wr sc' pk' n' ρ' j stg fu (i - 1+1)) (o.wr sc pk n ρ j stg fu (i - 1+1))
    rw[show i - 1+1=i by omega]
    unfold Bo.wr
    rw[if_pos h2,if_pos h8,if_pos h2,if_pos h8]
    exact ltK_add 10 U.dec
end
open Go.ConcN (CTag WD WgLive)
open Go.ConcR (KK WgAt stA smA rd wr DC0)
structure Bk (Wg i:Nat) (W W1:World) (es:Array Event):Prop where
 ev:∀e,e∈es→(∀a,(MemAct.ofEvent e).touch?=some a→blkOf a.loc=some Wg∧AtK i a)∧(MemAct.ofEvent e).low W.heap.size
 nr:∀e,e∈es→∀a,e.loc≠.mark (.release a)
 size:W1.heap.size=W.heap.size
 keep:∀B,B≠Wg→W1.heap[B]?=W.heap[B]?
 bare:bare W1=bare W
section
variable {Wg i:Nat} {W:World}
def EvG (Wg i top:Nat) (e:Event):Prop:=((∀a,(MemAct.ofEvent e).touch?=some a→blkOf a.loc=some Wg∧AtK i a)∧(MemAct.ofEvent e).low top)∧∀a,e.loc≠.mark (.release a)
theorem evg_cell{top:Nat}(hw:Wg<top)(a:Addr)(ha:a.block=Wg)(w:Bool):EvG Wg i top ⟨.cell a,w,true⟩:=by
 refine ⟨⟨fun b hb=>?_,?_⟩,fun _ q=>by cases q⟩
 ·cases w<;>(simp only[MemAct.ofEvent,MemAct.touch?,Option.some.injEq]at hb;subst hb;exact ⟨by simp[blkOf,ha],.inl rfl⟩)
 ·cases w<;>(show a.block<top;omega)
theorem evg_dis{top:Nat}:EvG Wg i top (ConcR.mk .disable):=⟨⟨fun _ h=>(by cases h),trivial⟩,fun _ q=>by cases q⟩
theorem evg_en{top:Nat}:EvG Wg i top (ConcR.mk .enable):=⟨⟨fun _ h=>(by cases h),trivial⟩,fun _ q=>by cases q⟩
theorem evg_rel{top:Nat}(hw:Wg<top):EvG Wg i top (ConcR.mk (.releaseMerge (stA Wg))):=⟨⟨fun _ h=>(by cases h),hw⟩,fun _ q=>by cases q⟩
theorem evg_acq{top:Nat}(hw:Wg<top):EvG Wg i top (ConcR.mk (.acquire (stA Wg))):=⟨⟨fun _ h=>(by cases h),hw⟩,fun _ q=>by cases q⟩
theorem evg_read{top:Nat}(hw:Wg<top):EvG Wg 0 top ⟨.mark (.read ⟨Wg,1,none⟩),false,true⟩:=⟨⟨fun b hb=>(by simp only[MemAct.ofEvent,MemAct.touch?,Option.some.injEq]at hb;subst hb;exact ⟨rfl,.inr ⟨rfl,rfl⟩⟩),hw⟩,fun _ q=>by cases q⟩
theorem evg_write{top:Nat}(hw:Wg<top):EvG Wg 0 top ⟨.mark (.write ⟨Wg,1,none⟩),false,true⟩:=⟨⟨fun b hb=>(by simp only[MemAct.ofEvent,MemAct.touch?,Option.some.injEq]at hb;subst hb;exact ⟨rfl,.inr ⟨rfl,rfl⟩⟩),hw⟩,fun _ q=>by cases q⟩
theorem bk_of{W1:World}{es:Array Event}(h:∀e,e∈es→EvG Wg i W.heap.size e)(h1:W1.heap.size=W.heap.size)(h2:∀B,B≠Wg→W1.heap[B]?=W.heap[B]?)(h3:bare W1=bare W):Bk Wg i W W1 es:=⟨fun e he=>(h e he).1,fun e he=>(h e he).2,h1,h2,h3⟩
theorem bk_same{es:Array Event}(h:∀e,e∈es→EvG Wg i W.heap.size e):Bk Wg i W W es:=bk_of h rfl (fun _ _=>rfl) rfl
theorem bk_none:Bk Wg i W W #[]:=bk_same fun e he=>by simp at he
theorem bk_one{e:Event}(h:EvG Wg i W.heap.size e):Bk Wg i W W #[e]:=bk_same fun e' he=>by simp at he;subst he;exact h
theorem bare_setCell(a:Addr)(v:Value):bare (W.setCell a v)=bare W:=by
 unfold World.setCell
 split<;>rfl
theorem bk_set{a:Addr}(ha:a.block=Wg)(v:Value){es:Array Event}(h:∀e,e∈es→EvG Wg i W.heap.size e):Bk Wg i W (W.setCell a v) es:=
 bk_of h (by have:=aside_setCell W a v;exact this.size) (fun B hB=>(aside_setCell W a v).block B (by rw[ha];exact hB)) (bare_setCell a v)
theorem bk_st(v:Value){es:Array Event}(h:∀e,e∈es→EvG Wg i W.heap.size e):Bk Wg i W (W.setCell (stA Wg) v) es:=bk_set (a:=stA Wg) rfl v h
theorem bk_sm(v:Value){es:Array Event}(h:∀e,e∈es→EvG Wg i W.heap.size e):Bk Wg i W (W.setCell (smA Wg) v) es:=bk_set (a:=smA Wg) rfl v h
theorem evg_one{e:Event}{top:Nat}(h:EvG Wg i top e):∀e',e'∈#[e]→EvG Wg i top e':=fun e' he=>by simp at he;subst he;exact h
theorem evg_sem{top:Nat}(hw:Wg<top):∀e,e∈semEvents (smA Wg)→EvG Wg i top e:=fun e he=>by
 simp[semEvents]at he
 rcases he with rfl|rfl|rfl|rfl
 ·exact evg_dis
 ·exact evg_cell hw _ rfl _
 ·exact evg_cell hw _ rfl _
 ·exact evg_en
theorem evg_two{top:Nat}(hw:Wg<top):∀e,e∈#[rd (stA Wg),wr (stA Wg)]→EvG Wg i top e:=fun e he=>by
 simp at he
 rcases he with rfl|rfl
 ·exact evg_cell hw _ rfl _
 ·exact evg_cell hw _ rfl _
end
section
variable {o:Bo} {gs gs':Array Goroutine} {W W1:World} {t u:Trace} {kn ow:Who→Nat→Prop} {snt rcv:Nat→Nat} {sc:Nat→List Cm} {pk:Nat→Bool} {n:Nat→Nat} {ρ:Nat→Rho} {Fin:Nat→Stand} {j:Nat} {stg fu df:Nat→Nat} {x r vs m d:Nat} {st sm:Int} {i:Nat} {sl:Option (Nat×Nat)} {g g1:Goroutine} {es:Array Event}
theorem Bo.In.up(hb:stg i≠8){s':Nat}(hs:s'≠8):o.In x j (upF stg i s')=o.In x j stg:=by
 funext k
 by_cases e:k=i
 ·subst e;simp[Bo.In,upF_self,hb,hs]
 ·simp[Bo.In,upF_ne _ e]
theorem norel_app(h:∀a k,t.act? k≠some (.mark (.release a)))(hn:∀e,e∈es→∀a,e.loc≠.mark (.release a))(i:Nat)(fn:FuncId)(pos:String)(a:Addr)(k:Nat):(t++MemOp.ofEvents i fn pos es).act? k≠some (.mark (.release a)):=fun q=>by
 rcases act_app q with q|⟨y,hy,q⟩
 ·exact h a k q
 ·obtain ⟨e,he,rfl⟩:=Conc.mem_ofEvents hy
  exact hn e he a (ConcR.loc_of_ofEvent q)
theorem Bo.Rest.book(K:o.Ok)(R:o.Rest gs W t kn ow sc j stg fu df)(T:Net o.M o.Out o.Sh W t kn ow o.chs o.cap snt rcv)(hwl:WgLive o.ty o.Wg W1)(B:Bk o.Wg i W W1 es)(fn:FuncId)(pos:String)(hsz:gs'.size=gs.size)(hgk:∀k,k≠i→gs'[k]?=(gs[k]?).map (Conc.woken o.E.P g g1 W1))(hi1:i=0∨(1≤i∧i<o.b0+j)){s' m' d':Nat}
  (hs:1≤i→(i<o.b0→s'=1)∧s'≠8∧stg i≠8∧gs'[i]?=some g1∧WS o.E.P o.ty o.Wg s' m' d' g1 W1∧Deaf (t++MemOp.ofEvents i fn pos es) i=d'∧(o.b0≤i→s'≠7→∃q,RelAt (stA o.Wg) (t++MemOp.ofEvents i fn pos es) kn ow i q∧ConcN.RelBy (stA o.Wg) (t++MemOp.ofEvents i fn pos es) i q)∧(i<o.b0→∀e,e∈es→(MemAct.ofEvent e).touch?=none)):
  o.Rest gs' W1 (t++MemOp.ofEvents i fn pos es) kn ow sc j (if i=0 then stg else upF stg i s') (if i=0 then fu else upF fu i m') (if i=0 then df else upF df i d'):=by
 have hrg:RG o.ty o.Wg W W1:=fun _=>hwl
 have hext:∀k,Ext (kn (.inl k)) W W1:=fun k=>⟨by rw[B.size];exact Nat.le_refl _,fun b q _=>B.keep b (fun e=>(T.apt.low _ b q).2 (e▸T.sh _ K.sh)),B.bare⟩
 have hoth:∀k,i≠k→Deaf (t++MemOp.ofEvents i fn pos es) k=Deaf t k:=fun k e=>Deaf_other t e _ (fun op hop=>by obtain ⟨e,_,rfl⟩:=Conc.mem_ofEvents hop;rfl)
 have htch:∀op∈MemOp.ofEvents i fn pos es,∀b,op.act.touch?=some b→blkOf b.loc=some o.Wg∧AtK op.g b:=fun op hop b hb=>by
  obtain ⟨e,he,rfl⟩:=Conc.mem_ofEvents hop
  exact (B.ev e he).1 b hb
 have hst:∀(f:Nat→Nat) (v k:Nat),k≠i→(if i=0 then f else upF f i v) k=f k:=fun f v k e=>by
  split
  ·rfl
  ·exact upF_ne _ e _
 have hsi:∀(f:Nat→Nat) (v:Nat),1≤i→(if i=0 then f else upF f i v) i=v:=fun f v e=>by rw[if_neg (by omega),upF_self]
 refine ⟨hsz.trans R.size,fun k h1 h2=>?_,fun k h1 h2 h8=>?_,fun k h1 h2 h8=>?_,fun k h1 h2 h8 h7=>?_,norel_app R.norel B.nr i fn pos,fun k hk=>(R.old k hk).app fun y hy a ha _=>(htch y hy a ha).2,fun k hk=>?_,fun b hb=>R.new b (by rw[←B.size];exact hb),R.hand.app (Nat.le_refl _) fun op hop=>?_,R.kp.same (T.sh _ K.sh) B.size B.bare B.keep fun x b q=>⟨x,q⟩⟩
 ·by_cases e:k=i
  ·subst e;rw[hsi _ _ h1];exact (hs h1).1 h2
  ·rw[hst _ _ _ e];exact R.lv k h1 h2
 ·by_cases e:k=i
  ·subst e
   simp only[hsi _ _ h1]
   exact ⟨g1,(hs h1).2.2.2.1,(hs h1).2.2.2.2.1,(hs h1).2.2.2.2.2.1⟩
  ·simp only[hst _ _ _ e]at h8 ⊢
   obtain ⟨y,q1,q2,q3⟩:=R.ws k h1 h2 h8
   have q2':=q2.rely hrg
   exact ⟨y,by rw[hgk k e,q1,Option.map_some,q2'.woken],q2',(hoth k (fun z=>e z.symm)).trans q3⟩
 ·have h8':stg k≠8:=by
   by_cases e:k=i
   ·subst e;exact (hs (by have:=K.b1;omega)).2.2.1
   ·rw[hst _ _ _ e]at h8;exact h8
  obtain ⟨q1,q2⟩:=R.res k h1 h2 h8'
  exact ⟨K.res _ _ _ _ _ q1 (hext k),q2⟩
 ·by_cases e:k=i
  ·subst e
   have hb:=K.b1
   rw[hsi _ _ (by omega)]at h7
   exact (hs (by omega)).2.2.2.2.2.2.1 h1 h7
  ·rw[hst _ _ _ e]at h8 h7
   obtain ⟨q,hq⟩:=R.rel k h1 h2 h8 h7
   exact ⟨q,hq.1.group T K.sh fun op hop b hb=>(htch op hop b hb).1,hq.2.appOther (fun op hop=>by obtain ⟨e,_,rfl⟩:=Conc.mem_ofEvents hop;rfl) (fun z=>e z.symm)⟩
 ·have hne:i≠k:=by have:=K.b1;omega
  exact ⟨(R.fresh k hk).1,(hoth k hne).trans (R.fresh k hk).2⟩
 ·obtain ⟨e,he,rfl⟩:=Conc.mem_ofEvents hop
  rcases hi1 with h0|⟨h1,h2⟩
  ·exact .inl h0
  ·rcases Nat.lt_or_ge i o.b0 with z|z
   ·exact .inr (.inl ((hs h1).2.2.2.2.2.2.2 z e he))
   ·exact .inr (.inr ⟨z,h2⟩)
theorem Bo.St.wbook(K:o.Ok)(S:o.St gs W t kn ow snt rcv sc pk n ρ Fin j stg fu df x r vs m d st sm)(h1:1≤i)(h2:i<o.b0+j)(h8:stg i≠8)(hg:gs[i]?=some g)(hs:stepG o.E.P false g W=.go g1 W1 es)(B:Bk o.Wg i W W1 es)(htc:i<o.b0→∀e,e∈es→(MemAct.ofEvent e).touch?=none){s' m' d':Nat}{st' sm':Int}
  (hlv:i<o.b0→s'=1) (hs8:s'≠8) (hws:WS o.E.P o.ty o.Wg s' m' d' g1 W1) (hdf:deafBehind (df i) es=d') (hrel:o.b0≤i→s'≠7→stg i=7→∃q,RelAt (stA o.Wg) (t++MemOp.ofEvents i g.frame.fn g.frame.place es) kn ow i q∧ConcN.RelBy (stA o.Wg) (t++MemOp.ofEvents i g.frame.fn g.frame.place es) i q) (hnc:∀(k:Nat) e,es[k]?=some e→(MemAct.ofEvent e).touch?=none∨((∃ad w,e=⟨.cell ad,w,true⟩)∧0<deafBehind (df i) (es.extract 0 k))) (hwg:WgAt o.ty o.Wg W1 st' sm')
  (hmode:∀x',(x'=x∨(x=11∧x'=12))→(mayWake o.E.P g=true→g1.status=.running→x'≠11)→ConcN.Mode j (o.D (upF stg i s')) (tagOf x' vs) st' sm') (hlt:s'<stg i∨(s'=stg i∧m'<fu i)):
  ∃gs' u x' m'',runT o.E.P (crowd gs W sl) i=(.next (crowd gs' W1 sl),u)∧o.St gs' W1 (t++u) kn ow snt rcv sc pk n ρ Fin j (upF stg i s') (upF fu i m') (upF df i d') x' r vs m'' d st' sm'∧o.Lt (o.mu sc pk n ρ j (upF stg i s') (upF fu i m') x' r vs m'') (o.mu sc pk n ρ j stg fu x r vs m):=by
 have hni:¬o.In x j stg i:=Bo.notIn h1 (fun _=>h8)
 have hi0:(i==0)=false:=by simp;omega
 have hout:=S.wgOut K
 obtain ⟨gs',hr,hsz,hgi,hgk,T'⟩:=S.talk.book (sl:=sl) K.fast (fun i _=>S.run i) K.sh hni hg (by rw[hi0];exact hs) (fun e he=>⟨fun a ha=>⟨((B.ev e he).1 a ha).1,((B.ev e he).1 a ha).2,by
  rcases Nat.lt_or_ge i o.b0 with q|q
  ·rw[htc q e he]at ha;cases ha
  ·exact S.rest.old i (.inr ⟨q,h2⟩)⟩,(B.ev e he).2⟩) B.size B.keep B.bare (fun c _ b=>hws.offers c b)
 have hrg:RG o.ty o.Wg W W1:=fun _=>⟨_,_,hwg⟩
 obtain ⟨x',m'',hm1,hm2,hm3⟩:=S.main.turn (gs':=gs') K T'.net.apt (fun _ _=>⟨rfl,rfl,by rw[B.size];exact Nat.le_refl _,fun b q _=>B.keep b (fun e=>(S.talk.net.apt.low _ b q).2 (e▸hout)),B.bare⟩) hrg g g1 (fun _ _=>.inr (hgk 0 (by omega)))
 have hx':x'=x∨(x=11∧x'=12):=hm2.imp (·.1) id
 have hR:=S.rest.book K S.talk.net ⟨_,_,hwg⟩ B g.frame.fn g.frame.place hsz hgk (.inr ⟨h1,h2⟩) (s':=s') (m':=m') (d':=d') (fun _=>⟨hlv,hs8,h8,hgi,hws,by
  rw[Deaf_own]
  obtain ⟨y,_,_,q⟩:=S.rest.ws i h1 h2 h8
  rw[q];exact hdf,fun q1 q2=>by
  by_cases e:stg i=7
  ·exact hrel q1 q2 e
  ·obtain ⟨q,hq⟩:=S.rest.rel i q1 h2 h8 e
   refine ⟨q,hq.1.group S.talk.net K.sh fun op hop b hb=>by obtain ⟨e,he,rfl⟩:=Conc.mem_ofEvents hop;exact ((B.ev e he).1 b hb).1,hq.2.appOwn _ _ es ?_⟩
   obtain ⟨y,_,_,z⟩:=S.rest.ws i h1 h2 h8
   rw[z];exact hnc,htc⟩)
 rw[if_neg (by omega),if_neg (by omega),if_neg (by omega)]at hR
 refine ⟨gs',_,x',m'',hr,⟨by rw[Bo.In.woke hx',Bo.In.up h8 hs8];exact T',S.run,S.finW,S.jr,hR,S.plan,fun q=>S.nil (by omega),?_,hm1,hwg,hmode x' hx' ?_⟩,?_⟩
 ·rw[Deaf_other t (show i≠0 by omega) _ (fun op hop=>by obtain ⟨e,_,rfl⟩:=Conc.mem_ofEvents hop;rfl)]
  exact S.deaf0
 ·by_cases q:x≠30∧x≠20
  ·exact hm3 q.1 q.2 (hgk 0 (by omega))
  ·intro _ _
   omega
 ·have hlt':LtK (o.wr sc pk n ρ j (upF stg i s') (upF fu i m') i) (o.wr sc pk n ρ j stg fu i):=by
   unfold Bo.wr
   rw[if_pos h2,if_pos h2,if_neg h8,upF_self,upF_self,if_neg hs8]
   rcases hlt with q|⟨q1,q2⟩
   ·exact .left _ _ q
   ·rw[q1];exact .right _ (.left _ _ q2)
  have hoth:∀k,k≠i→o.wr sc pk n ρ j (upF stg i s') (upF fu i m') k=o.wr sc pk n ρ j stg fu k:=fun k e=>by
   unfold Bo.wr
   rw[upF_ne _ e,upF_ne _ e]
  refine lex_low (fun k=>?_) (fun k hk=>hoth _ (by have:=S.jr;omega)) (.inr ⟨i - 1,?_⟩)
  ·by_cases e:k+1=i
   ·exact .inr (by rw[e];exact hlt')
   ·exact .inl (hoth _ e)
  ·show LtK (o.wr sc pk n ρ j (upF stg i s') (upF fu i m') (i - 1+1)) (o.wr sc pk n ρ j stg fu (i - 1+1))
   rw[show i - 1+1=i by omega]
   exact hlt'
end
end Go.Proofs.Ytniloklglpchfai
