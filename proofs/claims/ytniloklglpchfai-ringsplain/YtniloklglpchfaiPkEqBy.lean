/- Many that are started and waited for: nobody waits for ever; all come to the join. No program in sight. -/
import Derived.Test.YtniloklglpchfaiEqBx
namespace Go.Proofs.Ytniloklglpchfai
open Go Go.Conc
open Go.ConcN (CTag WD WgLive cnt Vc upd pend isOpen isW3 OpenSt AllQuit)
open Go.ConcR (KK WgAt stA smA rd wr DC0)
def Bo.Live (o:Bo):Prop:=∀(snt rcv:Nat→Nat) (sc:Nat→List Cm),(∀i,i=0∨o.Wk i→∃d,sc i=(o.full i).drop d)→(∀c,snt c+cmc true c (sc (o.wtr c))=cmc true c (o.full (o.wtr c)))→(∀c,rcv c+cmc false c (sc (o.rdr c))=cmc false c (o.full (o.rdr c)))→
 (∀c,c∈o.chs→rcv c≤snt c∧snt c≤rcv c+o.cap c)→(∀i,i=0∨o.Wk i→sc i=[]∨(∃c j l,sc i=(false,c,j)::l∧c∈o.chs∧rcv c=snt c)∨∃c j l,sc i=(true,c,j)::l∧c∈o.chs∧rcv c+o.cap c=snt c)→∀i,i=0∨o.Wk i→sc i=[]
section
variable {o:Bo} {gs gs':Array Goroutine} {W W1:World} {t u:Trace} {kn ow:Who→Nat→Prop} {snt rcv:Nat→Nat} {sc:Nat→List Cm} {pk:Nat→Bool} {n:Nat→Nat} {ρ:Nat→Rho} {Fin:Nat→Stand} {j:Nat} {stg fu df:Nat→Nat} {x r vs m d:Nat} {st sm:Int} {i:Nat} {sl:Option (Nat×Nat)} {g g1:Goroutine} {es:Array Event}
theorem Bo.St.talks(S:o.St gs W t kn ow snt rcv sc pk n ρ Fin j stg fu df x r vs m d st sm)(hi:o.In x j stg i):∃g,gs[i]?=some g∧((g.status=.running∧pk i=false)∨(g.status=.blocked∧((∃c j l,sc i=(false,c,j)::l∧c∈o.chs∧rcv c=snt c)∨∃c j l,sc i=(true,c,j)::l∧c∈o.chs∧rcv c+o.cap c=snt c))):=by
 obtain ⟨g,hg,hs⟩:=S.talk.sit i hi
 have ho:=S.talk.ord i hi
 rcases hs with ⟨q,h⟩|⟨q,c,k,l,g₂,z,f,h1,h2,_⟩|⟨q,c,k,l,g₂,v,z,h1,h2,_⟩
 ·exact ⟨g,hg,.inl ⟨h.running (Run.running (S.run i) _) (S.talk.klow _) (S.talk.net.apt.own _),q⟩⟩
 ·rw[h1]at ho
  exact ⟨g,hg,.inr ⟨by rw[h2];rfl,.inl ⟨c,k,l,h1,ho.1,S.talk.park i c k l hi q h1⟩⟩⟩
 ·rw[h1]at ho
  exact ⟨g,hg,.inr ⟨by rw[h2];rfl,.inr ⟨c,k,l,h1,ho.1,S.talk.full i c k l hi q h1⟩⟩⟩
theorem Bo.St.mainSit(S:o.St gs W t kn ow snt rcv sc pk n ρ Fin j stg fu df x r vs m d st sm):(x=30∨x=20)∨(x≠30∧x≠20∧∃g,gs[0]?=some g∧o.MS x r vs m d g W (kn (.inl 0)) (ow (.inl 0))):=by
 rcases S.main with h|h|h
 ·exact .inl (.inl h.1)
 ·exact .inl (.inr h.1)
 ·exact .inr h
theorem Bo.St.awake(K:o.Ok)(S:o.St gs W t kn ow snt rcv sc pk n ρ Fin j stg fu df x r vs m d st sm):∀g∈gs,Conc.awake g:=by
 intro g hg tm
 obtain ⟨i,hi⟩:=Array.mem_iff_getElem?.1 hg
 have hlt:i<o.b0+j:=by have:=lt_of_at hi;rw[S.rest.size]at this;exact this
 by_cases hin:o.In x j stg i
 ·obtain ⟨y,hy,hs⟩:=S.talks hin
  rw[hi]at hy
  obtain rfl:=Option.some.inj hy
  rcases hs with ⟨q,_⟩|⟨q,_⟩<;>rw[q]<;>simp
 ·by_cases h0:i=0
  ·subst h0
   rcases S.mainSit with q|⟨_,_,y,hy,hs⟩
   ·exact absurd (.inl ⟨rfl,q⟩) hin
   ·rw[hi]at hy
    obtain rfl:=Option.some.inj hy
    rcases hs.status K (S.talk.klow _) (S.talk.net.apt.own _) with ⟨q,_⟩|⟨q,_⟩<;>rw[q]<;>simp
  ·have h8:stg i≠8:=fun q=>by
    rcases Nat.lt_or_ge i o.b0 with z|z
    ·have:=S.rest.lv i (by omega) z;omega
    ·exact hin (.inr ⟨z,hlt,q⟩)
   obtain ⟨y,hy,hw,_⟩:=S.rest.ws i (by omega) hlt h8
   rw[hi]at hy
   obtain rfl:=Option.some.inj hy
   rcases hw.status with q|⟨q,_⟩<;>rw[q]<;>simp
theorem Bo.St.someone(K:o.Ok)(hL:o.Live)(S:o.St gs W t kn ow snt rcv sc pk n ρ Fin j stg fu df x r vs m d st sm):∃(i:Nat) (g:Goroutine),gs[i]?=some g∧g.status=.running:=by
 refine Classical.byContradiction fun hno=>?_
 have hno:∀(i:Nat) (g:Goroutine),gs[i]?=some g→g.status≠.running:=fun i g h1 h2=>hno ⟨i,g,h1,h2⟩
 have hb:=K.b1
 have hjr:=S.jr
 have hpark:∀i,o.In x j stg i→(∃c j l,sc i=(false,c,j)::l∧c∈o.chs∧rcv c=snt c)∨∃c j l,sc i=(true,c,j)::l∧c∈o.chs∧rcv c+o.cap c=snt c:=fun i hi=>by
  obtain ⟨g,hg,hs⟩:=S.talks hi
  rcases hs with ⟨q,_⟩|⟨_,q⟩
  ·exact absurd q (hno i g hg)
  ·exact q
 have hne:∀i,o.In x j stg i→sc i≠[]:=fun i hi q=>by
  rcases hpark i hi with ⟨c,k,l,z,_⟩|⟨c,k,l,z,_⟩<;>rw[q]at z<;>cases z
 have hmain:r=0∧(x=30∨(x=11∧sc 0=[])):=by
  rcases S.mainSit with q|⟨h1,h2,g,hg,hs⟩
  ·have h0:o.In x j stg 0:=.inl ⟨rfl,q⟩
   have hn:=hne 0 h0
   refine ⟨Classical.byContradiction fun hr=>hn (S.plan.ord0 hr).2,.inl ?_⟩
   rcases q with q|q
   ·exact q
   ·exact absurd (S.nil (by omega)) hn
  ·rcases hs.status K (S.talk.klow _) (S.talk.net.apt.own _) with ⟨q,_⟩|⟨_,_,q⟩
   ·exact absurd q (hno 0 g hg)
   ·subst q
    exact ⟨hs.2.1,.inr ⟨rfl,S.nil (by omega)⟩⟩
 obtain ⟨rfl,hx⟩:=hmain
 have hj:j=o.nk:=by omega
 subst hj
 have hv:∀k,o.vsc 0 sc k=sc k:=fun k=>by simp[Bo.vsc]
 have hwk:∀i,o.Wk i→(stg i=8∧o.In x o.nk stg i)∨(stg i=1∧sc i=[]):=fun i hi=>by
  by_cases h8:stg i=8
  ·exact .inl ⟨h8,.inr ⟨hi.1,hi.2,h8⟩⟩
  ·obtain ⟨y,hy,hw,_⟩:=S.rest.ws i (by have:=hi.1;omega) hi.2 h8
   rcases hw.status with q|⟨_,q⟩
   ·exact absurd q (hno i y hy)
   ·exact .inr ⟨q,(S.rest.res i hi.1 hi.2 h8).2⟩
 have hall:=hL snt rcv sc (fun i _=>by have:=S.plan.suf i;rw[hv]at this;exact this) (fun c=>by have:=S.plan.tsn c;rw[hv]at this;exact this) (fun c=>by have:=S.plan.trc c;rw[hv]at this;exact this) (fun c hc=>by
   obtain ⟨buf,_,q⟩:=S.talk.chan hc
   exact ⟨by omega,S.talk.fit c hc⟩) (fun i hi=>by
   rcases hi with rfl|hi
   ·rcases hx with q|⟨_,q⟩
    ·exact .inr (hpark 0 (.inl ⟨rfl,.inl q⟩))
    ·exact .inl q
   ·rcases hwk i hi with ⟨_,q⟩|⟨_,q⟩
    ·exact .inr (hpark i q)
    ·exact .inl q)
 rcases hx with q|⟨q,_⟩
 ·exact hne 0 (.inl ⟨rfl,.inl q⟩) (hall 0 (.inl rfl))
 ·subst q
  have hone:∀k,k<o.nk→(o.D stg k).stage=1:=fun k hk=>by
   have hi:o.Wk (o.b0+k):=⟨by omega,by omega⟩
   rcases hwk _ hi with ⟨_,q⟩|⟨q,_⟩
   ·exact absurd (hall _ (.inr hi)) (hne _ q)
   ·rw[D_stage,q];rfl
  have hm:=S.mode
  generalize htag:tagOf 11 vs=tag at hm
  have ht:tag=.blk:=htag.symm
  cases hm with
  |opn q1 _ _=>subst ht;exact q1
  |reg _ _ q3=>
   obtain ⟨k,hk,h5⟩:=ConcN.exists_counted q3
   have:=hone k hk
   omega
  |last L _ q2 q3 _=>have:=hone L q2;omega
  |sema _=>cases ht
  |fin q1 _=>subst ht;exact q1
theorem rg_at(ty:TypeId)(Wg:Nat)(W:World)(d:Nat):RG ty Wg W (W.at d):=fun ⟨a,b,h⟩=>⟨a,b,h⟩
theorem Bo.St.at(K:o.Ok)(S:o.St gs W t kn ow snt rcv sc pk n ρ Fin j stg fu df x r vs m d st sm)(e:Nat):o.St gs (W.at e) t kn ow snt rcv sc pk n ρ Fin j stg fu df x r vs m d st sm:=
 ⟨S.talk.at K.fast e,S.run,S.finW,S.jr,⟨S.rest.size,S.rest.lv,fun i h1 h2 h8=>(S.rest.ws i h1 h2 h8).imp fun _ q=>⟨q.1,q.2.1.rely (rg_at _ _ W e),q.2.2⟩,fun i h1 h2 h8=>⟨K.res _ _ _ _ _ (S.rest.res i h1 h2 h8).1 (ext_at _ W e),(S.rest.res i h1 h2 h8).2⟩,S.rest.rel,S.rest.norel,S.rest.old,S.rest.fresh,S.rest.new,S.rest.hand,S.rest.kp.at e⟩,S.plan,S.nil,S.deaf0,
  S.main.imp id fun q=>q.imp id fun ⟨h1,h2,g,h3,h4⟩=>⟨h1,h2,g,h3,h4.rely K (rg_at _ _ W e) (ext_at _ W e)⟩,S.wg,S.mode⟩
theorem Bo.St.moves(K:o.Ok)(S:o.St gs W t kn ow snt rcv sc pk n ρ Fin j stg fu df x r vs m d st sm)(hg:gs[i]?=some g)(hrun:g.status=.running):o.Next gs W t sl i (o.mu sc pk n ρ j stg fu x r vs m):=by
 have hb:=K.b1
 have hlt:i<o.b0+j:=by have:=lt_of_at hg;rw[S.rest.size]at this;exact this
 by_cases hin:o.In x j stg i
 ·have hpk:pk i=false:=by
   obtain ⟨y,hy,hs⟩:=S.talks hin
   rw[hg]at hy
   obtain rfl:=Option.some.inj hy
   rcases hs with ⟨_,q⟩|⟨q,_⟩
   ·exact q
   ·rw[hrun]at q;cases q
  by_cases h20:x=20∧i=0
  ·obtain ⟨rfl,rfl⟩:=h20
   exact S.step20 (sl:=sl) K hg
  ·rcases S.talk.step (sl:=sl) K.fast S.run S.rest.new hin hpk hg with ⟨hsc,hfin⟩|⟨gs',W',u,kn',ow',snt',rcv',sc',pk',n',ρ',a1,a2,a3⟩
   ·have hF:=hfin W (Ext.refl _ _)
    by_cases h0:i=0
    ·subst h0
     have hx:x=30:=by
      rcases hin with ⟨_,q|q⟩|⟨q,_⟩
      ·exact q
      ·exact absurd ⟨q,rfl⟩ h20
      ·omega
     subst hx
     rcases S.main with ⟨_,rfl,hE⟩|⟨q,_⟩|⟨q,_⟩
     ·rw[hE]at hF
      cases r with
      |zero=>
       obtain ⟨_,bk,hgo,hres⟩:o.WaitAt g W (kn (.inl 0)) (ow (.inl 0)):=hF
       obtain ⟨m₂,hk2⟩:=hgo ⟨_,_,S.wg⟩
       obtain ⟨S',hl⟩:=S.quiet K (x':=18) (m':=m₂) hsc hpk hg (by omega) (by omega) ⟨rfl,rfl,bk,hk2,hres⟩ rfl (by
        unfold Bo.mr
        rw[if_pos rfl]
        exact .left _ _ (by simp[mx];omega))
       exact (S'.stepM (sl:=sl) K (by omega) (by omega) hg hrun).le hl
      |succ r'=>
       obtain ⟨_,hgo⟩:o.AddAt (o.GoAt (o.b0+o.nk - (r'+1)) (o.nextF r') (o.nextL r')) g W (kn (.inl 0)) (ow (.inl 0)):=hF
       obtain ⟨bk,m₂,hk2,hp⟩:=hgo ⟨_,_,S.wg⟩
       obtain ⟨S',hl⟩:=S.quiet K (x':=28) (m':=m₂) hsc hpk hg (by omega) (by omega) ⟨rfl,bk,r',rfl,hk2,hp⟩ rfl (by
        unfold Bo.mr
        rw[if_pos rfl]
        exact .left _ _ (by simp[mx];omega))
       exact (S'.stepM (sl:=sl) K (by omega) (by omega) hg hrun).le hl
     ·omega
     ·exact absurd rfl q
    ·rcases hin with ⟨q,_⟩|⟨q1,q2,q3⟩
     ·exact absurd q h0
     ·rw[S.finW i q1]at hF
      obtain ⟨m',S',hl⟩:=S.ends K q1 q2 q3 hsc hpk hg hF
      obtain ⟨gs',W1,u,stg',fu',df',x',m'',st',sm',a1,a2,a3⟩:=S'.wstep (sl:=sl) K (by omega) hlt (by rw[upF_self];omega) hg hrun
      exact ⟨gs',W1,u,_,a1,.tail (.single a3) hl,.inl ⟨_,_,_,_,_,_,_,_,_,_,_,_,_,_,_,_,_,_,_,_,a2,rfl⟩⟩
   ·obtain ⟨x',m',b1,b2⟩:=S.turn K hin a2 a3
    exact ⟨gs',W',u,_,a1,.single b2,.inl ⟨_,_,_,_,_,_,_,_,_,_,_,_,_,_,_,_,_,_,_,_,b1,rfl⟩⟩
 ·by_cases h0:i=0
  ·subst h0
   rcases S.mainSit with q|⟨q1,q2,_⟩
   ·exact absurd (.inl ⟨rfl,q⟩) hin
   ·exact S.stepM (sl:=sl) K q1 q2 hg hrun
  ·have h8:stg i≠8:=fun q=>by
    rcases Nat.lt_or_ge i o.b0 with z|z
    ·have:=S.rest.lv i (by omega) z;omega
    ·exact hin (.inr ⟨z,hlt,q⟩)
   obtain ⟨gs',W1,u,stg',fu',df',x',m'',st',sm',a1,a2,a3⟩:=S.wstep (sl:=sl) K (by omega) hlt h8 hg hrun
   exact ⟨gs',W1,u,_,a1,.single a3,.inl ⟨_,_,_,_,_,_,_,_,_,_,_,_,_,_,_,_,_,_,_,_,a2,rfl⟩⟩
end
open Go.ConcN (CTag WD WgLive cnt Vc upd pend isOpen isW3 OpenSt AllQuit)
open Go.ConcR (KK WgAt stA smA rd wr DC0)
section
variable {o:Bo} {gs gs':Array Goroutine} {W W1:World} {t u:Trace} {stg fu df:Nat→Nat} {m:Nat} {i:Nat} {sl:Option (Nat×Nat)} {g g1 bk:Goroutine} {es:Array Event}
theorem Bo.Jn.at(K:o.Ok)(J:o.Jn gs W t stg fu df m bk)(e:Nat):o.Jn gs (W.at e) t stg fu df m bk:=by
 obtain ⟨kn,ow,snt,rcv,h1,h2,h3,h4,h5⟩:=J.net
 refine ⟨J.size,J.main.imp fun _ q=>⟨q.1,q.2.1,Goes.rely rg_trans q.2.2 (rg_at _ _ W e)⟩,J.deaf0,J.st1,J.lv,J.wg,⟨kn,ow,snt,rcv,h1.at K.fast e,K.res0 _ _ _ _ _ h2 (ext_at _ W e),fun i hi=>K.res _ _ _ _ _ (h3 i hi) (ext_at _ W e),h4,h5.at e⟩,J.fresh,J.new,J.hand,J.norel⟩
theorem Bo.Jn.awake(J:o.Jn gs W t stg fu df m bk):∀g∈gs,Conc.awake g:=by
 intro g hg tm
 obtain ⟨i,hi⟩:=Array.mem_iff_getElem?.1 hg
 have hlt:i<o.b0+o.nk:=by have:=lt_of_at hi;rw[J.size]at this;exact this
 by_cases h0:i=0
 ·subst h0
  obtain ⟨y,hy,hr,_⟩:=J.main
  rw[hi]at hy
  obtain rfl:=Option.some.inj hy
  rw[hr];simp
 ·obtain ⟨y,hy,hq,_⟩:=J.lv i (by omega) hlt
  rw[hi]at hy
  obtain rfl:=Option.some.inj hy
  rcases hq.status with q|q<;>rw[q]<;>simp
theorem Bo.Jn.moves(K:o.Ok)(J:o.Jn gs W t stg fu df m bk)(hg:gs[i]?=some g)(hrun:g.status=.running)(sc:Nat→List Cm)(pk:Nat→Bool)(n:Nat→Nat)(ρ:Nat→Rho)(vs:Nat):(i=0∧g=bk)∨o.Next gs W t sl i (o.mu sc pk n ρ o.nk stg fu 7 0 vs m):=by
 have hb:=K.b1
 have hlt:i<o.b0+o.nk:=by have:=lt_of_at hg;rw[J.size]at this;exact this
 obtain ⟨kn,ow,snt,rcv,h1,h2,h3,h4,h5⟩:=J.net
 have hmute:∀(a:Nat) (fn:FuncId) (pos:String) (es:Array Event),(∀e,e∈es→e.mute=true)→(∀op∈MemOp.ofEvents a fn pos es,op.act.touch?=none)∧(∀op∈MemOp.ofEvents a fn pos es,op.act.low W.heap.size)∧∀b k,(t++MemOp.ofEvents a fn pos es).act? k≠some (.mark (.release b)):=fun a fn pos es he=>
  ⟨fun op hop=>by obtain ⟨e,q,rfl⟩:=Conc.mem_ofEvents hop;exact mute_touch (he e q),fun op hop=>by obtain ⟨e,q,rfl⟩:=Conc.mem_ofEvents hop;exact (mute_evg (i:=0) (Wg:=0) (he e q)).1.2,norel_app J.norel (fun e q=>(mute_evg (i:=0) (Wg:=0) (top:=0) (he e q)).2) a fn pos⟩
 have hoth:∀(a k:Nat) (fn:FuncId) (pos:String) (es:Array Event),a≠k→Deaf (t++MemOp.ofEvents a fn pos es) k=Deaf t k:=fun a k fn pos es e=>Deaf_other t e _ (fun op hop=>by obtain ⟨_,_,rfl⟩:=Conc.mem_ofEvents hop;rfl)
 obtain ⟨y,hy,hyr,hgo⟩:=J.main
 by_cases h0:i=0
 ·subst h0
  rw[hg]at hy
  obtain rfl:=Option.some.inj hy
  rcases Goes.cases hgo with hstop|⟨m',hm,hstep⟩
  ·exact .inl ⟨rfl,hstop W (rg_refl W)⟩
  ·right
   obtain ⟨g',w',es,hs,⟨rfl,rfl⟩,hg'⟩:=hstep W (rg_refl W)
   obtain ⟨gs',hr,hsz,hgi,hgk⟩:=turn_own (sl:=sl) hg hs
   have hM:=hmute 0 g.frame.fn g.frame.place #[] (fun e he=>by simp at he)
   refine ⟨gs',w',_,_,hr,.single ?_,.inr ⟨sc,pk,n,ρ,stg,fu,df,m',vs,bk,⟨hsz.trans J.size,⟨g',hgi,Goes.running (fun y _ (q:y=bk)=>by rw[q];exact K.backr _ _ _ _ h2) w' (rg_refl w') hg',hg'⟩,by rw[Deaf_own];exact J.deaf0,J.st1,fun k q1 q2=>?_,J.wg,⟨kn,ow,snt,rcv,h1.still K.fast hM.1 hM.2.1 rfl rfl,h2,h3,h4,h5⟩,fun k hk=>by rw[hoth 0 k _ _ _ (by omega)];exact J.fresh k hk,J.new,handedOver_app J.hand fun op hop=>.inr (hM.1 op hop),hM.2.2⟩,rfl⟩⟩
   ·exact lex_low (fun k=>.inl rfl) (fun _ _=>rfl) (.inl (.right _ (.left _ _ (by omega))))
   ·obtain ⟨z,z1,z2,z3⟩:=J.lv k q1 q2
    exact ⟨z,by rw[hgk k (by omega),z1,Option.map_some,woken_quitsD z2],z2,by rw[hoth 0 k _ _ _ (by omega)];exact z3⟩
 ·right
  obtain ⟨z,z1,z2,z3⟩:=J.lv i (by omega) hlt
  rw[hg]at z1
  obtain rfl:=Option.some.inj z1
  cases hq:fu i with
  |zero=>rw[hq]at z2;rw[z2.1]at hrun;cases hrun
  |succ q=>
   rw[hq]at z2
   rcases z2 with ⟨hf,_⟩|⟨_,g',es,hes,hstep,hq'⟩
   ·rw[hf]at hrun;cases hrun
   ·have hi0:(i==0)=false:=by simp;omega
    obtain ⟨gs',hr,hsz,hgi,hgk⟩:=turn_own (sl:=sl) hg (by rw[hi0];exact hstep W)
    have hM:=hmute i g.frame.fn g.frame.place es hes
    have hst1:=J.st1 i (by omega) hlt
    refine ⟨gs',W,_,_,hr,.single ?_,.inr ⟨sc,pk,n,ρ,stg,upF fu i q,upF df i (deafBehind (df i) es),m,vs,bk,⟨hsz.trans J.size,⟨y,by rw[hgk 0 (by omega),hy,Option.map_some,woken_run hyr],hyr,hgo⟩,by rw[hoth i 0 _ _ _ (by omega)];exact J.deaf0,J.st1,fun k q1 q2=>?_,J.wg,⟨kn,ow,snt,rcv,h1.still K.fast hM.1 hM.2.1 rfl rfl,h2,h3,h4,h5⟩,fun k hk=>by rw[hoth i k _ _ _ (by omega)];exact J.fresh k hk,J.new,handedOver_app J.hand fun op hop=>.inr (hM.1 op hop),hM.2.2⟩,rfl⟩⟩
    ·have hoth':∀k,k≠i→o.wr sc pk n ρ o.nk stg (upF fu i q) k=o.wr sc pk n ρ o.nk stg fu k:=fun k e=>by
      unfold Bo.wr
      rw[upF_ne _ e]
     have hlt':LtK (o.wr sc pk n ρ o.nk stg (upF fu i q) i) (o.wr sc pk n ρ o.nk stg fu i):=by
      unfold Bo.wr
      rw[if_pos hlt,if_neg (by omega),if_pos hlt,if_neg (by omega),upF_self,hq]
      exact .right _ (.left _ _ (by omega))
     refine lex_low (fun k=>?_) (fun k hk=>hoth' _ (by omega)) (.inr ⟨i - 1,?_⟩)
     ·by_cases e:k+1=i
      ·exact .inr (by rw[e];exact hlt')
      ·exact .inl (hoth' _ e)
     ·show LtK (o.wr sc pk n ρ o.nk stg (upF fu i q) (i - 1+1)) (o.wr sc pk n ρ o.nk stg fu (i - 1+1))
      rw[show i - 1+1=i by omega]
      exact hlt'
    ·by_cases e:k=i
     ·subst e
      rw[upF_self,upF_self]
      exact ⟨g',hgi,hq',by rw[Deaf_own,z3]⟩
     ·rw[upF_ne _ e,upF_ne _ e]
      obtain ⟨z,z1,z2,z3⟩:=J.lv k q1 q2
      exact ⟨z,by rw[hgk k e,z1,Option.map_some,woken_quitsD z2],z2,by rw[hoth i k _ _ _ (fun z=>e z.symm)];exact z3⟩
theorem Bo.reach(K:o.Ok)(hL:o.Live)(μ:Mu):∀(gs:Array Goroutine) (W:World) (sl:Option (Nat×Nat)) (t:Trace),o.Inv gs W t μ→∃N gs' W' sl' t' stg fu df m bk,runNT o.E.P N (crowd gs W sl) t=(.next (crowd gs' W' sl'),t')∧o.Jn gs' W' t' stg fu df m bk∧gs'[0]?=some bk:=by
 induction μ using (WellFounded.transGen o.lt_wf).induction with
 |_ μ ih=>
  intro gs W sl t h
  have key:∀i (g:Goroutine) d sl',stepT o.E.P (crowd gs W sl)=runT o.E.P (crowd gs (W.at d) sl') i→o.Next gs (W.at d) t sl' i μ→∃N gs' W' sl' t' stg fu df m bk,runNT o.E.P N (crowd gs W sl) t=(.next (crowd gs' W' sl'),t')∧o.Jn gs' W' t' stg fu df m bk∧gs'[0]?=some bk:=by
   intro i g d sl' hs hn
   obtain ⟨gs',W',u,μ',a1,a2,a3⟩:=hn
   obtain ⟨N,gs2,W2,sl2,t2,stg,fu,df,m,bk,b1,b2,b3⟩:=ih μ' a2 gs' W' sl' (t++u) a3
   exact ⟨N+1,gs2,W2,sl2,t2,stg,fu,df,m,bk,by rw[runNT_succ_next (hs.trans a1)];exact b1,b2,b3⟩
  rcases h with ⟨kn,ow,snt,rcv,sc,pk,n,ρ,Fin,j,stg,fu,df,x,r,vs,m,d,st,sm,S,rfl⟩|⟨sc,pk,n,ρ,stg,fu,df,m,vs,bk,J,rfl⟩
  ·obtain ⟨i,g,e,sl',hg,hrun,hs⟩:=crowd_pick (P:=o.E.P) (w:=W) (sl:=sl) (S.awake K) (S.someone K hL)
   exact key i g e sl' hs ((S.at K e).moves (sl:=sl') K hg hrun)
  ·obtain ⟨y,hy,hyr,hgo⟩:=J.main
   by_cases hyb:y=bk
   ·exact ⟨0,gs,W,sl,t,stg,fu,df,m,bk,rfl,J,by rw[hy,hyb]⟩
   ·obtain ⟨i,g,e,sl',hg,hrun,hs⟩:=crowd_pick (P:=o.E.P) (w:=W) (sl:=sl) J.awake ⟨0,y,hy,hyr⟩
    rcases (J.at K e).moves (sl:=sl') K hg hrun sc pk n ρ vs with ⟨rfl,q⟩|q
    ·rw[hg]at hy
     obtain rfl:=Option.some.inj hy
     exact absurd q hyb
    ·exact key i g e sl' hs q
end
end Go.Proofs.Ytniloklglpchfai
