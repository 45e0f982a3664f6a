/- Many that are started and waited for: each step of the one that starts them and waits. No program in sight. -/
import Derived.Test.YtniloklglpchfaiEqBt
namespace Go.Proofs.Ytniloklglpchfai
open Go Go.Conc
open Go.ConcN (CTag WD WgLive cnt Vc upd pend isOpen isW3 OpenSt AllQuit)
open Go.ConcR (KK WgAt stA smA rd wr DC0)
section
variable {o:Bo} {gs gs':Array Goroutine} {W W1:World} {t u:Trace} {kn ow:Who→Nat→Prop} {snt rcv:Nat→Nat} {sc:Nat→List Cm} {pk:Nat→Bool} {n:Nat→Nat} {ρ:Nat→Rho} {Fin:Nat→Stand} {j:Nat} {stg fu df:Nat→Nat} {x r vs m d:Nat} {st sm:Int} {i:Nat} {sl:Option (Nat×Nat)} {g g1:Goroutine} {es:Array Event}
theorem Bo.In.off{x x':Nat}(h1:x≠30)(h2:x≠20)(h3:x'≠30)(h4:x'≠20):o.In x' j stg=o.In x j stg:=by
 funext i
 simp[Bo.In,h1,h2,h3,h4]
theorem Bo.St.mbook(K:o.Ok)(S:o.St gs W t kn ow snt rcv sc pk n ρ Fin j stg fu df x r vs m d st sm)(h1:x≠30)(h2:x≠20)(hg:gs[0]?=some g)(hs:stepG o.E.P true g W=.go g1 W1 es)(B:Bk o.Wg 0 W W1 es){x' vs' m' d':Nat}{st' sm':Int}
  (h3:x'≠30) (h4:x'≠20) (hms:o.MS x' r vs' m' d' g1 W1 (kn (.inl 0)) (ow (.inl 0))) (hd:deafBehind d es=d') (hwg:WgAt o.ty o.Wg W1 st' sm') (hmode:ConcN.Mode j (o.D stg) (tagOf x' vs') st' sm')
  (hlt:LtK (mx (40+(2*o.sc0.length+40)*r) x' vs' (Vc j (o.D stg)),m',zr) (mx (40+(2*o.sc0.length+40)*r) x vs (Vc j (o.D stg)),m,zr)):
  ∃gs' u,runT o.E.P (crowd gs W sl) 0=(.next (crowd gs' W1 sl),u)∧o.St gs' W1 (t++u) kn ow snt rcv sc pk n ρ Fin j stg fu df x' r vs' m' d' st' sm'∧o.Lt (o.mu sc pk n ρ j stg fu x' r vs' m') (o.mu sc pk n ρ j stg fu x r vs m):=by
 have hb:=K.b1
 have hni:¬o.In x j stg 0:=fun q=>by rcases q with ⟨_,q⟩|⟨q,_⟩<;>omega
 have hout:=S.wgOut K
 have hk:∀B,kn (.inl 0) B→B<W1.heap.size:=fun b q=>by rw[B.size];exact S.talk.klow _ b q
 obtain ⟨gs',hr,hsz,hgi,hgk,T'⟩:=S.talk.book (sl:=sl) K.fast (fun i _=>S.run i) K.sh hni hg hs (fun e he=>⟨fun a ha=>⟨((B.ev e he).1 a ha).1,((B.ev e he).1 a ha).2,S.rest.old 0 (.inl rfl)⟩,(B.ev e he).2⟩) B.size B.keep B.bare (fun c _ b=>hms.offers K hk (S.talk.net.apt.own _) c b)
 have hR:=S.rest.book K S.talk.net ⟨_,_,hwg⟩ B g.frame.fn g.frame.place hsz hgk (.inl rfl) (s':=0) (m':=0) (d':=0) (fun q=>by omega)
 rw[if_pos rfl,if_pos rfl,if_pos rfl]at hR
 refine ⟨gs',_,hr,⟨by rw[Bo.In.off h1 h2 h3 h4];exact T',S.run,S.finW,S.jr,hR,S.plan,fun _=>S.nil h1,?_,.inr (.inr ⟨h3,h4,g1,hgi,hms⟩),hwg,hmode⟩,?_⟩
 ·rw[Deaf_own,S.deaf0];exact hd
 ·refine lex_low (fun k=>.inl rfl) (fun _ _=>rfl) (.inl ?_)
  show LtK (o.mr _ x' r vs' m' _) (o.mr _ x r vs m _)
  unfold Bo.mr
  rw[if_neg h3,if_neg h4,if_neg h1,if_neg h2]
  exact hlt
theorem inP_off(hb:1≤o.b0){x x':Nat}(h3:x'≠30)(h4:x'≠20):inP (o.In x j stg) 0 False=o.In x' j stg:=by
 funext k
 by_cases e:k=0
 ·subst e
  simp only[inP,Bo.In,h3,h4]
  simp
  omega
 ·simp[inP,Bo.In,e]
theorem inP_on{x x':Nat}(hx:x'=30∨x'=20)(b:Prop)(hbt:b):inP (o.In x j stg) 0 b=o.In x' j stg:=by
 funext k
 by_cases e:k=0
 ·subst e
  simp only[inP,Bo.In,hx,hbt]
  simp
 ·simp[inP,Bo.In,e]
theorem upF_id{α:Type}(f:Nat→α)(i:Nat){v:α}(h:v=f i):upF f i v=f:=by
 funext k
 by_cases e:k=i
 ·subst e;rw[upF_self,h]
 ·rw[upF_ne _ e]
theorem Bo.St.quiet(K:o.Ok)(S:o.St gs W t kn ow snt rcv sc pk n ρ Fin j stg fu df x r vs m d st sm)(hsc:sc 0=[])(hpk:pk 0=false)(hg:gs[0]?=some g){x' m':Nat}(h3:x'≠30)(h4:x'≠20)(hms:o.MS x' r vs m' d g W (kn (.inl 0)) (ow (.inl 0)))(hmode:tagOf x' vs=tagOf x vs)(hlt:LtK (mx (40+(2*o.sc0.length+40)*r) x' vs (Vc j (o.D stg)),m',zr) (o.mr (rkOf sc pk n ρ 0) x r vs m (Vc j (o.D stg)))):
  o.St gs W t kn ow snt rcv sc pk n ρ Fin j stg fu df x' r vs m' d st sm∧o.Lt (o.mu sc pk n ρ j stg fu x' r vs m') (o.mu sc pk n ρ j stg fu x r vs m):=by
 have hT:=S.talk.set 0 False (Fin 0) [] (n 0) (ρ 0) (fun q=>q.elim) (fun _ y hy c _ b=>by
  rw[hg]at hy
  obtain rfl:=Option.some.inj hy
  exact hms.offers K (S.talk.klow _) (S.talk.net.apt.own _) c b)
 rw[inP_off K.b1 h3 h4,upF_id Fin 0 rfl,upF_id sc 0 hsc.symm,upF_id pk 0 hpk.symm,upF_id n 0 rfl,upF_id ρ 0 rfl]at hT
 refine ⟨⟨hT,S.run,S.finW,S.jr,S.rest,S.plan,fun _=>hsc,S.deaf0,.inr (.inr ⟨h3,h4,g,hg,hms⟩),S.wg,by rw[hmode];exact S.mode⟩,lex_low (fun k=>.inl rfl) (fun _ _=>rfl) (.inl ?_)⟩
 show LtK (o.mr _ x' r vs m' _) (o.mr _ x r vs m _)
 rw[show o.mr (rkOf sc pk n ρ 0) x' r vs m' (Vc j (o.D stg))=(mx (40+(2*o.sc0.length+40)*r) x' vs (Vc j (o.D stg)),m',zr) by unfold Bo.mr;rw[if_neg h3,if_neg h4]]
 exact hlt
theorem Bo.St.ends(K:o.Ok)(S:o.St gs W t kn ow snt rcv sc pk n ρ Fin j stg fu df x r vs m d st sm)(h1:o.b0≤i)(h2:i<o.b0+j)(h8:stg i=8)(hsc:sc i=[])(hpk:pk i=false)(hg:gs[i]?=some g)(hF:o.FinW i g W (kn (.inl i)) (ow (.inl i))):
  ∃m',o.St gs W t kn ow snt rcv sc pk n ρ Fin j (upF stg i 7) (upF fu i m') (upF df i 0) x r vs m d st sm∧o.Lt (o.mu sc pk n ρ j (upF stg i 7) (upF fu i m') x r vs m) (o.mu sc pk n ρ j stg fu x r vs m):=by
 have hb:=K.b1
 obtain ⟨hrun,hgo,hres⟩:=hF
 obtain ⟨m',hm'⟩:=hgo ⟨_,_,S.wg⟩
 have hin:o.In x j stg i:=.inr ⟨h1,h2,h8⟩
 have hT:=S.talk.set i False (Fin i) [] (n i) (ρ i) (fun q=>q.elim) (fun _ y hy c _ b=>by
  rw[hg]at hy
  obtain rfl:=Option.some.inj hy
  exact offersAt_of_not_blocked (by rw[hrun];simp) c b)
 have hIn:inP (o.In x j stg) i False=o.In x j (upF stg i 7):=by
  funext k
  by_cases e:k=i
  ·subst e
   simp only[inP,Bo.In,upF_self]
   simp
   omega
  ·simp[inP,Bo.In,e,upF_ne _ e]
 rw[hIn,upF_id Fin i rfl,upF_id sc i hsc.symm,upF_id pk i hpk.symm,upF_id n i rfl,upF_id ρ i rfl]at hT
 have hD:o.D (upF stg i 7)=o.D stg:=by
  funext a
  by_cases e:o.b0+a=i
  ·simp[Bo.D,e,upF_self,h8]
  ·simp[Bo.D,upF_ne _ e]
 refine ⟨m',⟨hT,S.run,S.finW,S.jr,⟨S.rest.size,fun k q1 q2=>?_,fun k q1 q2 q8=>?_,fun k q1 q2 q8=>?_,fun k q1 q2 q8 q7=>?_,S.rest.norel,S.rest.old,S.rest.fresh,S.rest.new,S.rest.hand,S.rest.kp⟩,S.plan,S.nil,S.deaf0,S.main,S.wg,by rw[hD];exact S.mode⟩,?_⟩
 ·rw[upF_ne _ (show k≠i by omega)]
  exact S.rest.lv k q1 q2
 ·by_cases e:k=i
  ·subst e
   simp only[upF_self]
   exact ⟨g,hg,⟨rfl,hm'⟩,S.talk.deaf k hin⟩
  ·simp only[upF_ne _ e]at q8 ⊢
   exact S.rest.ws k q1 q2 q8
 ·by_cases e:k=i
  ·subst e
   exact ⟨hres,hsc⟩
  ·rw[upF_ne _ e]at q8
   exact S.rest.res k q1 q2 q8
 ·have e:k≠i:=fun e=>by subst e;rw[upF_self]at q7;exact q7 rfl
  rw[upF_ne _ e]at q8 q7
  exact S.rest.rel k q1 q2 q8 q7
 ·have hoth:∀k,k≠i→o.wr sc pk n ρ j (upF stg i 7) (upF fu i m') k=o.wr sc pk n ρ j stg fu k:=fun k e=>by
   unfold Bo.wr
   rw[upF_ne _ e,upF_ne _ e]
  have hlt':LtK (o.wr sc pk n ρ j (upF stg i 7) (upF fu i m') i) (o.wr sc pk n ρ j stg fu i):=by
   unfold Bo.wr
   rw[if_pos h2,if_pos h2,if_pos h8,upF_self,upF_self,if_neg (show ¬(7:Nat)=8 by omega)]
   exact .left _ _ (by omega)
  refine lex_low (fun k=>?_) (fun k hk=>hoth _ (by have:=S.jr;omega)) (.inr ⟨i - 1,?_⟩)
  ·by_cases e:k+1=i
   ·exact .inr (by rw[e];exact hlt')
   ·exact .inl (hoth _ e)
  ·show LtK (o.wr sc pk n ρ j (upF stg i 7) (upF fu i m') (i - 1+1)) (o.wr sc pk n ρ j stg fu (i - 1+1))
   rw[show i - 1+1=i by omega]
   exact hlt'
theorem Bo.St.goesOn(K:o.Ok)(S:o.St gs W t kn ow snt rcv sc pk n ρ Fin j stg fu df 21 r vs m 0 st sm){r':Nat}(hr:r=r'+1)(hg:gs[0]?=some g)(hp:o.Prom r' g W (kn (.inl 0)) (ow (.inl 0))):
  ∃n1 ρ1,o.St gs W t kn ow snt rcv sc (upF pk 0 false) (upF n 0 n1) (upF ρ 0 ρ1) (upF Fin 0 (o.GoAt (o.b0+j) (o.nextF r') (o.nextL r'))) j stg fu df 20 r vs m 0 st sm∧o.Lt (o.mu sc (upF pk 0 false) (upF n 0 n1) (upF ρ 0 ρ1) j stg fu 20 r vs m) (o.mu sc pk n ρ j stg fu 21 r vs m):=by
 have hb:=K.b1
 have hjr:=S.jr
 have hj:o.b0+o.nk - (r'+1)=o.b0+j:=by omega
 obtain ⟨n1,ρ1,hp⟩:=hp W (Ext.refl _ _)
 rw[hj]at hp
 have hsc:sc 0=[]:=S.nil (by omega)
 have hT:=S.talk.set 0 True (o.GoAt (o.b0+j) (o.nextF r') (o.nextL r')) [] n1 ρ1 (fun _=>⟨S.deaf0,⟨g,hg,hp⟩,trivial⟩) (fun q=>absurd trivial q)
 rw[inP_on (x':=20) (.inr rfl) True trivial,upF_id sc 0 hsc.symm]at hT
 refine ⟨n1,ρ1,⟨hT,fun i g W kn ow h=>?_,fun i hi=>?_,S.jr,S.rest,S.plan,fun _=>hsc,S.deaf0,.inr (.inl ⟨rfl,rfl,r',hr,upF_self ..⟩),S.wg,S.mode⟩,?_⟩
 ·by_cases e:i=0
  ·subst e;rw[upF_self]at h;exact h.1
  ·rw[upF_ne _ e]at h;exact S.run i g W kn ow h
 ·rw[upF_ne _ (show i≠0 by omega)];exact S.finW i hi
 ·refine lex_low (fun k=>.inl ?_) (fun k _=>?_) (.inl ?_)
  ·show o.wr _ _ _ _ j stg fu (k+1)=o.wr _ _ _ _ j stg fu (k+1)
   unfold Bo.wr rkOf
   rw[upF_ne _ (show k+1≠0 by omega),upF_ne _ (show k+1≠0 by omega),upF_ne _ (show k+1≠0 by omega)]
  ·show o.wr _ _ _ _ j stg fu (k+1)=o.wr _ _ _ _ j stg fu (k+1)
   unfold Bo.wr rkOf
   rw[upF_ne _ (show k+1≠0 by omega),upF_ne _ (show k+1≠0 by omega),upF_ne _ (show k+1≠0 by omega)]
  ·show LtK (o.mr _ 20 r vs m _) (o.mr _ 21 r vs m _)
   unfold Bo.mr rkOf
   rw[if_neg (show ¬(20:Nat)=30 by omega),if_pos rfl,if_neg (show ¬(21:Nat)=30 by omega),if_neg (show ¬(21:Nat)=20 by omega)]
   refine .left _ _ ?_
   rw[hsc,upF_self]
   simp[mx]
end
open Go.ConcN (CTag WD WgLive cnt Vc upd pend isOpen isW3 OpenSt AllQuit)
open Go.ConcR (KK WgAt stA smA rd wr DC0)
section
variable {o:Bo} {gs gs':Array Goroutine} {W W1:World} {t u:Trace} {kn ow:Who→Nat→Prop} {snt rcv:Nat→Nat} {sc:Nat→List Cm} {pk:Nat→Bool} {n:Nat→Nat} {ρ:Nat→Rho} {Fin:Nat→Stand} {j:Nat} {stg fu df:Nat→Nat} {x r vs m d:Nat} {st sm:Int} {i:Nat} {sl:Option (Nat×Nat)} {g g1:Goroutine} {es:Array Event}
theorem Bo.nextF.running(r:Nat)(g:Goroutine)(W:World)(kn ow:Nat→Prop)(h:o.nextF r g W kn ow):g.status=.running:=by
 cases r with
 |zero=>exact h.1
 |succ r=>exact h.1
theorem Vc_new{stg':Nat→Nat}(h:∀k,k<j→stg' (o.b0+k)=stg (o.b0+k))(h8:stg' (o.b0+j)=8):Vc (j+1) (o.D stg')=Vc j (o.D stg)+1:=by
 have e:Vc j (o.D stg')=Vc j (o.D stg):=ConcN.sumTo_congr fun a ha=>by simp only[Bo.D,h a ha]
 have e2:cnt (o.D stg' j)=1:=by simp[cnt,Bo.D,h8]
 show Vc j (o.D stg')+cnt (o.D stg' j)=_
 rw[e,e2]
theorem Bo.St.spawns(K:o.Ok)(S:o.St gs W t kn ow snt rcv sc pk n ρ Fin j stg fu df 20 r vs m 0 st sm)(hpk:pk 0=false)(hg:gs[0]?=some g){r':Nat}(hr:r=r'+1)(hgo:o.GoAt (o.b0+j) (o.nextF r') (o.nextL r') g W (kn (.inl 0)) (ow (.inl 0))):
  ∃gs' u kn' ow' sc' pk' n' ρ' Fin' stg',runT o.E.P (crowd gs W sl) 0=(.next (crowd gs' W sl),u)∧o.St gs' W (t++u) kn' ow' snt rcv sc' pk' n' ρ' Fin' (j+1) stg' fu df 30 r' vs m 0 st sm∧o.Lt (o.mu sc' pk' n' ρ' (j+1) stg' fu 30 r' vs m) (o.mu sc pk n ρ j stg fu 20 r vs m):=by
 have hb:=K.b1
 have hjr:=S.jr
 have hsz:=S.rest.size
 have hf:=S.rest.fresh (o.b0+j) (Nat.le_refl _)
 obtain ⟨_,g1,child,k1,o1,kc,oc,hst,hsp,⟨n1,ρ1,hpc⟩,n0,ρ0,hp0⟩:=hgo
 have ho0:Ord o.chs o.rdr o.wtr 0 (o.nextL r') snt rcv:=by
  cases r' with
  |zero=>exact (S.plan.ord0 (by omega)).1
  |succ r'=>trivial
 have h0:o.In 20 j stg 0:=.inl ⟨rfl,.inr rfl⟩
 obtain ⟨gs',u,a1,a2,a3,a4,a5,⟨fn,fn',pos,pos',hu⟩,T'⟩:=S.talk.spawn (sl:=sl) K.fast h0 hpk hg (by rw[hsz];exact hf.2) (by rw[hsz];exact hf.1) hst hsp (F0:=o.nextF r') (l0:=o.nextL r') (l:=o.scr (o.b0+j)) hp0 ho0 (by rw[hsz,S.finW _ (by omega)];exact hpc) (by rw[hsz];exact S.plan.ordl _ (Nat.le_refl _) (by omega))
 rw[hsz]at a2 a4 a5 hu T'
 have hmu:Mute u:=by rw[hu];exact mute_go
 have hInE:(fun k=>k=o.b0+j∨o.In 20 j stg k)=o.In 30 (j+1) (upF stg (o.b0+j) 8):=by
  funext k
  refine propext ⟨fun q=>?_,fun q=>?_⟩
  ·rcases q with rfl|⟨rfl,_⟩|⟨q1,q2,q3⟩
   ·exact .inr ⟨by omega,by omega,upF_self ..⟩
   ·exact .inl ⟨rfl,.inl rfl⟩
   ·exact .inr ⟨q1,by omega,by rw[upF_ne _ (show k≠o.b0+j by omega)];exact q3⟩
  ·rcases q with ⟨rfl,_⟩|⟨q1,q2,q3⟩
   ·exact .inr (.inl ⟨rfl,.inr rfl⟩)
   ·by_cases e:k=o.b0+j
    ·exact .inl e
    ·rw[upF_ne _ e]at q3
     exact .inr (.inr ⟨q1,by omega,q3⟩)
 rw[hInE]at T'
 have hlat:sc (o.b0+j)=o.scr (o.b0+j):=S.plan.later _ (Nat.le_refl _)
 have hscE:upF (upF sc 0 (o.nextL r')) (o.b0+j) (o.scr (o.b0+j))=upF sc 0 (o.nextL r'):=upF_id _ _ (by rw[upF_ne _ (show o.b0+j≠0 by omega)];exact hlat.symm)
 rw[hscE]at T'
 have hkn:∀(f:Who→Nat→Prop) (a b:Nat→Prop) k,k≠0→k≠o.b0+j→put (put f (.inl 0) a) (.inl (o.b0+j)) b (.inl k)=f (.inl k):=fun f a b k h1 h2=>by rw[put_off _ (inl_ne h2),put_off _ (inl_ne h1)]
 have hstk:∀k,k≠o.b0+j→upF stg (o.b0+j) 8 k=stg k:=fun k e=>upF_ne _ e _
 have hvsc:∀k,o.vsc r' (upF sc 0 (o.nextL r')) k=o.vsc r sc k:=fun k=>by
  unfold Bo.vsc
  by_cases e:k=0
  ·subst e
   rw[if_pos (show 0=0∧r≠0 from ⟨rfl,by omega⟩),upF_self]
   cases r' with
   |zero=>simp[Bo.nextL]
   |succ r'=>simp
  ·simp[e,upF_ne _ e]
 refine ⟨gs',u,_,_,_,_,_,_,_,_,a1,⟨T',fun i g W kn ow h=>?_,fun i hi=>?_,by omega,⟨a2,fun k q1 q2=>?_,fun k q1 q2 q8=>?_,fun k q1 q2 q8=>?_,fun k q1 q2 q8 q7=>?_,fun a k q=>?_,fun k q=>?_,fun k q=>?_,S.rest.new,S.rest.hand.app (by omega) (fun op hop=>.inr (.inl (hmu op hop).1)),S.rest.kp.less fun x B q=>?_⟩,⟨fun k hk=>?_,fun k h1 h2=>S.plan.ordl k (by omega) h2,fun h=>⟨(S.plan.ord0 (by omega)).1,?_⟩,fun k=>by rw[hvsc];exact S.plan.suf k,fun c=>by rw[hvsc];exact S.plan.tsn c,fun c=>by rw[hvsc];exact S.plan.trc c⟩,fun q=>absurd rfl q,?_,.inl ⟨rfl,rfl,upF_self ..⟩,S.wg,?_⟩,?_⟩
 ·by_cases e:i=0
  ·subst e;rw[upF_self]at h;exact Bo.nextF.running r' g W kn ow h
  ·rw[upF_ne _ e]at h;exact S.run i g W kn ow h
 ·rw[upF_ne _ (show i≠0 by omega)];exact S.finW i hi
 ·rw[hstk k (by omega)];exact S.rest.lv k q1 q2
 ·have e:k≠o.b0+j:=fun e=>by subst e;rw[upF_self]at q8;exact q8 rfl
  rw[hstk k e]at q8 ⊢
  obtain ⟨y,z1,z2,z3⟩:=S.rest.ws k q1 (by omega) q8
  exact ⟨y,by rw[a5 k (by omega) e];exact z1,z2,by rw[hmu.deaf];exact z3⟩
 ·have e:k≠o.b0+j:=fun e=>by subst e;rw[upF_self]at q8;exact q8 rfl
  rw[hstk k e]at q8
  rw[hkn _ _ _ k (by omega) e,hkn _ _ _ k (by omega) e,upF_ne _ (show k≠0 by omega)]
  exact S.rest.res k q1 (by omega) q8
 ·have e:k≠o.b0+j:=fun e=>by subst e;rw[upF_self]at q8;exact q8 rfl
  rw[hstk k e]at q8 q7
  obtain ⟨z,hz⟩:=S.rest.rel k q1 (by omega) q8 q7
  refine ⟨z,hz.1.mute (fun op hop=>(hmu op hop).1) (fun B y=>by rw[hkn _ _ _ k (by omega) e]at y;exact y) (fun B y=>by rw[hkn _ _ _ k (by omega) e]at y;exact y),hz.2.appNot fun op hop=>?_⟩
  rw[hu]at hop
  simp only[List.mem_toArray,List.mem_cons,List.not_mem_nil,or_false]at hop
  rcases hop with rfl|rfl
  ·show 0≠k;omega
  ·exact fun q=>e q.symm
 ·rcases act_app q with q|⟨y,hy,q⟩
  ·exact S.rest.norel a k q
  ·rw[hu]at hy
   simp only[List.mem_toArray,List.mem_cons,List.not_mem_nil,or_false]at hy
   rcases hy with rfl|rfl<;>cases q
 ·by_cases e:k=o.b0+j
  ·subst e
   rw[hu]
   exact (S.rest.old 0 (.inl rfl)).spawn S.deaf0 hf.2 _ _ _ _
  ·exact (S.rest.old k (by omega)).app fun y hy a ha _=>by rw[(hmu y hy).1]at ha;cases ha
 ·rw[hkn _ _ _ k (by omega) (by omega),hmu.deaf]
  exact S.rest.fresh k (by omega)
 ·have h2:∀(a:Nat) (B:Nat),put (put ow (.inl 0) o1) (.inl a) oc x B→∃y,ow y B:=fun a B q=>by
   by_cases e:x=.inl a
   ·subst e;rw[put_at]at q;exact ⟨_,hsp.b2 B q⟩
   ·rw[put_off _ e]at q
    by_cases e2:x=.inl 0
    ·subst e2;rw[put_at]at q;exact ⟨_,hsp.b1 B q⟩
    ·rw[put_off _ e2]at q;exact ⟨_,q⟩
  exact h2 _ B q
 ·rw[upF_ne _ (show k≠0 by omega)];exact S.plan.later k (by omega)
 ·rw[upF_self]
  cases r' with
  |zero=>exact absurd rfl h
  |succ r'=>rfl
 ·rw[hmu.deaf];exact S.deaf0
 ·have hV:=Vc_new (o:=o) (j:=j) (stg:=stg) (stg':=upF stg (o.b0+j) 8) (fun k hk=>hstk _ (by omega)) (upF_self ..)
  have hm:=S.mode
  have htag:tagOf 20 vs=.sp 0 0:=rfl
  rw[htag]at hm
  generalize hq:(CTag.sp 0 0)=tg at hm
  cases hm with
  |opn q1 q2 q3=>
   subst hq
   have e:Vc j (o.D stg)+pend (.sp 0 0)=Vc (j+1) (o.D (upF stg (o.b0+j) 8))+pend (tagOf 30 vs):=by rw[hV];rfl
   rw[e]
   refine .opn trivial (fun a ha=>?_) (fun vs e=>by cases e)
   rcases Nat.lt_or_ge a j with z|z
   ·have:=q2 a z
    simp only[Bo.D,hstk _ (show o.b0+a≠o.b0+j by omega)]at this ⊢
    exact this
   ·obtain rfl:a=j:=by omega
    simp[Bo.D,upF_self]
  |reg q1 _ _=>subst hq;exact q1.elim
  |last L q1 _ _ _=>subst hq;exact q1.elim
  |sema _=>cases hq
  |fin q1 _=>subst hq;exact q1.elim
 ·have hoth:∀k,k+1≠o.b0+j→o.wr (upF sc 0 (o.nextL r')) (upF pk (o.b0+j) false) (upF (upF n 0 n0) (o.b0+j) n1) (upF (upF ρ 0 ρ0) (o.b0+j) ρ1) (j+1) (upF stg (o.b0+j) 8) fu (k+1)=o.wr sc pk n ρ j stg fu (k+1):=fun k e=>by
   unfold Bo.wr rkOf
   simp only[upF_ne _ e,upF_ne _ (show k+1≠0 by omega)]
   rcases Nat.lt_or_ge (k+1) (o.b0+j) with z|z
   ·rw[if_pos z,if_pos (by omega)]
   ·rw[if_neg (show ¬k+1<o.b0+j by omega),if_neg (show ¬k+1<o.b0+(j+1) by omega)]
  have hlt':LtK (o.wr (upF sc 0 (o.nextL r')) (upF pk (o.b0+j) false) (upF (upF n 0 n0) (o.b0+j) n1) (upF (upF ρ 0 ρ0) (o.b0+j) ρ1) (j+1) (upF stg (o.b0+j) 8) fu (o.b0+j - 1+1)) (o.wr sc pk n ρ j stg fu (o.b0+j - 1+1)):=by
   rw[show o.b0+j - 1+1=o.b0+j by omega]
   unfold Bo.wr rkOf
   rw[if_pos (show o.b0+j<o.b0+(j+1) by omega),upF_self,if_pos rfl,if_neg (show ¬o.b0+j<o.b0+j by omega),upF_self,upF_self,upF_self,upF_ne _ (show o.b0+j≠0 by omega),hlat]
   exact .left _ _ (by simp;omega)
  refine lex_low (fun k=>?_) (fun k hk=>hoth k (by omega)) (.inr ⟨o.b0+j - 1,hlt'⟩)
  by_cases e:k+1=o.b0+j
  ·have e2:k=o.b0+j - 1:=by omega
   subst e2
   exact .inr hlt'
  ·exact .inl (hoth k e)
end
open Go.ConcN (CTag WD WgLive cnt Vc upd pend isOpen isW3 OpenSt AllQuit)
open Go.ConcR (KK WgAt stA smA rd wr DC0)
def Bo.Wk (o:Bo) (i:Nat):Prop:=o.b0≤i∧i<o.b0+o.nk
structure Bo.Jn (o:Bo) (gs:Array Goroutine) (W:World) (t:Trace) (stg fu df:Nat→Nat) (m:Nat) (bk:Goroutine):Prop where
 size:gs.size=o.b0+o.nk
 main:∃g,gs[0]?=some g∧g.status=.running∧o.GM (fun g _=>g=bk) m g W
 deaf0:Deaf t 0=0
 st1:∀i,1≤i→i<o.b0+o.nk→stg i=1
 lv:∀i,1≤i→i<o.b0+o.nk→∃g,gs[i]?=some g∧QuitsD o.E.P (fu i) (df i) g∧Deaf t i=df i
 wg:WgLive o.ty o.Wg W
 net:∃kn ow snt rcv,Net o.M o.Out o.Sh W t (joins kn 0 o.Wk) (joins ow 0 o.Wk) o.chs o.cap snt rcv∧o.Res0 bk W (kn (.inl 0)) (ow (.inl 0))∧(∀i,o.Wk i→o.Res i W (kn (.inl i)) (ow (.inl i)))∧(∀i,o.b0+o.nk≤i→∀B,¬kn (.inl i) B)∧Kp o.base o.N0 o.Out W ow
 fresh:∀i,o.b0+o.nk≤i→Deaf t i=0
 new:∀B,W.heap.size≤B→¬o.Out B
 hand:t.HandedOver
 norel:∀a k,t.act? k≠some (.mark (.release a))
def Bo.Inv (o:Bo) (gs:Array Goroutine) (W:World) (t:Trace) (μ:Mu):Prop:=
 (∃kn ow snt rcv sc pk n ρ Fin j stg fu df x r vs m d st sm,o.St gs W t kn ow snt rcv sc pk n ρ Fin j stg fu df x r vs m d st sm∧μ=o.mu sc pk n ρ j stg fu x r vs m)∨
  ∃sc pk n ρ stg fu df m vs bk,o.Jn gs W t stg fu df m bk∧μ=o.mu sc pk n ρ o.nk stg fu 7 0 vs m
def Bo.Next (o:Bo) (gs:Array Goroutine) (W:World) (t:Trace) (sl:Option (Nat×Nat)) (i:Nat) (μ:Mu):Prop:=∃gs' W' u μ',runT o.E.P (crowd gs W sl) i=(.next (crowd gs' W' sl),u)∧Relation.TransGen o.Lt μ' μ∧o.Inv gs' W' (t++u) μ'
theorem Bo.Next.le{o:Bo}{gs:Array Goroutine}{W:World}{t:Trace}{sl:Option (Nat×Nat)}{i:Nat}{μ μ':Mu}(h:o.Next gs W t sl i μ')(hl:o.Lt μ' μ):o.Next gs W t sl i μ:=by
 obtain ⟨gs',W',u,μ2,h1,h2,h3⟩:=h
 exact ⟨gs',W',u,μ2,h1,.tail h2 hl,h3⟩
section
variable {o:Bo} {gs gs':Array Goroutine} {W W1:World} {t u:Trace} {kn ow:Who→Nat→Prop} {snt rcv:Nat→Nat} {sc:Nat→List Cm} {pk:Nat→Bool} {n:Nat→Nat} {ρ:Nat→Rho} {Fin:Nat→Stand} {j:Nat} {stg fu df:Nat→Nat} {x r vs m d:Nat} {st sm:Int} {i:Nat} {sl:Option (Nat×Nat)} {g g1:Goroutine} {es:Array Event}
theorem Bo.St.mnext(K:o.Ok)(S:o.St gs W t kn ow snt rcv sc pk n ρ Fin j stg fu df x r vs m d st sm)(h1:x≠30)(h2:x≠20)(hg:gs[0]?=some g)(hs:stepG o.E.P true g W=.go g1 W1 es)(B:Bk o.Wg 0 W W1 es){x' vs' m' d':Nat}{st' sm':Int}
  (h3:x'≠30) (h4:x'≠20) (hms:o.MS x' r vs' m' d' g1 W1 (kn (.inl 0)) (ow (.inl 0))) (hd:deafBehind d es=d') (hwg:WgAt o.ty o.Wg W1 st' sm') (hmode:ConcN.Mode j (o.D stg) (tagOf x' vs') st' sm')
  (hlt:LtK (mx (40+(2*o.sc0.length+40)*r) x' vs' (Vc j (o.D stg)),m',zr) (mx (40+(2*o.sc0.length+40)*r) x vs (Vc j (o.D stg)),m,zr)):o.Next gs W t sl 0 (o.mu sc pk n ρ j stg fu x r vs m):=by
 obtain ⟨gs',u,a1,a2,a3⟩:=S.mbook (sl:=sl) K h1 h2 hg hs B h3 h4 hms hd hwg hmode hlt
 exact ⟨gs',W1,u,_,a1,.single a3,.inl ⟨_,_,_,_,_,_,_,_,_,_,_,_,_,_,_,_,_,_,_,_,a2,rfl⟩⟩
theorem Bo.St.ext0(K:o.Ok)(S:o.St gs W t kn ow snt rcv sc pk n ρ Fin j stg fu df x r vs m d st sm)(B:Bk o.Wg i W W1 es)(k:Who):Ext (kn k) W W1:=
 ⟨by rw[B.size];exact Nat.le_refl _,fun b q _=>B.keep b (fun e=>(S.talk.net.apt.low _ b q).2 (e▸S.wgOut K)),B.bare⟩
theorem all_quit(h:OpenSt j (o.D stg))(h0:Vc j (o.D stg)=0):AllQuit j (o.D stg):=fun a ha=>by
 have:=h a ha
 have h1:=ConcN.le_sumTo (f:=fun x=>cnt (o.D stg x)) ha
 have h2:cnt (o.D stg a)=0:=by simp only[Vc]at h0;omega
 simp only[cnt]at h2
 split at h2<;>omega
theorem Bo.St.step16(K:o.Ok)(S:o.St gs W t kn ow snt rcv sc pk n ρ Fin j stg fu df 16 r vs m d st sm)(hg:gs[0]?=some g)(hms:o.MS 16 r vs m d g W (kn (.inl 0)) (ow (.inl 0))):o.Next gs W t sl 0 (o.mu sc pk n ρ j stg fu 16 r vs m):=by
 obtain ⟨rfl,rfl,bk,hw,hres⟩:d=1∧r=0∧∃bk,o.GM (StW1 o.E.P o.ty o.Wg bk (o.Anch bk)) m g W∧o.Res0 bk W (kn (.inl 0)) (ow (.inl 0)):=hms
 have hlt:=wg_lt S.wg
 have hnk:=K.nk
 have hjr:=S.jr
 have hVj:=ConcN.Vc_le j (o.D stg)
 rcases Goes.cases hw with hstop|⟨m',hm,hstep⟩
 ·obtain ⟨_,hall⟩:=hstop W (rg_refl W)
  have hmode:=S.mode
  have hwg0:=S.wg
  generalize htag:tagOf 16 vs=tag at hmode
  have ht:tag=.kd:=htag.symm
  cases hmode with
  |opn q1 q2 q3=>
   subst ht
   have hw1:WgAt o.ty o.Wg W ((Vc j (o.D stg):Nat)*KK) 0:=by simpa [pend] using hwg0
   obtain ⟨g',hgo,hz,hnz⟩:=hall (Vc j (o.D stg)) (by omega) hw1
   by_cases hv:Vc j (o.D stg)=0
   ·obtain ⟨m₂,hk2⟩:=hz hv
    have hw0:WgAt o.ty o.Wg W 0 0:=by rw[hv]at hw1;simpa using hw1
    exact S.mnext K (x':=9) (vs':=vs) (m':=m₂) (by omega) (by omega) hg hgo (bk_one (evg_cell hlt _ rfl _)) (by omega) (by omega) ⟨rfl,rfl,bk,hk2,hres⟩ rfl hw0 (.fin trivial (all_quit q2 hv)) (.left _ _ (by simp[mx]))
   ·obtain ⟨m₂,hk2⟩:=hnz hv
    refine S.mnext K (x':=14) (vs':=Vc j (o.D stg)) (m':=m₂) (by omega) (by omega) hg hgo (bk_one (evg_cell hlt _ rfl _)) (by omega) (by omega) ⟨rfl,rfl,bk,hk2,hres⟩ rfl hw1 ?_ (.left _ _ (by simp[mx]))
    have:ConcN.Mode j (o.D stg) (.w2 (Vc j (o.D stg))) (((Vc j (o.D stg)+pend (.w2 (Vc j (o.D stg))):Nat):Int)*KK) 0:=.opn trivial q2 (fun vs e=>by cases e;omega)
    show ConcN.Mode j (o.D stg) (.w2 (Vc j (o.D stg))) _ _
    simpa [pend] using this
  |reg q1 _ _=>subst ht;exact q1.elim
  |last L q1 _ _ _=>subst ht;exact q1.elim
  |sema _=>cases ht
  |fin q1 _=>subst ht;exact q1.elim
 ·obtain ⟨g',w',es,hgo,⟨rfl,rfl⟩,hg'⟩:=hstep W (rg_refl W)
  exact S.mnext K (x':=16) (vs':=vs) (m':=m') (by omega) (by omega) hg hgo bk_none (by omega) (by omega) ⟨rfl,rfl,bk,hg',hres⟩ rfl S.wg S.mode (.right _ (.left _ _ (by omega)))
theorem Bo.St.step20(K:o.Ok)(S:o.St gs W t kn ow snt rcv sc pk n ρ Fin j stg fu df 20 r vs m d st sm)(hg:gs[0]?=some g):o.Next gs W t sl 0 (o.mu sc pk n ρ j stg fu 20 r vs m):=by
 rcases S.main with ⟨q,_⟩|⟨_,rfl,r',hr,hF⟩|⟨_,q,_⟩
 ·omega
 ·have h0:o.In 20 j stg 0:=.inl ⟨rfl,.inr rfl⟩
  have hsc:=S.nil (by omega)
  have hpk:pk 0=false:=by
   obtain ⟨y,_,hs⟩:=S.talk.sit 0 h0
   rcases hs with ⟨q,_⟩|⟨_,c,j',l,_,_,_,q,_⟩|⟨_,c,j',l,_,_,_,q,_⟩
   ·exact q
   ·rw[hsc]at q;cases q
   ·rw[hsc]at q;cases q
  rcases S.talk.step (sl:=sl) K.fast S.run S.rest.new h0 hpk hg with ⟨_,hfin⟩|⟨gs',W',u,kn',ow',snt',rcv',sc',pk',n',ρ',a1,a2,a3⟩
  ·have hgo:=hfin W (Ext.refl _ _)
   rw[hF]at hgo
   obtain ⟨gs',u,kn',ow',sc',pk',n',ρ',Fin',stg',a1,a2,a3⟩:=S.spawns (sl:=sl) K hpk hg hr hgo
   exact ⟨gs',W,u,_,a1,.single a3,.inl ⟨_,_,_,_,_,_,_,_,_,_,_,_,_,_,_,_,_,_,_,_,a2,rfl⟩⟩
  ·obtain ⟨x',m',b1,b2⟩:=S.turn K h0 a2 a3
   exact ⟨gs',W',u,_,a1,.single b2,.inl ⟨_,_,_,_,_,_,_,_,_,_,_,_,_,_,_,_,_,_,_,_,b1,rfl⟩⟩
 ·omega
end
end Go.Proofs.Ytniloklglpchfai
