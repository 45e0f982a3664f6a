/- Goroutine 0 starts others, waits for them, and goes on its way. No program in sight. -/
import Derived.Test.YtniloklglpchfaiPkEqCa
import Derived.Test.YtniloklglpchfaiPkWgL
import Derived.Test.YtniloklglpchfaiEqWb
import Derived.Test.YtniloklglpchfaiPkEqCi
import Derived.Below
namespace Go.Proofs.Ytniloklglpchfai
open Go Go.Conc
open Go.ConcR (WgAt)
theorem Al.less{P:Program}{Out:Nat→Prop}{gs:Array Goroutine}{W:World}{t:Trace}{kn ow:Who→Nat→Prop}{fu df:Nat→Nat}(A:Al P Out gs W t kn ow fu df){k2 o2:Nat→Prop}(hk:∀B,k2 B→kn (.inl 0) B)(ho:∀B,o2 B→ow (.inl 0) B)(hw:∀B,o2 B→k2 B):Al P Out gs W t (put kn (.inl 0) k2) (put ow (.inl 0) o2) fu df:=by
 have hk':∀x B,put kn (.inl 0) k2 x B→kn x B:=fun x B q=>by
  by_cases e:x=.inl 0
  ·subst e;rw[put_at]at q;exact hk B q
  ·rw[put_off _ e]at q;exact q
 have ho':∀x B,put ow (.inl 0) o2 x B→ow x B:=fun x B q=>by
  by_cases e:x=.inl 0
  ·subst e;rw[put_at]at q;exact ho B q
  ·rw[put_off _ e]at q;exact q
 refine ⟨⟨⟨A.net.safe.clean,fun i B q h1 h2=>A.net.safe.rd i B (hk' _ _ q) h1 h2,fun i B q h1 h2=>A.net.safe.wr i B (ho' _ _ q) h1 h2,A.net.safe.low⟩,A.net.apt.less hk' ho' (fun x B q=>?_),A.net.sh,fun c hc=>(by cases hc),fun c j h B q=>A.net.msg c j h B (hk' _ _ q)⟩,A.deaf0,A.lv,fun i hi=>⟨fun B q=>(A.fresh i hi).1 B (hk' _ _ q),(A.fresh i hi).2⟩,A.new,A.hand,A.norel⟩
 by_cases e:x=.inl 0
 ·subst e;rw[put_at]at q ⊢;exact hw B q
 ·rw[put_off _ e]at q ⊢;exact A.net.apt.own x B q
def StartG (E:Env) (Goal2:Stand):Stand:=fun g W kn ow=>g.status=.running∧∀(b0:Nat) (Out0:Nat→Prop) (base:World) (N0:Nat),1≤b0→∃(o:Bo) (k1 o1:Nat→Prop) (n1:Nat) (ρ1:Rho),o.E=E∧o.b0=b0∧o.base=base∧o.N0=N0∧o.Ok∧o.Live∧(∀B,o.Out B↔Out0 B∨B∈o.chs∨B=o.Wg)∧(∀B,o.Sh B↔B=o.Wg)∧
 (∀c,c∈o.chs→ow c∧W.heap[c]?=some (.chan (o.cap c) #[] false 0 0 false)∧0<o.cap c∧c≠o.Wg)∧ow o.Wg∧WgAt o.ty o.Wg W 0 0∧(∀B,k1 B→kn B∧B ∉ o.chs∧B≠o.Wg)∧(∀B,o1 B→ow B∧k1 B)∧
 Path o.E (Run o.E o.M (o.nextF o.nk) (o.nextL o.nk)) n1 ρ1 g W k1 o1∧Ord o.chs o.rdr o.wtr 0 o.sc0 z0 z0∧(∀i,o.b0≤i→i<o.b0+o.nk→Ord o.chs o.rdr o.wtr i (o.scr i) z0 z0)∧
 ∀bk W' (knw oww:Nat→Nat→Prop),o.Res0 bk W' (knw 0) (oww 0)→(∀i,o.Wk i→o.Res i W' (knw i) (oww i))→(∀i B,i=0∨o.Wk i→knw i B→B<W'.heap.size)→∃k2 o2,(∀B,k2 B→knw 0 B∨∃i,o.Wk i∧knw i B)∧(∀B,o2 B→oww 0 B∨∃i,o.Wk i∧oww i B)∧(∀B,o2 B→k2 B)∧∃n ρ,Path E Goal2 n ρ bk W' k2 o2
theorem Al.bout{E:Env}{Goal2:Stand}{base:World}{N0:Nat}{Out:Nat→Prop}{gs:Array Goroutine}{W:World}{t:Trace}{kn ow:Who→Nat→Prop}{fu df:Nat→Nat}{sl:Option (Nat×Nat)}{g:Goroutine}(A:Al E.P Out gs W t kn ow fu df)(hkp:Kp base N0 Out W ow)(hg:gs[0]?=some g)(h:StartG E Goal2 g W (kn (.inl 0)) (ow (.inl 0))):
  ∃N gs' W' sl' t' Out' kn' ow' fu' df' g',runNT E.P N (crowd gs W sl) t=(.next (crowd gs' W' sl'),t')∧Al E.P Out' gs' W' t' kn' ow' fu' df'∧Kp base N0 Out' W' ow'∧gs'[0]?=some g'∧g'.status=.running∧∃n ρ,Path E Goal2 n ρ g' W' (kn' (.inl 0)) (ow' (.inl 0)):=by
 obtain ⟨-,h⟩:=h
 obtain ⟨o,k1,o1,n1,ρ1,rfl,hb0,rfl,rfl,hOk,hL,hOut,hSh,hch,hwo,hwg,hk,ho,hp,ho0,how,hbeh⟩:=h gs.size Out base N0 (lt_of_at hg)
 have hkp1:Kp o.base o.N0 o.Out W ow:=⟨hkp.bare,hkp.blk,hkp.own,fun B q=>by
  rcases (hOut B).1 q with q|q|rfl
  ·exact hkp.out B q
  ·exact hkp.own _ B (hch B q).1
  ·exact hkp.own _ _ hwo,hkp.size⟩
 obtain ⟨μ,hinv⟩:=Bo.start A hkp1 hg hb0 hOut hSh hch hwo hwg hk ho hp ho0 how
 obtain ⟨N,gs',W',sl',t',stg,fu',df',m,bk,hr,J,hg'⟩:=Bo.reach hOk hL μ gs W sl t hinv
 obtain ⟨knj,owj,hA,hR0,hR,hKj⟩:=J.al
 have hj:∀(f:Who→Nat→Prop) B,noMsg (joins f 0 o.Wk) (.inl 0) B↔f (.inl 0) B∨∃i,o.Wk i∧f (.inl i) B:=fun f B=>by
  show joins f 0 o.Wk (.inl 0) B↔_
  unfold joins
  constructor
  ·rintro (⟨-,q⟩|⟨q,-⟩)
   ·exact q
   ·exact absurd rfl q
  ·intro q;exact .inl ⟨rfl,q⟩
 obtain ⟨k2,o2,q1,q2,q3,n,ρ,q4⟩:=hbeh bk W' (fun i=>knj (.inl i)) (fun i=>owj (.inl i)) hR0 hR (fun i B hi q=>(hA.net.apt.low (.inl 0) B ((hj knj B).2 (by rcases hi with rfl|hi;exact .inl q;exact .inr ⟨i,hi,q⟩))).1)
 have hA2:=hA.less (k2:=k2) (o2:=o2) (fun B q=>(hj knj B).2 (q1 B q)) (fun B q=>(hj owj B).2 (q2 B q)) q3
 refine ⟨N,gs',W',sl',t',_,_,_,_,_,_,hr,hA2,hKj.less (fun x B q=>?_),hg',hOk.backr _ _ _ _ hR0,n,ρ,by rw[put_at,put_at];exact q4⟩
 by_cases e:x=.inl 0
 ·subst e;rw[put_at]at q;exact ⟨_,(hj owj B).2 (q2 B q)⟩
 ·rw[put_off _ e]at q;exact ⟨_,q⟩
end Go.Proofs.Ytniloklglpchfai
/- A ring's crowd: who hands what to whom, and what a worker is till it is done. -/
namespace Go.Proofs.Ytniloklglpchfai
open Go Go.RowKit Go.Conc
def ixF (C:Nat→Nat) (ch:Nat):Nat→Nat
 |0=>0
 |k+1=>if C k=ch then k else ixF C ch k
theorem ixF_at{C:Nat→Nat}{w:Nat}:∀{c:Nat},(∀i j,i<c→j<c→C i=C j→i=j)→w<c→ixF C (C w) c=w
 |0,_,h=>by omega
 |c+1,hi,h=>by
  unfold ixF
  by_cases e:C c=C w
  ·rw[if_pos e];exact hi c w (by omega) h e
  ·rw[if_neg e]
   refine ixF_at (fun i j h1 h2=>hi i j (by omega) (by omega)) ?_
   rcases Nat.lt_or_ge w c with q|q
   ·exact q
   ·exact absurd (by rw[show w=c by omega]) e
structure Rng where
 c:Nat
 n:Nat
 Wg:Nat
 b0:Nat
 C:Nat→Nat
 S:Nat→Nat
 T:Nat→Nat
 O:Nat→Option Nat
 u:Nat→Value
 ps:Nat→List Int
 X:Nat→Option Obj→Prop
structure Rng.Ok (y:Rng):Prop where
 c1:1≤y.c
 c6:y.c≤6
 b1:1≤y.b0
 len:∀i,i<y.c→(y.ps i).length=y.n
 inj:∀i j,i<y.c→j<y.c→y.C i=y.C j→i=j
 wk:∀i,i<y.c→Wkr.Ok ⟨y.S i,y.T i,y.C ((i+1) % y.c),y.C i,i,y.c,y.n,y.O i,y.u i,y.ps i⟩
def Rng.wkr (y:Rng) (i:Nat):Wkr:=⟨y.S i,y.T i,y.C ((i+1) % y.c),y.C i,i,y.c,y.n,y.O i,y.u i,y.ps i⟩
def Rng.Res (y:Rng) (w:Nat) (W:World) (kn ow:Nat→Prop):Prop:=kn (y.T w)∧ow (y.T w)∧y.T w<W.heap.size∧∃(z:Nat×Nat) (ts:List Int),z.2≤z.1∧W.heap[y.T w]?=some (.cells (ts.map (Value.int .i64)).toArray 3 z)∧ts.length=y.n∧∀p,p<y.c→pcL y.n y.c p ts=partX y.n y.c y.ps p (y.c - 1)
def AnchR (Wg:Nat) (bk g:Goroutine) (w:World):Prop:=∃(b₀:Frame) (a₀:Act) (ops₀:Array Oper) (i₀:Nat) (rest₀:List Nat) (k₀:List Item) (cs:List Frame),bk=G (b₀.at (a₀.put ((ops₀[i₀]?).bind (·.dst)) (.tuple #[])) (.inRegion ops₀ rest₀::k₀)) cs∧Head wgL Wg (b₀.at a₀ (.inRegion ops₀ (i₀::rest₀)::k₀)) cs g w
def Rng.IsBo (y:Rng) (Out:Nat→Prop) (Res0:Goroutine→World→(Nat→Prop)→(Nat→Prop)→Prop) (base:World) (N0:Nat) (o:Bo):Prop:=o=⟨mkE Try.prog rgF rgF,MsgR y.n y.c y.ps y.C,(List.range y.c).map y.C,fun _=>1,fun ch=>y.b0+ixF y.C ch y.c,fun ch=>y.b0+(ixF y.C ch y.c+y.c - 1) % y.c,Out,fun B=>B=y.Wg,wgL.tWg,y.Wg,y.b0,y.c,
 fun i=>ringS (y.C ((i - y.b0+1) % y.c)) (y.C (i - y.b0)) (2*(y.c - 1)) 0,fun i=>y.Res (i - y.b0),[],Res0,AnchR y.Wg,base,N0⟩
theorem goesI{P:Program}{main:Bool}{R:World→World→Prop}{D:World→World→Array Event→Prop}{S S':Goroutine→World→Prop}(h:∀g w,S g w→S' g w):∀{n:Nat} {g:Goroutine} {w:World},Goes P main R D S n g w→Goes P main R D S' n g w
 |0,_,_,hg=>fun w₁ r=>h _ _ (hg w₁ r)
 |n+1,g,w,hg=>by
  rcases hg with hs|⟨hr,hst⟩
  ·exact .inl fun w₁ r=>h _ _ (hs w₁ r)
  ·refine .inr ⟨hr,fun w₁ r=>?_⟩
   have hq:=hst w₁ r
   revert hq
   cases stepG P main g w₁<;>simp only[GStep.goes,imp_self]
   exact fun q=>⟨q.1,goesI h q.2⟩
theorem StW2.mono{P:Program}{ty:TypeId}{Wg vs:Nat}{back:Goroutine}{A A':Goroutine→World→Prop}(h:∀g w,A g w→A' g w){g:Goroutine}{w:World}(x:StW2 P ty Wg back A vs g w):StW2 P ty Wg back A' vs g w:=
 ⟨x.1,fun v hv hw=>⟨(x.2 v hv hw).1,fun e=>let ⟨g',h1,m,h2⟩:=(x.2 v hv hw).2 e;⟨g',h1,m,goesI h h2⟩⟩⟩
theorem StW1.mono{P:Program}{ty:TypeId}{Wg:Nat}{back:Goroutine}{A A':Goroutine→World→Prop}(h:∀g w,A g w→A' g w){g:Goroutine}{w:World}(x:StW1 P ty Wg back A g w):StW1 P ty Wg back A' g w:=
 ⟨x.1,fun v hv hw=>let ⟨g',h1,h2,h3⟩:=x.2 v hv hw;⟨g',h1,h2,fun e=>let ⟨m,h4⟩:=h3 e;⟨m,goesI (fun _ _ y=>StW2.mono h y) h4⟩⟩⟩
section
variable {base:World} {N0:Nat} {o:Bo} {y:Rng} {Out:Nat→Prop} {Res0:Goroutine→World→(Nat→Prop)→(Nat→Prop)→Prop}
theorem Rng.ring(K:y.Ok)(e:y.IsBo Out Res0 base N0 o):Ring o y.c (2*(y.c - 1)) y.C:=by
 unfold Rng.IsBo at e
 subst e
 have hc:=K.c1
 refine ⟨rfl,rfl,K.b1,fun w hw=>?_,fun w hw=>?_,fun w hw=>?_,fun _ _=>rfl,fun x=>?_⟩
 ·show ringS (y.C ((y.b0+w - y.b0+1) % y.c)) (y.C (y.b0+w - y.b0)) _ 0=_
  rw[Nat.add_sub_cancel_left]
 ·show y.b0+(ixF y.C (y.C ((w+1) % y.c)) y.c+y.c - 1) % y.c=_
  rw[ixF_at K.inj (Nat.mod_lt _ (by omega)),pred_succ hc hw]
 ·show y.b0+ixF y.C (y.C w) y.c=_
  rw[ixF_at K.inj hw]
 ·show x∈(List.range y.c).map y.C↔_
  simp
theorem Rng.live(K:y.Ok)(e:y.IsBo Out Res0 base N0 o):o.Live:=(Rng.ring K e).live
theorem Rng.ord(K:y.Ok)(e:y.IsBo Out Res0 base N0 o):∀i,o.b0≤i→i<o.b0+o.nk→Ord o.chs o.rdr o.wtr i (o.scr i) z0 z0:=by
 intro i h1 h2
 have R:=Rng.ring K e
 unfold Rng.IsBo at e
 subst e
 have h1:y.b0≤i:=h1
 have h2:i<y.b0+y.c:=h2
 obtain ⟨w,rfl⟩:∃w,i=y.b0+w:=⟨i - y.b0,by omega⟩
 have hs:=R.scr w (by omega)
 simp only at hs ⊢
 rw[hs]
 exact ringS_ord ((R.mem _).2 ⟨_,Nat.mod_lt _ (by omega),rfl⟩) ((R.mem _).2 ⟨w,by omega,rfl⟩) (R.wtr w (by omega)) (R.rdr w (by omega)) _ _ _ _ rfl rfl
theorem Rng.Res.ext{w:Nat}{W W':World}{kn ow:Nat→Prop}(h:y.Res w W kn ow)(hx:Ext kn W W'):y.Res w W' kn ow:=by
 obtain ⟨h1,h2,h3,z,ts,h4,h5,h6⟩:=h
 exact ⟨h1,h2,Nat.lt_of_lt_of_le h3 hx.size,z,ts,h4,by rw[hx.keep _ h1 h3];exact h5,h6⟩
theorem Rng.bok(K:y.Ok)(e:y.IsBo Out Res0 base N0 o)(h0:∀bk W W' kn ow,Res0 bk W kn ow→Ext kn W W'→Res0 bk W' kn ow)(hb:∀bk W kn ow,Res0 bk W kn ow→bk.status=.running):o.Ok:=by
 unfold Rng.IsBo at e
 subst e
 refine ⟨msgR_fast _ _ _ _,fun i W W' kn ow h hx=>Rng.Res.ext h hx,h0,hb,K.b1,?_,fun bk g w h=>?_,fun bk g w h=>?_,rfl⟩
 ·show y.c<_
  have:=K.c6
  omega
 ·obtain ⟨b₀,a₀,ops₀,i₀,rest₀,k₀,cs,rfl,h⟩:=h
  obtain ⟨m,hm⟩:=wait_head wg_lib g w h
  exact ⟨m,goesI (fun g w q=>q.mono fun g w q=>⟨_,_,_,_,_,_,_,rfl,q⟩) hm⟩
 ·obtain ⟨b₀,a₀,ops₀,i₀,rest₀,k₀,cs,-,T,rfl,-⟩:=h
  rfl
theorem Rng.child(K:y.Ok)(e:y.IsBo Out Res0 base N0 o){w:Nat}(hw:w<y.c){W:World}{ts:List Int}(Me:(y.wkr w).Mem W ts){Xb:Nat}{kc oc:Nat→Prop}(hkl:∀B,kc B→B<W.heap.size)(hko:∀B,oc B→kc B)(hk:∀B,(y.wkr w).k0 B→kc B)(ho:∀B,(y.wkr w).o0 B→oc B)(hXk:kc Xb)(hXb:W.cell? ⟨Xb,0,none⟩=some (.pointer (some ⟨y.S w,0,none⟩))):
  ∃n ρ,Path o.E (Run o.E o.M (o.FinW (y.b0+w)) (o.scr (y.b0+w))) n ρ (born Try.prog (callV y.Wg Xb)) W kc oc:=by
 have hc:=K.c1
 have R:=Rng.ring K e
 have eb:o.b0=y.b0:=by unfold Rng.IsBo at e;rw[e]
 have hs:=R.scr w hw
 rw[eb]at hs
 rw[hs]
 unfold Rng.IsBo at e
 subst e
 have hlen:∀k,(xN y.n y.c y.ps w k).length=stN y.n y.c (qN y.c w k+1) - stN y.n y.c (qN y.c w k):=fun k=>xN_len hc K.c6 K.len k
 refine child_path (x:=y.wkr w) (msgR_fast _ _ _ _) (K.wk w hw) Me (X:=xN y.n y.c y.ps w) (Y:=xN y.n y.c y.ps ((w+y.c - 1) % y.c)) hlen (xN_zero hc K.c6 hw).symm (fun k hk=>⟨xN_add hc K.c6 hw hk,?_⟩) (fun k h1 h2=>xN_pass hc K.c6 hw h1 h2) (fun k W v L hk hL=>?_) (fun k W v mb mo hk h=>?_) hkl hko hk ho hXk hXb (fun g W' L v hg M' hL' hoff=>?_)
 ·replace hk:k+1<y.c:=hk
  have h1:(xN y.n y.c y.ps ((w+y.c - 1) % y.c) k).length=_:=xN_len hc K.c6 K.len k
  rw[h1,qN_from hc K.c6 hw (show k<2*(y.c - 1) from by omega)]
  exact (pcL_len K.c6 (qN_lt hc w (k+1)) (K.len w hw)).symm
 ·refine ⟨(w+1) % y.c,Nat.mod_lt _ (by omega),rfl,L,?_,rfl,rfl⟩
  rw[pred_succ hc hw]
  exact hL
 ·obtain ⟨w',hw',e,L,hL,rfl,rfl⟩:=h
  obtain rfl:=K.inj w w' hw hw' e
  exact ⟨L,rfl,rfl,hL⟩
 ·unfold IsDone at hg
  subst hg
  refine ⟨rfl,fun hF=>⟨23,done_one wg_lib rfl (quits_tail _ _ (by simp)) W' hF⟩,?_⟩
  show y.Res (y.b0+w - y.b0) W' _ _
  rw[Nat.add_sub_cancel_left]
  obtain ⟨z,h1,h2⟩:=M'.T
  exact ⟨.inl (.inr (.inl rfl)),.inl rfl,M'.t_lt,z,_,h1,h2,M'.tl,fun p hp=>tsJ_all (F:=fun q=>partX y.n y.c y.ps q (y.c - 1)) hc K.c6 hw Me.tl hlen (fun k hk=>by show partX _ _ _ _ (min k (y.c - 1))=_;rw[Nat.min_eq_right (by omega)]) hp⟩
end
end Go.Proofs.Ytniloklglpchfai
/- Ways in company: a block is made; a cell of an own block is set. No program in sight. -/
namespace Go.Proofs.Ytniloklglpchfai
open Go Go.Conc
section
variable {E:Env} {Goal:Stand} {n:Nat} {b:Frame} {a:Act} {k:List Item} {cs:List Frame} {W:World} {kn ow:Nat→Prop} {m:Nat} {f:Nat→Value}
theorem Own1.make(h:Here W kn ow)(ob:Obj):Own1 kn ow (orP kn (fun B=>B=W.heap.size)) (orP ow (fun B=>B=W.heap.size)) W (W.alloc ob) #[]:=by
 refine ⟨rfl,Nat.le_refl _,by simp,rfl,fun B hB _=>(by show (W.heap.push ob)[B]?=W.heap[B]?;rw[Array.getElem?_push,if_neg (by omega)]),fun e he=>by simp at he,fun B q hB=>q.resolve_right (by omega),fun B q hB=>q.resolve_right (by omega),fun B q=>?_,fun B q=>q.imp (h.owk B) id⟩
 rcases q with q|q
 ·have:=h.knl B q
  simp
  omega
 ·simp
  omega
theorem path_slot_make(h:Here W kn ow)(hs:Slots a m f){ops:Array Oper}{i d:Nat}{rest:List Nat}{o:Oper}(v:Nat→Value)(ob:Obj)(ho:ops[i]?=some o)(hdst:o.dst=some d)(hd:d<m)(hw:∀t,Region.wanted o (yielded ops t)=true)(hk:b.kind≠.early)(hr:∀(a:Act) (W':World),(∀k,a.tmps.getD k undef=f k)→Ext kn W W'→(execOp a.eval o).run E.P W'=.ok (.value (v W'.heap.size)) (W'.alloc ob))(hli:∀(a:Act) (W':World),(∀k,a.tmps.getD k undef=f k)→∀e,e∈listed E.P b.fn a o W'→False)
  (hp:∀W' a',Ext kn W W'→Slots a' m (upF f d (v W'.heap.size))→∃ρ,Path E Goal n ρ (G (b.at a' (.inRegion ops rest::k)) cs) (W'.alloc ob) (orP kn (fun B=>B=W'.heap.size)) (orP ow (fun B=>B=W'.heap.size))):∃ρ,Path E Goal (n+1) ρ (G (b.at a (.inRegion ops (i::rest)::k)) cs) W kn ow:=by
 refine Path.hand rfl fun W' hx m'=>?_
 have h':Here W' kn ow:=⟨fun B q=>Nat.lt_of_lt_of_le (h.knl B q) hx.size,h.owk⟩
 refine ⟨_,_,#[],_,_,?_,rfl,Own1.make h' ob,hp W' _ hx (hs.put hd (v W'.heap.size))⟩
 rw[stepG_value ho (hw _) hk (hr a W' hs.at_ hx),Array.eq_empty_iff_forall_not_mem.2 fun e q=>hli a W' hs.at_ e q,hdst]
theorem path_set(h:Here W kn ow)(hs:Slots a m f){ops:Array Oper}{i:Nat}{rest:List Nat}{o:Oper}(ad:Addr)(v:Value)(hb:ow ad.block)(ho:ops[i]?=some o)(hdst:o.dst=none)(hw:∀t,Region.wanted o (yielded ops t)=true)(hk:b.kind≠.early)(hr:∀(a:Act) (W':World),(∀k,a.tmps.getD k undef=f k)→Ext kn W W'→(execOp a.eval o).run E.P W'=.ok .skip (W'.setCell ad v))(hli:∀(a:Act) (W':World),(∀k,a.tmps.getD k undef=f k)→Ext kn W W'→∀e,e∈listed E.P b.fn a o W'→e=⟨.cell ad,true,false⟩)
  (hp:∀W',Ext kn W W'→∃ρ,Path E Goal n ρ (G (b.at a (.inRegion ops rest::k)) cs) (W'.setCell ad v) kn ow):∃ρ,Path E Goal (n+1) ρ (G (b.at a (.inRegion ops (i::rest)::k)) cs) W kn ow:=by
 refine Path.hand rfl fun W' hx m'=>?_
 have hl:∀B,kn B→B<W'.heap.size:=fun B q=>Nat.lt_of_lt_of_le (h.knl B q) hx.size
 have hz:(W'.setCell ad v).heap.size=W'.heap.size:=by simp
 refine ⟨_,_,_,kn,ow,stepG_none ho (hw _) hk (hr a W' hs.at_ hx),rfl,⟨?_,?_,by omega,?_,fun B hB hob=>heap_setCell_other W' ad B v fun q=>hob (q▸hb),fun e he=>?_,fun B q _=>q,fun B q _=>q,fun B q=>by rw[hz];exact hl B q,h.owk⟩,by rw[hdst];exact hp W' hx⟩
 ·unfold World.setCell;split<;>rfl
 ·unfold World.setCell;split<;>exact Nat.le_refl _
 ·unfold World.setCell;split<;>rfl
 ·rw[hli a W' hs.at_ hx e he]
  exact .inl ⟨ad,true,rfl,by rw[hz];exact hl _ (h.owk _ hb),fun _=>⟨h.owk _ hb,fun _=>hb⟩⟩
end
end Go.Proofs.Ytniloklglpchfai
/- The group's Add and Wait are called. -/
namespace Go.Proofs.Ytniloklglpchfai
open Go Go.RowKit Go.Conc
section
variable {Wg:Nat} {b₀:Frame} {a₀:Act} {ops₀:Array Oper} {i₀:Nat} {rest₀:List Nat} {k₀:List Item} {cs:List Frame}
theorem wg_adds(w:World)(hF:ConcN.WgLive wgL.tWg Wg w):
  Goes Try.prog true (RG wgL.tWg Wg) ConcR.DC0 (StMk Try.prog wgL.tWg Wg (ConcR.mk .disable) (StAdd Try.prog wgL.tWg Wg (StMk Try.prog wgL.tWg Wg (ConcR.mk .enable) fun g _=>g=G (b₀.at (a₀.put ((ops₀[i₀]?).bind (·.dst)) (.tuple #[])) (.inRegion ops₀ rest₀::k₀)) cs))) 12
   (G (Frame.enter Try.prog wgL.add #[.pointer (some ⟨Wg,0,none⟩),.int .i64 1] .normal) (b₀.at a₀ (.inRegion ops₀ (i₀::rest₀)::k₀)::cs)) w:=by
 rw[enter_at (c:=(Lib.addFn wgL).body.getD .skip) _ wg_lib.f_add rfl]
 have e:(#[.pointer (some ⟨Wg,0,none⟩),.int .i64 1]:Array Value)++Array.replicate ((Lib.addFn wgL).ntmps - (#[.pointer (some ⟨Wg,0,none⟩),.int .i64 1]:Array Value).size) undef=#[.pointer (some ⟨Wg,0,none⟩),.int .i64 1,undef,undef,undef,undef,undef,undef,undef,undef,undef,undef,undef,undef,undef,undef,undef,undef,undef,undef,undef,undef,undef,undef,undef,undef,undef,undef,undef,undef,undef,undef,undef,undef,undef,undef,undef,undef,undef,undef,undef,undef,undef,undef,undef,undef,undef,undef,undef,undef,undef,undef,undef,undef,undef,undef,undef,undef,undef,undef,undef,undef,undef,undef,undef,undef,undef,undef,undef,undef,undef,undef,undef,undef,undef,undef,undef,undef,undef,undef,undef,undef,undef,undef,undef,undef,undef,undef,undef,undef,undef,undef,undef,undef,undef,undef,undef,undef,undef,undef,undef,undef,undef,undef,undef,undef,undef,undef,undef,undef,undef,undef,undef,undef,undef,undef,undef]:=by kernel_rfl
 rw[e]
 exact add_one wg_lib w hF
theorem wg_waits(w:World)(hF:ConcN.WgLive wgL.tWg Wg w):
  Goes Try.prog true (RG wgL.tWg Wg) ConcR.DC0 (StMk Try.prog wgL.tWg Wg (ConcR.mk .disable) (Head wgL Wg (b₀.at a₀ (.inRegion ops₀ (i₀::rest₀)::k₀)) cs)) 3
   (G (Frame.enter Try.prog wgL.wait #[.pointer (some ⟨Wg,0,none⟩)] .normal) (b₀.at a₀ (.inRegion ops₀ (i₀::rest₀)::k₀)::cs)) w:=by
 rw[enter_at (c:=(Lib.waitFn wgL).body.getD .skip) _ wg_lib.f_wait rfl]
 have e:(#[.pointer (some ⟨Wg,0,none⟩)]:Array Value)++Array.replicate ((Lib.waitFn wgL).ntmps - (#[.pointer (some ⟨Wg,0,none⟩)]:Array Value).size) undef=#[.pointer (some ⟨Wg,0,none⟩),undef,undef,undef,undef,undef,undef,undef,undef,undef,undef,undef,undef,undef,undef,undef,undef,undef,undef,undef,undef,undef,undef,undef,undef,undef,undef,undef,undef,undef,undef,undef,undef,undef,undef,undef,undef,undef,undef,undef,undef,undef,undef,undef,undef,undef,undef,undef,undef,undef,undef,undef,undef,undef,undef,undef,undef,undef,undef,undef,undef,undef,undef,undef,undef,undef,undef,undef,undef,undef,undef,undef,undef,undef,undef,undef,undef,undef,undef,undef,undef,undef,undef,undef]:=by kernel_rfl
 rw[e]
 exact wait_start wg_lib w hF
end
end Go.Proofs.Ytniloklglpchfai
