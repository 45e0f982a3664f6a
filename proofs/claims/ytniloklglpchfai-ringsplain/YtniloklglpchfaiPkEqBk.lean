/- Many that talk over channels: who takes part; steps of those who don't; a new one. No program in sight. -/
import Derived.Test.YtniloklglpchfaiPkEqTm
import Derived.Conc.WgGenN3
namespace Go.Proofs.Ytniloklglpchfai
open Go Go.Conc
theorem ext_at(kn:Nat→Prop)(W:World)(d:Nat):Ext kn W (W.at d):=⟨Nat.le_refl _,fun _ _ _=>rfl,rfl⟩
def inP (In:Nat→Prop) (i:Nat) (b:Prop):Nat→Prop:=fun k=>(k=i∧b)∨(k≠i∧In k)
section
variable {E:Env} {M:Msg} {Fin:Nat→Stand} {chs:List Nat} {cap rdr wtr:Nat→Nat} {Out Sh In:Nat→Prop} {gs:Array Goroutine} {W:World} {t:Trace} {kn ow:Who→Nat→Prop} {snt rcv:Nat→Nat} {sc:Nat→List Cm} {pk:Nat→Bool} {n:Nat→Nat} {ρ:Nat→Rho} {sl:Option (Nat×Nat)} {i:Nat} {g:Goroutine}
theorem Talk.at(T:Talk E M Fin chs cap rdr wtr Out Sh In gs W t kn ow snt rcv sc pk n ρ)(hM:M.Fast)(d:Nat):Talk E M Fin chs cap rdr wtr Out Sh In gs (W.at d) t kn ow snt rcv sc pk n ρ:=
 ⟨T.net.at hM d,T.room,T.fit,T.deaf,fun i hi=>(T.sit i hi).imp fun _ h=>⟨h.1,h.2.ext hM (ext_at _ W d)⟩,T.ord,T.park,T.full,T.off⟩
theorem Talk.set(T:Talk E M Fin chs cap rdr wtr Out Sh In gs W t kn ow snt rcv sc pk n ρ)(i:Nat)(b:Prop)(F:Stand)(l:List Cm)(n1:Nat)(ρ1:Rho)
  (hin:b→Deaf t i=0∧(∃g,gs[i]?=some g∧Path E (Run E M F l) n1 ρ1 g W (kn (.inl i)) (ow (.inl i)))∧Ord chs rdr wtr i l snt rcv) (hout:¬b→∀g,gs[i]?=some g→∀c,c∈chs→∀s,offersAt g c s=[]):
  Talk E M (upF Fin i F) chs cap rdr wtr Out Sh (inP In i b) gs W t kn ow snt rcv (upF sc i l) (upF pk i false) (upF n i n1) (upF ρ i ρ1):=by
 refine ⟨T.net,T.room,T.fit,fun k hk=>?_,fun k hk=>?_,fun k hk=>?_,fun k c j l' hk h1 h2=>?_,fun k c j l' hk h1 h2=>?_,fun k g hk hg=>?_⟩
 ·rcases hk with ⟨rfl,hb⟩|⟨_,hk⟩
  ·exact (hin hb).1
  ·exact T.deaf k hk
 ·rcases hk with ⟨rfl,hb⟩|⟨e,hk⟩
  ·obtain ⟨_,⟨g,h1,h2⟩,_⟩:=hin hb
   simp only[upF_self]
   exact ⟨g,h1,.inl ⟨rfl,h2⟩⟩
  ·simp only[upF_ne _ e]
   exact T.sit k hk
 ·rcases hk with ⟨rfl,hb⟩|⟨e,hk⟩
  ·rw[upF_self]
   exact (hin hb).2.2
  ·rw[upF_ne _ e]
   exact T.ord k hk
 ·rcases hk with ⟨rfl,hb⟩|⟨e,hk⟩
  ·rw[upF_self]at h1;cases h1
  ·rw[upF_ne _ e]at h1 h2
   exact T.park k c j l' hk h1 h2
 ·rcases hk with ⟨rfl,hb⟩|⟨e,hk⟩
  ·rw[upF_self]at h1;cases h1
  ·rw[upF_ne _ e]at h1 h2
   exact T.full k c j l' hk h1 h2
 ·by_cases e:k=i
  ·subst e
   exact hout (fun hb=>hk (.inl ⟨rfl,hb⟩)) g hg
  ·exact T.off k g (fun q=>hk (.inr ⟨e,q⟩)) hg
theorem Talk.calm(T:Talk E M Fin chs cap rdr wtr Out Sh In gs W t kn ow snt rcv sc pk n ρ)(hF:∀i,In i→∀g W kn ow,Fin i g W kn ow→g.status=.running){W1:World}(hch:∀c,c∈chs→W1.heap[c]?=W.heap[c]?)(k:Nat)(hk:In k)(P:Program)(a a':Goroutine):(gs[k]?).map (Conc.woken P a a' W1)=gs[k]?:=by
 obtain ⟨x,hx,hsit⟩:=T.sit k hk
 rw[hx,Option.map_some,hsit.woken (hF k hk) (T.klow _) (T.net.apt.own _) (fun b c j l hcl=>?_) P a a']
 have:=T.ord k hk
 rw[hcl]at this
 have hc:c∈chs:=by cases b<;>exact this.1
 obtain ⟨buf,q,_⟩:=T.chan hc
 exact ⟨_,buf,_,_,(hch c hc).trans q⟩
theorem Talk.book(T:Talk E M Fin chs cap rdr wtr Out Sh In gs W t kn ow snt rcv sc pk n ρ)(hM:M.Fast)(hF:∀i,In i→∀g W kn ow,Fin i g W kn ow→g.status=.running){Wg:Nat}(hsh:Sh Wg)(hi:¬In i)(hg:gs[i]?=some g){g1:Goroutine}{W1:World}{es:Array Event}
  (hs:stepG E.P (i==0) g W=.go g1 W1 es) (hev:∀e,e∈es→(∀a,(MemAct.ofEvent e).touch?=some a→blkOf a.loc=some Wg∧AtK i a∧OldOk t i Wg)∧(MemAct.ofEvent e).low W.heap.size) (hsz:W1.heap.size=W.heap.size) (hk:∀B,B≠Wg→W1.heap[B]?=W.heap[B]?) (hb:bare W1=bare W) (hoff:∀c,c∈chs→∀b,offersAt g1 c b=[]):
  ∃gs',runT E.P (crowd gs W sl) i=(.next (crowd gs' W1 sl),MemOp.ofEvents i g.frame.fn g.frame.place es)∧gs'.size=gs.size∧gs'[i]?=some g1∧(∀k,k≠i→gs'[k]?=(gs[k]?).map (Conc.woken E.P g g1 W1))∧
   Talk E M Fin chs cap rdr wtr Out Sh In gs' W1 (t++MemOp.ofEvents i g.frame.fn g.frame.place es) kn ow snt rcv sc pk n ρ:=by
 obtain ⟨gs',hr,hz,hgi,hgk⟩:=turn_own (sl:=sl) hg hs
 have hout:=T.net.sh Wg hsh
 have hne:∀k B,kn k B→B≠Wg:=fun k B q e=>(T.net.apt.low k B q).2 (e▸hout)
 have hch:∀c,c∈chs→W1.heap[c]?=W.heap[c]?:=fun c hc=>hk c (fun e=>(T.net.chan c hc).2.2.1 (e▸hsh))
 have hki:∀k,In k→k≠i:=fun k h e=>hi (e▸h)
 refine ⟨gs',hr,hz,hgi,hgk,T.net.group hM hsh hev hsz hk hb _ _,T.room,T.fit,fun k h=>?_,fun k h=>?_,T.ord,T.park,T.full,fun k x h hx c hc b=>?_⟩
 ·rw[Deaf_other t (fun e=>hki k h e.symm) _ (fun op hop=>by obtain ⟨e,_,rfl⟩:=Conc.mem_ofEvents hop;rfl)]
  exact T.deaf k h
 ·rw[hgk k (hki k h),T.calm hF hch k h]
  exact (T.sit k h).imp fun _ q=>⟨q.1,q.2.ext hM ⟨by rw[hsz];exact Nat.le_refl _,fun B q1 _=>hk B (hne _ B q1),hb⟩⟩
 ·by_cases e:k=i
  ·subst e
   rw[hgi]at hx
   obtain rfl:=Option.some.inj hx
   exact hoff c hc b
  ·rw[hgk k e]at hx
   cases hq:gs[k]? with
   |none=>rw[hq]at hx;cases hx
   |some y=>
    rw[hq,Option.map_some]at hx
    obtain rfl:=Option.some.inj hx
    exact offers_woken (T.off k y h hq c hc b)
theorem Net.spawn(h:Net M Out Sh W t kn ow chs cap snt rcv)(hM:M.Fast){i c:Nat}(hic:i≠c)(hi:Deaf t i=0)(hc:Deaf t c=0)(hn:∀B,¬kn (.inl c) B){k1 o1 kc oc:Nat→Prop}(hs:Split (kn (.inl i)) (ow (.inl i)) k1 o1 kc oc)(fn fn':FuncId)(pos pos':String):
  Net M Out Sh W (t++#[{ g:=i,fn,pos,act:=.go c },{ g:=c,fn:=fn',pos:=pos',act:=.start }]) (put (put kn (.inl i) k1) (.inl c) kc) (put (put ow (.inl i) o1) (.inl c) oc) chs cap snt rcv:=by
 have h1:=h.still (W1:=W) hM (u:=#[{ g:=i,fn,pos,act:=.go c },{ g:=c,fn:=fn',pos:=pos',act:=.start }]) (fun op hop=>(mute_go op hop).1) (fun op hop=>by
  simp only[List.mem_toArray,List.mem_cons,List.not_mem_nil,or_false]at hop
  rcases hop with rfl|rfl<;>trivial) rfl rfl
 have hl:∀B,kn (.inl i) B→B<W.heap.size∧¬Sh B:=fun B q=>⟨(h.apt.low _ B q).1,fun z=>(h.apt.low _ B q).2 (h.sh B z)⟩
 have hms:∀(f:Who→Nat→Prop) (x y:Nat→Prop) (m:Nat×Nat),put (put f (.inl i) x) (.inl c) y (.inr m)=f (.inr m):=fun f x y m=>by rw[put_off _ (inr_inl _ _),put_off _ (inr_inl _ _)]
 refine ⟨h1.safe.more (fun k B q _ _=>?_) (fun k B q _ _=>?_),h.apt.split (inl_ne hic) hn hs,h.sh,fun d hd=>?_,fun d j hj B q=>h.msg d j hj B (by rw[hms]at q;exact q)⟩
 ·by_cases e:k=c
  ·subst e
   rw[put_at]at q
   exact .inr fun a b e1 e2 e3=>by
    rcases touch_cases e1 with ⟨_,z⟩|⟨x,_,z2,z3,_⟩
    ·exact spawn_knows hi hc (h.safe.rd i B (hs.a2 B q) (hl B (hs.a2 B q)).1 (hl B (hs.a2 B q)).2 a b z e2 e3)
    ·rw[(mute_go x z2).1]at z3;cases z3
  ·rw[put_off _ (inl_ne e)]at q
   by_cases e2:k=i
   ·subst e2
    rw[put_at]at q
    exact .inl (hs.a1 B q)
   ·rw[put_off _ (inl_ne e2)]at q
    exact .inl q
 ·by_cases e:k=c
  ·subst e
   rw[put_at]at q
   have q':=hs.a2 B (hs.c2 B q)
   exact .inr fun a b e1 e2=>by
    rcases touch_cases e1 with ⟨_,z⟩|⟨x,_,z2,z3,_⟩
    ·exact spawn_knows hi hc (h.safe.wr i B (hs.b2 B q) (hl B q').1 (hl B q').2 a b z e2)
    ·rw[(mute_go x z2).1]at z3;cases z3
  ·rw[put_off _ (inl_ne e)]at q
   by_cases e2:k=i
   ·subst e2
    rw[put_at]at q
    exact .inl (hs.b1 B q)
   ·rw[put_off _ (inl_ne e2)]at q
    exact .inl q
 ·obtain ⟨c1,c2,c3,buf,c4,c5,c6⟩:=h1.chan d hd
  refine ⟨c1,c2,c3,buf,c4,c5,fun k v hk=>?_⟩
  rw[hms,hms]
  exact c6 k v hk
theorem OldOk.spawn{i c B:Nat}(h:OldOk t i B)(hi:Deaf t i=0)(hc:Deaf t c=0)(fn fn':FuncId)(pos pos':String):OldOk (t++#[{ g:=i,fn,pos,act:=.go c },{ g:=c,fn:=fn',pos:=pos',act:=.start }]) c B:=fun k x a h1 h2 h3=>by
 rcases getElem?_append_cases h1 with ⟨_,q⟩|⟨_,q⟩
 ·exact (h k x a q h2 h3).imp id fun z=>spawn_knows hi hc z
 ·rw[(mute_go x q).1]at h2;cases h2
theorem Talk.spawn(T:Talk E M Fin chs cap rdr wtr Out Sh In gs W t kn ow snt rcv sc pk n ρ)(hM:M.Fast)(h0:In 0)(hpk:pk 0=false)(hg:gs[0]?=some g)(hdc:Deaf t gs.size=0)(hn:∀B,¬kn (.inl gs.size) B){g1 child:Goroutine}(hs:stepG E.P true g W=.spawn g1 child W #[]){k1 o1 kc oc:Nat→Prop}(hsp:Split (kn (.inl 0)) (ow (.inl 0)) k1 o1 kc oc)
  {F0:Stand} {l0 l:List Cm} {n0 n1:Nat} {ρ0 ρ1:Rho} (hp0:Path E (Run E M F0 l0) n0 ρ0 g1 W k1 o1) (ho0:Ord chs rdr wtr 0 l0 snt rcv) (hpc:Path E (Run E M (Fin gs.size) l) n1 ρ1 child W kc oc) (hoc:Ord chs rdr wtr gs.size l snt rcv):
  ∃gs' u,runT E.P (crowd gs W sl) 0=(.next (crowd gs' W sl),u)∧gs'.size=gs.size+1∧gs'[0]?=some g1∧gs'[gs.size]?=some child∧(∀k,k≠0→k≠gs.size→gs'[k]?=gs[k]?)∧(∃fn fn' pos pos',u=#[{ g:=0,fn,pos,act:=.go gs.size },{ g:=gs.size,fn:=fn',pos:=pos',act:=.start }])∧
   Talk E M (upF Fin 0 F0) chs cap rdr wtr Out Sh (fun k=>k=gs.size∨In k) gs' W (t++u) (put (put kn (.inl 0) k1) (.inl gs.size) kc) (put (put ow (.inl 0) o1) (.inl gs.size) oc) snt rcv (upF (upF sc 0 l0) gs.size l) (upF pk gs.size false) (upF (upF n 0 n0) gs.size n1) (upF (upF ρ 0 ρ0) gs.size ρ1):=by
 have hlt:=lt_of_at hg
 have h0c:0≠gs.size:=by omega
 have hr:=runT_crowd_spawn (P:=E.P) (sl:=sl) (i:=0) hg (by simpa using hs)
 have hu:((MemOp.ofEvents 0 g.frame.fn g.frame.place #[]).push { g:=0,fn:=g.frame.fn,pos:=g.frame.place,act:=.go gs.size }|>.push { g:=gs.size,fn:=child.frame.fn,pos:=g.frame.place,act:=.start })=#[{ g:=0,fn:=g.frame.fn,pos:=g.frame.place,act:=.go gs.size },{ g:=gs.size,fn:=child.frame.fn,pos:=g.frame.place,act:=.start }]:=by simp[MemOp.ofEvents]
 rw[hu]at hr
 have hg0:((gs.setIfInBounds 0 g1).push child)[0]?=some g1:=by
  rw[Array.getElem?_push_lt (by simpa using hlt),←Array.getElem?_eq_getElem]
  exact set_at hg g1
 have hgc:((gs.setIfInBounds 0 g1).push child)[gs.size]?=some child:=by
  have:(gs.setIfInBounds 0 g1).size=gs.size:=by simp
  rw[←this,Array.getElem?_push_size]
 have hgk:∀k,k≠0→k≠gs.size→((gs.setIfInBounds 0 g1).push child)[k]?=gs[k]?:=fun k hk0 hkc=>by
  rcases Nat.lt_or_ge k gs.size with z|z
  ·rw[Array.getElem?_push_lt (by simpa using z),←Array.getElem?_eq_getElem]
   exact set_off g1 hk0
  ·rw[Array.getElem?_eq_none (by simp;omega),Array.getElem?_eq_none z]
 have hk0:∀(f:Who→Nat→Prop) (x y:Nat→Prop),put (put f (.inl 0) x) (.inl gs.size) y (.inl 0)=x:=fun f x y=>by rw[put_off _ (inl_ne h0c),put_at]
 refine ⟨_,_,hr,by simp,hg0,hgc,hgk,⟨_,_,_,_,rfl⟩,T.net.spawn hM h0c (T.deaf 0 h0) hdc hn hsp _ _ _ _,T.room,T.fit,fun k hk=>?_,fun k hk=>?_,fun k hk=>?_,fun k c j l' hk h1 h2=>?_,fun k c j l' hk h1 h2=>?_,fun k x hk hx=>?_⟩
 ·rw[mute_go.deaf]
  rcases hk with rfl|hk
  ·exact hdc
  ·exact T.deaf k hk
 ·by_cases e:k=gs.size
  ·subst e
   simp only[upF_self,put_at,upF_ne _ (fun e=>h0c e.symm)]
   exact ⟨child,hgc,.inl ⟨rfl,hpc⟩⟩
  ·have hk:In k:=hk.resolve_left e
   simp only[upF_ne _ e]
   by_cases e0:k=0
   ·subst e0
    simp only[upF_self,hk0]
    exact ⟨g1,hg0,.inl ⟨hpk,hp0⟩⟩
   ·simp only[upF_ne _ e0,put_off _ (inl_ne e),put_off _ (inl_ne e0)]
    obtain ⟨x,hx,hsit⟩:=T.sit k hk
    exact ⟨x,by rw[hgk k e0 e];exact hx,hsit⟩
 ·by_cases e:k=gs.size
  ·subst e
   rw[upF_self]
   exact hoc
  ·rw[upF_ne _ e]
   by_cases e0:k=0
   ·subst e0
    rw[upF_self]
    exact ho0
   ·rw[upF_ne _ e0]
    exact T.ord k (hk.resolve_left e)
 ·by_cases e:k=gs.size
  ·subst e
   rw[upF_self]at h1;cases h1
  ·rw[upF_ne _ e]at h1 h2
   by_cases e0:k=0
   ·subst e0
    rw[hpk]at h1;cases h1
   ·rw[upF_ne _ e0]at h2
    exact T.park k c j l' (hk.resolve_left e) h1 h2
 ·by_cases e:k=gs.size
  ·subst e
   rw[upF_self]at h1;cases h1
  ·rw[upF_ne _ e]at h1 h2
   by_cases e0:k=0
   ·subst e0
    rw[hpk]at h1;cases h1
   ·rw[upF_ne _ e0]at h2
    exact T.full k c j l' (hk.resolve_left e) h1 h2
 ·have e:k≠gs.size:=fun e=>hk (.inl e)
  have hk':¬In k:=fun q=>hk (.inr q)
  exact T.off k x hk' (by rw[←hgk k (fun e=>hk' (e▸h0)) e];exact hx)
end
end Go.Proofs.Ytniloklglpchfai
/- A group's Add(1), in whatever company: its steps up to the next place where the group is looked at. No program in sight. -/
namespace Go.Proofs.Ytniloklglpchfai
open Go Go.Conc Go.ConcN Go.RowKit Go.Conc.Lib Go.ConcR.Gen Go.ConcN.Gen
open Go.ConcR (KK WgAt stA smA rd wr mk DC0)
def RG (ty:TypeId) (Wg:Nat) (w w₁:World):Prop:=WgLive ty Wg w→WgLive ty Wg w₁
theorem rg_rely{ty:TypeId}{Wg:Nat}{w w₁:World}(h:WgLive ty Wg w)(r:RG ty Wg w w₁):WgLive ty Wg w₁:=r h
section
variable (P:Program) (ty:TypeId) (Wg:Nat)
def StMk (e:Event) (Next:Goroutine→World→Prop) (g:Goroutine) (w:World):Prop:=
 g.status=.running∧∃g',stepG P true g w=.go g' w #[e]∧∃m,Goes P true (RG ty Wg) DC0 Next m g' w
def StAdd (Next:Goroutine→World→Prop) (g:Goroutine) (w:World):Prop:=
 g.status=.running∧∀v:Nat,v<2147483647→WgAt ty Wg w (v*KK) 0→∃g',stepG P true g w=.go g' (w.setCell (stA Wg) (.int .u64 ((v+1)*KK))) #[rd (stA Wg),wr (stA Wg)]∧
  (v=0→∃m,Goes P true (RG ty Wg) DC0 (StMk P ty Wg ⟨.mark (.read ⟨Wg,1,none⟩),false,true⟩ Next) m g' (w.setCell (stA Wg) (.int .u64 ((v+1)*KK))))∧
  (v≠0→∃m,Goes P true (RG ty Wg) DC0 Next m g' (w.setCell (stA Wg) (.int .u64 ((v+1)*KK))))
end
section
variable {L:WgLink} {Wg:Nat} {b₀:Frame} {a₀:Act} {ops₀:Array Oper} {i₀:Nat} {rest₀:List Nat} {k₀:List Item} {cs:List Frame}
set_option maxRecDepth 100000 in
set_option maxHeartbeats 8000000 in
theorem add_one{P:Program}(H:WgLib P L)(w:World)(hF:WgLive L.tWg Wg w):
  Goes P true (RG L.tWg Wg) DC0 (StMk P L.tWg Wg (mk .disable) (StAdd P L.tWg Wg (StMk P L.tWg Wg (mk .enable) fun g _=>g=G (b₀.at (a₀.put ((ops₀[i₀]?).bind (·.dst)) (.tuple #[])) (.inRegion ops₀ rest₀::k₀)) cs))) 12
   (G ((base L.add).at ⟨#[.pointer (some ⟨Wg,0,none⟩),.int .i64 1,undef,undef,undef,undef,undef,undef,undef,undef,undef,undef,undef,undef,undef,undef,undef,undef,undef,undef,undef,undef,undef,undef,undef,undef,undef,undef,undef,undef,undef,undef,undef,undef,undef,undef,undef,undef,undef,undef,undef,undef,undef,undef,undef,undef,undef,undef,undef,undef,undef,undef,undef,undef,undef,undef,undef,undef,undef,undef,undef,undef,undef,undef,undef,undef,undef,undef,undef,undef,undef,undef,undef,undef,undef,undef,undef,undef,undef,undef,undef,undef,undef,undef,undef,undef,undef,undef,undef,undef,undef,undef,undef,undef,undef,undef,undef,undef,undef,undef,undef,undef,undef,undef,undef,undef,undef,undef,undef,undef,undef,undef,undef,undef,undef,undef,undef],[]⟩ [.code (body_add L)]) (b₀.at a₀ (.inRegion ops₀ (i₀::rest₀)::k₀)::cs)) w:=by
 lib_facts
 simp only[body_add,addFn,Option.getD_some]
 u_c stepG_seq rg_rely hF
 u_cond true rg_rely hF
 iterate 2 (u_c stepG_seq rg_rely hF)
 u_reg rg_rely hF
 iterate 2 (u_op rg_rely hF)
 u_c stepG_region_end rg_rely hF
 u_cond false rg_rely hF
 u_c stepG_skip rg_rely hF
 u_c stepG_seq rg_rely hF
 u_reg rg_rely hF
 refine Goes.stop (fun w1 h1=>?_)
 replace hF:=rg_rely hF h1
 clear h1
 refine ⟨rfl,_,stepG_mark0 .disable (by simp) rfl rfl (by k_ne) rfl H.f_disable (x_disable_n L) (x_disable_b L) (x_disable_x L) (x_disable_f L),40,?_⟩
 walk_nrm
 u_c stepG_region_end rg_rely hF
 u_reg rg_rely hF
 u_defer rg_rely hF
 u_c stepG_region_end rg_rely hF
 u_c stepG_seq rg_rely hF
 u_reg rg_rely hF
 u_op rg_rely hF
 u_c stepG_region_end rg_rely hF
 iterate 2 (u_c stepG_seq rg_rely hF)
 u_reg rg_rely hF
 u_bub rg_rely hF
 u_c stepG_region_end rg_rely hF
 u_cond false rg_rely hF
 u_c stepG_skip rg_rely hF
 u_c stepG_seq rg_rely hF
 u_reg rg_rely hF
 iterate 6 (u_op rg_rely hF)
 u_call H.f_uAdd (nm_uAdd L) uAddFn rg_rely hF
 u_c stepG_seq rg_rely hF
 u_reg rg_rely hF
 u_op rg_rely hF
 u_c stepG_region_end rg_rely hF
 u_c stepG_seq rg_rely hF
 u_reg rg_rely hF
 iterate 4 (u_op rg_rely hF)
 refine Goes.stop (fun w2 h2=>?_)
 replace hF:=rg_rely hF h2
 clear h2
 refine ⟨rfl,fun v hv hw=>?_⟩
 rcases Nat.eq_zero_or_pos v with rfl|hvp
 ·replace hw:WgAt L.tWg Wg w2 0 0:=by simpa using hw
  have z:(((0:Nat):Int)+1)*KK=KK:=by simp
  rw[z]
  have e0:IntKind.u64.wrap (0+4294967296)=KK:=by decide
  refine ⟨_,(stepG_add_atomic rfl rfl (by k_ne) rfl H.f_addU64 (x_addU64_n L) (x_addU64_b L) (x_addU64_x L) .u64 (x_addU64_f L) rfl rfl hw.cellSt (hw.thaw 0)).trans (by rw[e0];rfl),fun _=>⟨60,?_⟩,fun q=>absurd rfl q⟩
  replace hF:WgLive L.tWg Wg (w2.setCell (stA Wg) (.int .u64 KK)):=⟨_,_,hw.setSt _⟩
  clear hw
  simp only[KK]at hF ⊢
  walk_nrm
  u_op rg_rely hF
  u_c stepG_region_end rg_rely hF
  u_c stepG_ret' rg_rely hF
  u_leave1 H.f_uAdd rg_rely hF
  u_op rg_rely hF
  u_c stepG_region_end rg_rely hF
  iterate 2 (u_c stepG_seq rg_rely hF)
  u_reg rg_rely hF
  iterate 4 (u_op rg_rely hF)
  iterate 2 (u_skip rg_rely hF)
  u_op rg_rely hF
  u_c stepG_region_end rg_rely hF
  u_cond false rg_rely hF
  u_c stepG_skip rg_rely hF
  u_c stepG_seq rg_rely hF
  u_reg rg_rely hF
  iterate 4 (u_op rg_rely hF)
  u_c stepG_region_end rg_rely hF
  u_c stepG_seq rg_rely hF
  u_reg rg_rely hF
  iterate 4 (u_op rg_rely hF)
  u_c stepG_region_end rg_rely hF
  iterate 2 (u_c stepG_seq rg_rely hF)
  u_reg rg_rely hF
  iterate 10 (u_op rg_rely hF)
  u_c stepG_region_end rg_rely hF
  u_cond true rg_rely hF
  u_reg rg_rely hF
  iterate 3 (u_op rg_rely hF)
  u_conv H.underlying_tPU32 H.room_tU32 (WgLive.cell1 hF).choose_spec rg_rely hF
  refine Goes.stop (fun w3 h3=>?_)
  replace hF:=rg_rely hF h3
  clear h3
  refine ⟨rfl,_,stepG_markAt .read (by simp) rfl rfl (by k_ne) rfl H.f_raceRead (x_raceRead_n L) (x_raceRead_b L) (x_raceRead_x L) (x_raceRead_f L) (ad:=⟨Wg,1,none⟩) (by simp[Act.eval]),60,?_⟩
  walk_nrm
  u_c stepG_region_end rg_rely hF
  iterate 2 (u_c stepG_seq rg_rely hF)
  u_reg rg_rely hF
  iterate 2 (u_op rg_rely hF)
  u_c stepG_region_end rg_rely hF
  u_cond false rg_rely hF
  u_c stepG_skip rg_rely hF
  iterate 2 (u_c stepG_seq rg_rely hF)
  u_reg rg_rely hF
  iterate 3 (u_op rg_rely hF)
  iterate 2 (u_skip rg_rely hF)
  iterate 2 (u_op rg_rely hF)
  iterate 4 (u_skip rg_rely hF)
  u_op rg_rely hF
  u_c stepG_region_end rg_rely hF
  u_cond false rg_rely hF
  u_c stepG_skip rg_rely hF
  iterate 2 (u_c stepG_seq rg_rely hF)
  u_reg rg_rely hF
  iterate 3 (u_op rg_rely hF)
  iterate 2 (u_skip rg_rely hF)
  u_op rg_rely hF
  u_c stepG_region_end rg_rely hF
  u_cond true rg_rely hF
  u_c stepG_ret' rg_rely hF
  refine Goes.stop (fun w4 h4=>?_)
  replace hF:=rg_rely hF h4
  clear h4
  refine ⟨rfl,_,stepG_unwind_entry (v:=.tuple #[]) (evs:=#[mk .enable]) rfl H.f_enable (x_enable_n L) (x_enable_b L) (x_enable_x L) (x_enable_f L) (by simp[Extern.Race.none_]) (by simp[mk]) (by simp[mk]),1,?_⟩
  u_leave0 H.f_add rg_rely hF
  exact Goes.stop fun _ _=>rfl
 ·obtain ⟨V,hV⟩:∃V:Int,V=(v:Int)+1:=⟨_,rfl⟩
  obtain ⟨S,hS⟩:∃S:Int,S=V*KK:=⟨_,rfl⟩
  have eS:IntKind.u64.wrap ((v:Int)*KK+4294967296)=S:=by rw[IntKind.wrap_u64,hS,hV];simp only[KK];omega
  rw[←hV,←hS]
  have a1:S / 4294967296=V:=by rw[hS];simp only[KK];omega
  have b1:bits .and .u64 S 2147483648=0:=by rw[hS,hV];have:=st_flag (v+1) 0 (by omega) (by omega);simpa [KK] using this
  have b2:bits .and .u64 S 2147483647=0:=by rw[hS,hV];have:=st_waiters (v+1) 0 (by omega) (by omega);simpa [KK] using this
  have c1:IntKind.i32.wrap V=V:=by rw[IntKind.wrap_i32];omega
  have hV1:1<V:=by omega
  have hV2:V<2147483648:=by omega
  have q1:(V==1)=false:=by simp;omega
  have q2:decide (V=1)=false:=decide_eq_false (by omega)
  have q3:decide (V<0)=false:=decide_eq_false (by omega)
  have q4:decide (0<V)=true:=decide_eq_true (by omega)
  have q5:(V==0)=false:=by simp;omega
  have q6:decide (V=0)=false:=decide_eq_false (by omega)
  refine ⟨_,(stepG_add_atomic rfl rfl (by k_ne) rfl H.f_addU64 (x_addU64_n L) (x_addU64_b L) (x_addU64_x L) .u64 (x_addU64_f L) rfl rfl hw.cellSt (hw.thaw 0)).trans (by rw[eS];rfl),fun q=>absurd q (by omega),fun _=>⟨110,?_⟩⟩
  replace hF:WgLive L.tWg Wg (w2.setCell (stA Wg) (.int .u64 S)):=⟨_,_,hw.setSt _⟩
  clear hw hS hV eS
  walk_nrm
  u_op rg_rely hF
  u_c stepG_region_end rg_rely hF
  u_c stepG_ret' rg_rely hF
  u_leave1 H.f_uAdd rg_rely hF
  u_op rg_rely hF
  u_c stepG_region_end rg_rely hF
  iterate 2 (u_c stepG_seq rg_rely hF)
  u_reg rg_rely hF
  iterate 4 (u_op rg_rely hF)
  iterate 2 (u_skip rg_rely hF)
  u_op rg_rely hF
  u_c stepG_region_end rg_rely hF
  u_cnd false rg_rely hF
  u_c stepG_skip rg_rely hF
  u_c stepG_seq rg_rely hF
  u_reg rg_rely hF
  iterate 4 (u_op rg_rely hF)
  u_c stepG_region_end rg_rely hF
  u_c stepG_seq rg_rely hF
  u_reg rg_rely hF
  iterate 4 (u_op rg_rely hF)
  u_c stepG_region_end rg_rely hF
  iterate 2 (u_c stepG_seq rg_rely hF)
  u_reg rg_rely hF
  iterate 10 (u_op rg_rely hF)
  u_c stepG_region_end rg_rely hF
  u_cnd false rg_rely hF
  u_c stepG_skip rg_rely hF
  iterate 2 (u_c stepG_seq rg_rely hF)
  u_reg rg_rely hF
  iterate 2 (u_op rg_rely hF)
  u_c stepG_region_end rg_rely hF
  u_cnd false rg_rely hF
  u_c stepG_skip rg_rely hF
  iterate 2 (u_c stepG_seq rg_rely hF)
  u_reg rg_rely hF
  iterate 3 (u_op rg_rely hF)
  iterate 2 (u_skip rg_rely hF)
  iterate 2 (u_op rg_rely hF)
  iterate 4 (u_skip rg_rely hF)
  u_op rg_rely hF
  u_c stepG_region_end rg_rely hF
  u_cnd false rg_rely hF
  u_c stepG_skip rg_rely hF
  iterate 2 (u_c stepG_seq rg_rely hF)
  u_reg rg_rely hF
  iterate 3 (u_op rg_rely hF)
  iterate 2 (u_skip rg_rely hF)
  u_op rg_rely hF
  u_c stepG_region_end rg_rely hF
  u_cnd true rg_rely hF
  u_c stepG_ret' rg_rely hF
  refine Goes.stop (fun w3 h3=>?_)
  replace hF:=rg_rely hF h3
  clear h3
  refine ⟨rfl,_,stepG_unwind_entry (v:=.tuple #[]) (evs:=#[mk .enable]) rfl H.f_enable (x_enable_n L) (x_enable_b L) (x_enable_x L) (x_enable_f L) (by simp[Extern.Race.none_]) (by simp[mk]) (by simp[mk]),1,?_⟩
  u_leave0 H.f_add rg_rely hF
  exact Goes.stop fun _ _=>rfl
end
end Go.Proofs.Ytniloklglpchfai
