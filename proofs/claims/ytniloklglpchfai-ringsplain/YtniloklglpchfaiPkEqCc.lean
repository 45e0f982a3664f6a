/- Ways in company: what may be met, by reckoning; steps by hand; calls. No program in sight. -/
import Derived.Test.YtniloklglpchfaiPkEqXq
import Derived.Test.YtniloklglpchfaiPkEqCa
import Derived.Test.YtniloklglpchfaiPkPlain
import Derived.Test.YtniloklglpchfaiRows
import Derived.WalkKit
namespace Go.Proofs.Ytniloklglpchfai
open Go
def envB (P:Program) (fl gl:List Nat):Bool:=
 fl.all (fun f=>gl.contains f&&(match P.funcs[f]? with
  |some fn=>(match fn.body with
   |some b=>cdB P fl.contains b
   | none => false) && !(fn.name == "runtime.NumGoroutine")
  |none=>false))&&gl.all (fun f=>(P.funcs[f]?).isSome)
def mkE (P:Program) (fl gl:List Nat):Env:=⟨P,fun f=>fl.contains f=true,fun f=>gl.contains f=true,fun k=>cdB P fl.contains k=true⟩
theorem mkE_ev{P:Program}{fl gl:List Nat}(h:envB P fl gl=true){c:Cx}(h1:c.P=P)(h2:c.F=fun f=>fl.contains f=true)(h3:c.G=fun f=>gl.contains f=true)(h4:c.C=fun k=>cdB P fl.contains k=true)(hg:GloOk c):Ev1 c:=by
 unfold envB at h
 simp only[Bool.and_eq_true,List.all_eq_true]at h
 obtain ⟨hf,hgl⟩:=h
 refine ⟨⟨hg,fun f hF=>?_,fun f hG=>?_,fun f hF=>?_⟩,fun k hk=>?_⟩
 ·rw[h2]at hF
  rw[h3]
  exact (hf f (List.contains_iff_mem.1 hF)).1
 ·rw[h3]at hG
  have:=hgl f (List.contains_iff_mem.1 hG)
  rw[h1]
  exact Option.isSome_iff_exists.1 this
 ·rw[h2]at hF
  have:=(hf f (List.contains_iff_mem.1 hF)).2
  rw[h1]
  split at this
  ·next fn hfn=>
   rw[Bool.and_eq_true]at this
   obtain ⟨q1,q2⟩:=this
   split at q1
   ·next b hb=>exact ⟨fn,b,hfn,hb,by simpa using q2,by rw[h4];exact q1⟩
   ·cases q1
  ·cases this
 ·rw[h4]at hk
  exact cdB_ok h1 (fun f q=>by rw[h2];exact q) (fun k q=>by rw[h4];exact q) hk
def pcx (E:Env) (W:World) (kn ow ch:Nat→Prop):Cx:={ P:=E.P,F:=E.F,G:=E.G,r:=id,own:=fun B=>ow B∨W.heap.size≤B,ob:=fun B=>B<W.heap.size∧¬kn B,ch:=ch,C:=E.C,kt:=[trapI],lim:=fun _=>True,base:=W }
structure Geo (P:Program) (W:World) (kn ow ch:Nat→Prop):Prop where
 glo:P.globals.size≤W.heap.size
 kng:∀B,kn B→P.globals.size≤B
 knl:∀B,kn B→B<W.heap.size
 owk:∀B,ow B→kn B
 chl:∀B,ch B→B<W.heap.size
theorem pcx_fit{P:Program}{fl gl:List Nat}(h:envB P fl gl=true){W:World}{kn ow ch:Nat→Prop}(g:Geo P W kn ow ch):(mkE P fl gl).Fit (pcx (mkE P fl gl) W kn ow ch):=by
 have hgl:∀(r:Nat→Nat) (V:World),GloOk ((pcx (mkE P fl gl) W kn ow ch).re r V):=fun r V b hb=>⟨Nat.lt_of_lt_of_le hb g.glo,fun q=>absurd hb (Nat.not_lt.2 (g.kng b q))⟩
 refine ⟨rfl,fun _=>trivial,fun r V=>mkE_ev h rfl rfl rfl rfl (hgl r V),fun r V N=>mkE_ev h rfl rfl rfl rfl (fun b hb=>.inl (hgl r V b hb)),fun r V=>⟨trapI,[],rfl,fun i hi e=>?_⟩,fun b q z=>?_⟩
 ·cases i<;>simp[rnI,trapI]at e
  exact hi
 ·rcases q with q|q
  ·exact z.2 (g.owk b q)
  ·exact absurd z.1 (Nat.not_lt.2 q)
theorem pcx_kb{E:Env}{W:World}{kn ow ch:Nat→Prop}(hk:∀B,kn B→B<W.heap.size):Kb (pcx E W kn ow ch) W=kn:=by
 funext B
 refine propext ⟨fun ⟨⟨b,h1,h2⟩,h3⟩=>?_,fun h=>⟨⟨B,fun q=>q.2 h,rfl⟩,hk B h⟩⟩
 have h2:b=B:=h2
 subst h2
 exact Classical.byContradiction fun q=>h1 ⟨h3,q⟩
theorem pcx_ob{E:Env}{W:World}{kn ow ch:Nat→Prop}(hk:∀B,kn B→B<W.heap.size)(ho:∀B,ow B→kn B):Ob (pcx E W kn ow ch) W=ow:=by
 funext B
 refine propext ⟨fun ⟨⟨b,h1,h2,h3⟩,h4⟩=>?_,fun h=>⟨⟨B,.inl h,fun q=>q.2 (ho B h),rfl⟩,hk B (ho B h)⟩⟩
 have h3:b=B:=h3
 subst h3
 rcases h1 with q|q
 ·exact q
 ·omega
def KV (kn ch:Nat→Prop):Value→Prop
 |.int _ _=>True
 |.bool _=>True
 |.string _=>True
 |.nilIface=>True
 |.pointer a=>∀x,a=some x→kn x.block
 |.slice a _ _=>∀x,a=some x→kn x.block∧x.spot=none
 |.chan a=>∀x,a=some x→ch x
 |_=>False
theorem KV.ok{E:Env}{W:World}{kn ow ch:Nat→Prop}{N:Nat}(hl:∀B,kn B→B<N):∀{v:Value},KV kn ch v→okV ((pcx E W kn ow ch).bnd N) v
 |.int _ _,_=>by simp[okV]
 |.bool _,_=>by simp[okV]
 |.string _,_=>by simp[okV]
 |.nilIface,_=>by simp[okV]
 |.pointer a,h=>by
  simp only[okV]
  intro x hx q
  have hk:kn x.block:=h x hx
  rcases q with q|q
  ·exact q.2 hk
  ·have:=hl _ hk;omega
 |.slice a _ _,h=>by
  simp only[okV]
  refine .inl ⟨fun x hx q=>?_,fun x hx=>(h x hx).2⟩
  have hk:kn x.block:=(h x hx).1
  rcases q with q|q
  ·exact q.2 hk
  ·have:=hl _ hk;omega
 |.chan a,h=>by
  simp only[okV]
  intro x hx
  exact .inl (h x hx)
theorem KV.mono{kn kn' ch ch':Nat→Prop}(h1:∀B,kn B→kn' B)(h2:∀B,ch B→ch' B):∀{v:Value},KV kn ch v→KV kn' ch' v
 |.int _ _,_=>trivial
 |.bool _,_=>trivial
 |.string _,_=>trivial
 |.nilIface,_=>trivial
 |.pointer _,h=>fun x hx=>h1 _ (h x hx)
 |.slice _ _ _,h=>fun x hx=>⟨h1 _ (h x hx).1,(h x hx).2⟩
 |.chan _,h=>fun x hx=>h2 _ (h x hx)
theorem KV.rn{kn ch:Nat→Prop}:∀{v:Value},KV kn ch v→rnV id v=v
 |.int _ _,_=>by simp[rnV]
 |.bool _,_=>by simp[rnV]
 |.string _,_=>by simp[rnV]
 |.nilIface,_=>by simp[rnV]
 |.pointer a,_=>by simp only[rnV];congr;cases a<;>rfl
 |.slice a _ k,h=>by simp only[rnV];rw[rnS_id k fun x hx=>(h x hx).2]
 |.chan a,_=>by simp only[rnV];congr;cases a<;>rfl
theorem KV.rns{kn ch:Nat→Prop}{x:Array Value}(h:∀v∈x,KV kn ch v):x.map (rnV id)=x:=
 (Array.map_congr_left fun v hv=>(h v hv).rn).trans (by simp)
theorem Stands.back{E:Env}{W:World}{kn ow ch:Nat→Prop}{s:Value→Value}(hs:Stands ((pcx E W kn ow ch).bnd W.heap.size) s)(hc:∀B,ch B→B<W.heap.size)(r:Nat→Nat)(hr:∀b,b<W.heap.size→r b=b)(v:Value):rnV r (s v)=v:=by
 rw[rnV_congr (c:=(pcx E W kn ow ch).bnd W.heap.size) (r2:=r) (fun b hb=>?_) (s v) (hs v).1]
 ·exact (hs v).2.1
 ·refine hr b ?_
  rcases hb with hb|hb
  ·rcases Nat.lt_or_ge b W.heap.size with q|q
   ·exact q
   ·exact absurd (.inr q) hb
  ·exact hc b hb
def Alone (W:World) (kn ow ch:Nat→Prop) (w:World):Prop:=∃σ s,(∀v,KV kn ch v→s v=v)∧(∀r:Nat→Nat,(∀b,b<W.heap.size→r b=b)→∀v,rnV r (s v)=v)∧(∀a,∃b,s (.slice (some a) 0 0)=.slice (some b) 0 0)∧w=@hereW (fun B=>ow B∨W.heap.size≤B) (fun _=>Classical.propDecidable _) s W σ
structure Over (P:Program) (fl gl:List Nat) (W:World) (kn ow ch:Nat→Prop) (r:Nat→Nat) (V w W':World):Prop where
 old:∀b,b<W.heap.size→r b=b
 rl:Rl (((pcx (mkE P fl gl) W kn ow ch).re r V).bnd w.heap.size) w W'
def Rdy (E:Env) (W:World) (kn ow ch:Nat→Prop):Prop:=∀s,Stands ((pcx E W kn ow ch).bnd W.heap.size) s→@Ready (pcx E W kn ow ch) (fun _=>Classical.propDecidable _) s W
def knB (W W':World) (kn:Nat→Prop) (r:Nat→Nat):Nat→Prop:=fun B=>B<W'.heap.size∧∃b,(W.heap.size≤b∨kn b)∧r b=B
theorem Path.mono{E:Env}{Goal:Stand}:∀{n n':Nat},n≤n'→∀{ρ:Rho} {g:Goroutine} {W:World} {kn ow:Nat→Prop},Path E Goal n ρ g W kn ow→Path E Goal n' ρ g W kn ow
 |0,_,_,_,_,_,_,_,h=>.done h
 |n+1,0,hl,_,_,_,_,_,_=>by omega
 |n+1,n'+1,hl,ρ,g,W,kn,ow,h=>by
  rcases h with h|⟨d,N0,N,R,y,fs,z,h1,h2,hz0,h3,h4,h5,h6,h0,h7,h8⟩|⟨h1,h2⟩
  ·exact .inl h
  ·exact .inr (.inl ⟨d,N0,N,R,y,fs,z,h1,h2,hz0,h3,h4,h5,h6,h0,fun r V W' y' x w q0 q1 q2 q3 q4 q5 q6=>(h7 r V W' y' x w q0 q1 q2 q3 q4 q5 q6).imp fun _ z=>z.mono (by omega),fun b bs e r V W' v w q0 q1 q2 q3 q4=>(h8 b bs e r V W' v w q0 q1 q2 q3 q4).imp fun _ z=>z.mono (by omega)⟩)
  ·exact .inr (.inr ⟨h1,fun W' hx m=>by obtain ⟨g1,W1,es,kn1,ow1,a1,a2,a3,ρ',a4⟩:=h2 W' hx m;exact ⟨g1,W1,es,kn1,ow1,a1,a2,a3,ρ',a4.mono (by omega)⟩⟩)
theorem Path.hand{E:Env}{Goal:Stand}{n:Nat}{g:Goroutine}{W:World}{kn ow:Nat→Prop}(hr:g.status=.running)(h:∀W',Ext kn W W'→∀m,∃g1 W1 es kn1 ow1,stepG E.P m g W'=.go g1 W1 es∧g1.status=.running∧Own1 kn ow kn1 ow1 W' W1 es∧∃ρ',Path E Goal n ρ' g1 W1 kn1 ow1):∃ρ,Path E Goal (n+1) ρ g W kn ow:=
 ⟨fun _=>0,.inr (.inr ⟨hr,h⟩)⟩
theorem Own1.still{kn ow kn1 ow1:Nat→Prop}{W:World}(hl:∀B,kn B→B<W.heap.size)(hk:∀B,kn1 B→kn B)(ho:∀B,ow1 B→ow B)(hw:∀B,ow1 B→kn1 B):Own1 kn ow kn1 ow1 W W #[]:=
 ⟨rfl,Nat.le_refl _,Nat.le_refl _,rfl,fun _ _ _=>rfl,fun e he=>by simp at he,fun B q _=>hk B q,fun B q _=>ho B q,fun B q=>hl B (hk B q),hw⟩
theorem Path.go{E:Env}{Goal:Stand}{n:Nat}{g g1:Goroutine}{W:World}{kn ow:Nat→Prop}(hl:∀B,kn B→B<W.heap.size)(hw:∀B,ow B→kn B)(hr:g.status=.running)(hs:∀W',Ext kn W W'→∀m,stepG E.P m g W'=.go g1 W' #[])(hr1:g1.status=.running)(hp:∃ρ,Path E Goal n ρ g1 W kn ow):∃ρ,Path E Goal (n+1) ρ g W kn ow:=by
 obtain ⟨ρ,hp⟩:=hp
 exact Path.hand hr fun W' hx m=>⟨g1,W',#[],kn,ow,hs W' hx m,hr1,Own1.still (fun B q=>Nat.lt_of_lt_of_le (hl B q) hx.size) (fun _ q=>q) (fun _ q=>q) hw,ρ,hp.ext hx⟩
theorem Ext.cell{kn:Nat→Prop}{W W':World}(h:Ext kn W W'){a:Addr}(ha:kn a.block)(hl:a.block<W.heap.size):W'.cell? a=W.cell? a:=by
 unfold World.cell?
 rw[h.keep _ ha hl]
theorem Path.call{P:Program}{fl gl:List Nat}(hE:envB P fl gl=true){Goal:Stand}{n:Nat}{f:FuncId}(hf:fl.contains f=true){args:Array Value}{b':Frame}{bs:List Frame}{W:World}{kn ow ch:Nat→Prop}(hgeo:Geo P W kn ow ch)(hrd:Rdy (mkE P fl gl) W kn ow ch)(ha:∀v∈args,KV kn ch v){R:Value→World→Prop}
  (hc:∀w0,Alone W kn ow ch w0→Calls P f args w0 (fun e w'=>∃v,e=.returned v∧R v w'))
  (hR:∀r V W' w v,Over P fl gl W kn ow ch r V w W'→okV (((pcx (mkE P fl gl) W kn ow ch).re r V).bnd w.heap.size) v→R v w→∃ρ',Path (mkE P fl gl) Goal n ρ' (mkG (b'.finish (rnV r v)) bs) W' (knB W W' kn r) (knB W W' ow r)):
  ∃ρ,Path (mkE P fl gl) Goal (n+1) ρ (mkG (Frame.enter P f args .normal) (b'::bs)) W kn ow:=by
 have hfit:=pcx_fit hE hgeo
 obtain ⟨s,hs⟩:=stands_ex ((pcx (mkE P fl gl) W kn ow ch).bnd W.heap.size)
 obtain ⟨ρ,hi⟩:=@inv_start (pcx (mkE P fl gl) W kn ow ch) (fun _=>Classical.propDecidable _) rfl (fun N=>hfit.evn id W N) R f hf args (KV.rns ha) s W rfl (fun b q=>.inr q) (fun b q z=>absurd z.1 (Nat.not_lt.2 q)) (hrd s hs) (fun v hv=>KV.ok hgeo.knl (ha v hv)) (fun σ=>hc _ ⟨σ,s,fun v hv=>(hs v).2.2.1 (KV.ok hgeo.knl hv) hv.rn,hs.back hgeo.chl,fun a=>(hs _).2.2.2 a rfl,rfl⟩)
 refine ⟨ρ,.inr (.inl ⟨pcx (mkE P fl gl) W kn ow ch,W.heap.size,fun _ _=>False,R,Frame.enter P f args .normal,[],b'::bs,rfl,hfit,(fun e=>by cases e),fun σ=>?_,(pcx_kb hgeo.knl).symm,(pcx_ob hgeo.knl hgeo.owk).symm,fun x q=>hgeo.chl x q,⟨Nat.le_refl _,fun _ _=>rfl⟩,fun _ _ _ _ _ _ _ _ _ _ _ _ q=>q.elim,fun b1 bs1 e1 r V W' v w q0 q1 q2 q3 q4=>?_⟩)⟩
 ·obtain ⟨x,fs,w,z1,z2,z3,z4,z5,z6⟩:=hi σ
  exact ⟨x,fs,w,z1,z2,z3,z4,z5,.inr z6⟩
 ·obtain ⟨rfl,rfl⟩:=List.cons.inj e1
  have e1:Kb ((pcx (mkE P fl gl) W kn ow ch).re r V) W'=knB W W' kn r:=by
   funext B
   refine propext ⟨fun ⟨⟨b,h1,h2⟩,h3⟩=>⟨h3,b,?_,h2⟩,fun ⟨h3,b,h1,h2⟩=>⟨⟨b,fun z=>?_,h2⟩,h3⟩⟩
   ·rcases Nat.lt_or_ge b W.heap.size with q|q
    ·exact .inr (Classical.byContradiction fun z=>h1 ⟨q,z⟩)
    ·exact .inl q
   ·rcases h1 with q|q
    ·exact absurd z.1 (Nat.not_lt.2 q)
    ·exact z.2 q
  have e2:Ob ((pcx (mkE P fl gl) W kn ow ch).re r V) W'=knB W W' ow r:=by
   funext B
   refine propext ⟨fun ⟨⟨b,h0,h1,h2⟩,h3⟩=>⟨h3,b,h0.symm,h2⟩,fun ⟨h3,b,h1,h2⟩=>⟨⟨b,h1.symm,fun z=>?_,h2⟩,h3⟩⟩
   rcases h1 with q|q
   ·exact absurd z.1 (Nat.not_lt.2 q)
   ·exact z.2 (hgeo.owk b q)
  rw[e1,e2]
  exact hR r V W' w v ⟨q0,q2⟩ q1 q4
end Go.Proofs.Ytniloklglpchfai
/- What workers of a ring may call: the fragment. -/
namespace Go.Proofs.Ytniloklglpchfai
open Go Go.RowKit
theorem ring_env:envB Try.prog [48,35,36,19,20,43,50,8,12,11,21,13,5,6,10,7] [48,35,36,19,20,43,50,8,12,11,21,13,5,6,10,7]=true:=by kernel_rfl
end Go.Proofs.Ytniloklglpchfai
/- Ways in company: steps by hand, in the walk's style. No program in sight. -/
namespace Go.Proofs.Ytniloklglpchfai
open Go Go.Conc
def Goes1 (E:Env) (Goal:Stand) (n:Nat) (kn ow:Nat→Prop) (W':World) (g1:Goroutine) (W1:World) (es:Array Event):Prop:=
 g1.status=.running∧∃kn1 ow1,Own1 kn ow kn1 ow1 W' W1 es∧∃ρ',Path E Goal n ρ' g1 W1 kn1 ow1
theorem path_goes{E:Env}{Goal:Stand}{n:Nat}{g:Goroutine}{W:World}{kn ow:Nat→Prop}(hr:g.status=.running)(h:∀W',Ext kn W W'→∀m,(stepG E.P m g W').goes (Goes1 E Goal n kn ow W')):∃ρ,Path E Goal (n+1) ρ g W kn ow:=
 Path.hand hr fun W' hx m=>by
  have:=h W' hx m
  cases hs:stepG E.P m g W' with
  |go g1 W1 es=>
   rw[hs]at this
   obtain ⟨h1,kn1,ow1,h2,h3⟩:=this
   exact ⟨g1,W1,es,kn1,ow1,rfl,h1,h2,h3⟩
  |_=>rw[hs]at this;exact this.elim
structure Here (W:World) (kn ow:Nat→Prop):Prop where
 knl:∀B,kn B→B<W.heap.size
 owk:∀B,ow B→kn B
theorem Here.ext{W W':World}{kn ow:Nat→Prop}(h:Here W kn ow)(hx:Ext kn W W'):Here W' kn ow:=⟨fun B q=>Nat.lt_of_lt_of_le (h.knl B q) hx.size,h.owk⟩
theorem Here.reads{E:Env}{Goal:Stand}{n:Nat}{W:World}{kn ow:Nat→Prop}(h:Here W kn ow){g1:Goroutine}{es:Array Event}(hr:g1.status=.running)(he:∀e,e∈es→∃a,e=⟨.cell a,false,false⟩∧kn a.block)(hp:∃ρ,Path E Goal n ρ g1 W kn ow):Goes1 E Goal n kn ow W g1 W es:=
 ⟨hr,kn,ow,⟨rfl,Nat.le_refl _,Nat.le_refl _,rfl,fun _ _ _=>rfl,fun e q=>by obtain ⟨a,rfl,ha⟩:=he e q;exact .inl ⟨a,false,rfl,h.knl _ ha,fun _=>⟨ha,fun z=>by cases z⟩⟩,fun _ q _=>q,fun _ q _=>q,h.knl,h.owk⟩,hp⟩
section
variable {E:Env} {Goal:Stand} {n:Nat} {b:Frame} {a:Act} {k:List Item} {cs:List Frame} {W:World} {kn ow:Nat→Prop}
theorem path_seq(h:Here W kn ow){x y:Code}(hp:∃ρ,Path E Goal n ρ (G (b.at a (.code x::.code y::k)) cs) W kn ow):∃ρ,Path E Goal (n+1) ρ (G (b.at a (.code (.seq x y)::k)) cs) W kn ow:=
 Path.go h.knl h.owk rfl (fun _ _ _=>stepG_seq) rfl hp
theorem path_block(h:Here W kn ow){i:Nat}{c:Code}(hp:∃ρ,Path E Goal n ρ (G (b.at a (.code c::.inBlock i::k)) cs) W kn ow):∃ρ,Path E Goal (n+1) ρ (G (b.at a (.code (.block i c)::k)) cs) W kn ow:=
 Path.go h.knl h.owk rfl (fun _ _ _=>stepG_block) rfl hp
theorem path_inBlock(h:Here W kn ow){i:Nat}(hp:∃ρ,Path E Goal n ρ (G (b.at a k) cs) W kn ow):∃ρ,Path E Goal (n+1) ρ (G (b.at a (.inBlock i::k)) cs) W kn ow:=
 Path.go h.knl h.owk rfl (fun _ _ _=>stepG_inBlock) rfl hp
theorem path_loop(h:Here W kn ow){c:Code}(hp:∃ρ,Path E Goal n ρ (G (b.at a (.code c::.inLoop c::k)) cs) W kn ow):∃ρ,Path E Goal (n+1) ρ (G (b.at a (.code (.loop c)::k)) cs) W kn ow:=
 Path.go h.knl h.owk rfl (fun _ _ _=>stepG_loop) rfl hp
theorem path_inLoop(h:Here W kn ow){c:Code}(hp:∃ρ,Path E Goal n ρ (G (b.at a (.code c::.inLoop c::k)) cs) W kn ow):∃ρ,Path E Goal (n+1) ρ (G (b.at a (.inLoop c::k)) cs) W kn ow:=
 Path.go h.knl h.owk rfl (fun _ _ _=>stepG_inLoop) rfl hp
theorem path_skip(h:Here W kn ow)(hp:∃ρ,Path E Goal n ρ (G (b.at a k) cs) W kn ow):∃ρ,Path E Goal (n+1) ρ (G (b.at a (.code .skip::k)) cs) W kn ow:=
 Path.go h.knl h.owk rfl (fun _ _ _=>stepG_skip) rfl hp
theorem path_cond(h:Here W kn ow){c:Operand}{x y:Code}{t:Bool}(hc:a.eval c=.bool t)(hp:∃ρ,Path E Goal n ρ (G (b.at a (.code (if t then x else y)::k)) cs) W kn ow):∃ρ,Path E Goal (n+1) ρ (G (b.at a (.code (.cond c x y)::k)) cs) W kn ow:=
 Path.go h.knl h.owk rfl (fun _ _ _=>stepG_cond hc) rfl hp
theorem path_exit(h:Here W kn ow){i:Nat}{k':List Item}(hk:exitTo i k=some k')(hp:∃ρ,Path E Goal n ρ (G (b.at a k') cs) W kn ow):∃ρ,Path E Goal (n+1) ρ (G (b.at a (.code (.exit i)::k)) cs) W kn ow:=
 Path.go h.knl h.owk rfl (fun _ _ _=>stepG_exit hk) rfl hp
theorem path_region(h:Here W kn ow){i:Nat}{ops:Array Oper}{l:List Nat}(hl:List.range ops.size=l)(hp:∃ρ,Path E Goal n ρ (G (b.at a (.inRegion ops l::k)) cs) W kn ow):∃ρ,Path E Goal (n+1) ρ (G (b.at a (.code (.region i ops false)::k)) cs) W kn ow:=
 Path.go h.knl h.owk rfl (fun _ _ _=>by rw[stepG_region,hl]) rfl hp
theorem path_region_end(h:Here W kn ow){ops:Array Oper}(hp:∃ρ,Path E Goal n ρ (G (b.at a k) cs) W kn ow):∃ρ,Path E Goal (n+1) ρ (G (b.at a (.inRegion ops []::k)) cs) W kn ow:=
 Path.go h.knl h.owk rfl (fun _ _ _=>stepG_region_end) rfl hp
theorem path_enter(h:Here W kn ow){ops:Array Oper}{i:Nat}{rest:List Nat}{o:Oper}{f:FuncId}{fn:Func}{c:Code}{args:Array Operand}{ats:Array TypeId}(ho:ops[i]?=some o)(hw:Region.wanted o (yielded ops a.tmps)=true)(hk:b.kind≠.early)(hop:o.op=.call { callee:=.value (.func f),args,argTypes:=ats })
  (hf : E.P.funcs[f]? = some fn) (hname : (fn.name == "runtime.NumGoroutine") = false) (hb : fn.body = some c) (hp : ∃ ρ, Path E Goal n ρ (G (Frame.enter E.P f (args.map a.eval) .normal) (b.at a (.inRegion ops (i :: rest) :: k) :: cs)) W kn ow) : ∃ ρ, Path E Goal (n + 1) ρ (G (b.at a (.inRegion ops (i :: rest) :: k)) cs) W kn ow := by
 refine Path.go h.knl h.owk rfl (fun W' _ m=>?_) (g1:=G (Frame.enter E.P f (args.map a.eval) .normal) (b.at a (.inRegion ops (i::rest)::k)::cs)) rfl hp
 have:=goes_call (P:=E.P) (main:=m) (b:=b) (a:=a) (k:=k) (cs:=cs) (w:=W') (K:=fun g w es=>g=G (Frame.enter E.P f (args.map a.eval) .normal) (b.at a (.inRegion ops (i::rest)::k)::cs)∧w=W'∧es=#[]) ho hw hk hop hf hname hb ⟨by rw[enter_at _ hf hb],rfl,rfl⟩
 cases hs:stepG E.P m (G (b.at a (.inRegion ops (i::rest)::k)) cs) W' with
 |go g1 W1 es=>rw[hs]at this;obtain ⟨h1,h2,h3⟩:=this;rw[h1,h2,h3]
 |_=>rw[hs]at this;exact this.elim
theorem path_val(h:Here W kn ow){ops:Array Oper}{i:Nat}{rest:List Nat}{o:Oper}(v:Value)(ho:ops[i]?=some o)(hw:Region.wanted o (yielded ops a.tmps)=true)(hk:b.kind≠.early)(hr:∀W',(execOp a.eval o).run E.P W'=.ok (.value v) W')(hl:∀W' e,e∈listed E.P b.fn a o W'→False)
  (hp:∃ρ,Path E Goal n ρ (G (b.at (a.put o.dst v) (.inRegion ops rest::k)) cs) W kn ow):∃ρ,Path E Goal (n+1) ρ (G (b.at a (.inRegion ops (i::rest)::k)) cs) W kn ow:=
 Path.go h.knl h.owk rfl (fun W' _ m=>by rw[stepG_value ho hw hk (hr W'),Array.eq_empty_iff_forall_not_mem.2 fun e q=>hl W' e q]) rfl hp
theorem path_read(h:Here W kn ow){ops:Array Oper}{i:Nat}{rest:List Nat}{o:Oper}{ad:Addr}{v:Value}(ha:kn ad.block)(hc:W.cell? ad=some v)(ho:ops[i]?=some o)(hw:Region.wanted o (yielded ops a.tmps)=true)(hk:b.kind≠.early)(hr:∀W',W'.cell? ad=some v→(execOp a.eval o).run E.P W'=.ok (.value v) W')(hl:∀W',W'.cell? ad=some v→∀e,e∈listed E.P b.fn a o W'→e=⟨.cell ad,false,false⟩)
  (hp:∃ρ,Path E Goal n ρ (G (b.at (a.put o.dst v) (.inRegion ops rest::k)) cs) W kn ow):∃ρ,Path E Goal (n+1) ρ (G (b.at a (.inRegion ops (i::rest)::k)) cs) W kn ow:=
 path_goes rfl fun W' hx m=>by
  have hc':W'.cell? ad=some v:=(hx.cell ha (h.knl _ ha)).trans hc
  rw[stepG_value ho hw hk (hr W' hc'),goes_go]
  exact (h.ext hx).reads rfl (fun e he=>⟨ad,hl W' hc' e he,ha⟩) (hp.imp fun _ q=>q.ext hx)
end
structure Slots (a:Act) (m:Nat) (f:Nat→Value):Prop where
 size:a.tmps.size=m
 at_:∀k,a.tmps.getD k undef=f k
 defers:a.defers=[]
theorem Slots.put{a:Act}{m:Nat}{f:Nat→Value}(h:Slots a m f){d:Nat}(hd:d<m)(v:Value):Slots (a.put (some d) v) m (upF f d v):=by
 refine ⟨by simp[Act.put,h.size],fun k=>?_,h.defers⟩
 show (a.tmps.setIfInBounds d v).getD k undef=_
 by_cases e:k=d
 ·subst e
  rw[upF_self,Array.getD_eq_getD_getElem?,Array.getElem?_setIfInBounds_self_of_lt (by rw[h.size];exact hd)]
  rfl
 ·rw[upF_ne _ e,Array.getD_eq_getD_getElem?,Array.getElem?_setIfInBounds_ne (fun q=>e q.symm),←Array.getD_eq_getD_getElem?]
  exact h.at_ k
section
variable {E:Env} {Goal:Stand} {n:Nat} {b:Frame} {a:Act} {k:List Item} {cs:List Frame} {W:World} {kn ow:Nat→Prop} {m:Nat} {f:Nat→Value}
theorem path_slot(h:Here W kn ow)(hs:Slots a m f){ops:Array Oper}{i d:Nat}{rest:List Nat}{o:Oper}(v:Value)(ho:ops[i]?=some o)(hdst:o.dst=some d)(hd:d<m)(hw:∀t,Region.wanted o (yielded ops t)=true)(hk:b.kind≠.early)(hr:∀(a:Act) (W':World),(∀k,a.tmps.getD k undef=f k)→(execOp a.eval o).run E.P W'=.ok (.value v) W')(hl:∀(a:Act) (W':World),(∀k,a.tmps.getD k undef=f k)→∀e,e∈listed E.P b.fn a o W'→False)
  (hp:∀a',Slots a' m (upF f d v)→∃ρ,Path E Goal n ρ (G (b.at a' (.inRegion ops rest::k)) cs) W kn ow):∃ρ,Path E Goal (n+1) ρ (G (b.at a (.inRegion ops (i::rest)::k)) cs) W kn ow:=
 path_val h v ho (hw _) hk (fun W'=>hr a W' hs.at_) (fun W' e he=>hl a W' hs.at_ e he) (by rw[hdst];exact hp _ (hs.put hd v))
theorem path_slot_read(h:Here W kn ow)(hs:Slots a m f){ops:Array Oper}{i d:Nat}{rest:List Nat}{o:Oper}{ad:Addr}{v:Value}(ha:kn ad.block)(hc:W.cell? ad=some v)(ho:ops[i]?=some o)(hdst:o.dst=some d)(hd:d<m)(hw:∀t,Region.wanted o (yielded ops t)=true)(hk:b.kind≠.early)(hr:∀(a:Act) (W':World),(∀k,a.tmps.getD k undef=f k)→W'.cell? ad=some v→(execOp a.eval o).run E.P W'=.ok (.value v) W')(hl:∀(a:Act) (W':World),(∀k,a.tmps.getD k undef=f k)→W'.cell? ad=some v→∀e,e∈listed E.P b.fn a o W'→e=⟨.cell ad,false,false⟩)
  (hp:∀a',Slots a' m (upF f d v)→∃ρ,Path E Goal n ρ (G (b.at a' (.inRegion ops rest::k)) cs) W kn ow):∃ρ,Path E Goal (n+1) ρ (G (b.at a (.inRegion ops (i::rest)::k)) cs) W kn ow:=
 path_read h ha hc ho (hw _) hk (fun W'=>hr a W' hs.at_) (fun W' q e he=>hl a W' hs.at_ q e he) (by rw[hdst];exact hp _ (hs.put hd v))
end
end Go.Proofs.Ytniloklglpchfai
