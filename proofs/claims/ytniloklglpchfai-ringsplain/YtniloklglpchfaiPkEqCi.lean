/- Ways in company: steps behind which less is known. No program in sight. -/
import Derived.Test.YtniloklglpchfaiPkEqCe
import Derived.Orders
namespace Go.Proofs.Ytniloklglpchfai
open Go Go.Conc
theorem Path.less{E:Env}{Goal:Stand}{n:Nat}{g g1:Goroutine}{W:World}{kn ow kn1 ow1:Nat→Prop}(hl:∀B,kn B→B<W.heap.size)(hk:∀B,kn1 B→kn B)(ho:∀B,ow1 B→ow B)(hw:∀B,ow1 B→kn1 B)(hr:g.status=.running)(hs:∀W',Ext kn W W'→∀m,stepG E.P m g W'=.go g1 W' #[])(hr1:g1.status=.running)(hp:∃ρ,Path E Goal n ρ g1 W kn1 ow1):∃ρ,Path E Goal (n+1) ρ g W kn ow:=by
 obtain ⟨ρ,hp⟩:=hp
 exact Path.hand hr fun W' hx m=>⟨g1,W',#[],kn1,ow1,hs W' hx m,hr1,Own1.still (fun B q=>Nat.lt_of_lt_of_le (hl B q) hx.size) hk ho hw,ρ,hp.ext (hx.le hk)⟩
section
variable {E:Env} {Goal:Stand} {n:Nat} {b:Frame} {a:Act} {k:List Item} {cs:List Frame} {W:World} {kn ow kn1 ow1:Nat→Prop} {m:Nat} {f:Nat→Value}
theorem path_slot_less(hl:∀B,kn B→B<W.heap.size)(hk1:∀B,kn1 B→kn B)(ho1:∀B,ow1 B→ow B)(hw1:∀B,ow1 B→kn1 B)(hs:Slots a m f){ops:Array Oper}{i d:Nat}{rest:List Nat}{o:Oper}(v:Value)(ho:ops[i]?=some o)(hdst:o.dst=some d)(hd:d<m)(hw:∀t,Region.wanted o (yielded ops t)=true)(hk:b.kind≠.early)(hr:∀(a:Act) (W':World),(∀k,a.tmps.getD k undef=f k)→(execOp a.eval o).run E.P W'=.ok (.value v) W')(hli:∀(a:Act) (W':World),(∀k,a.tmps.getD k undef=f k)→∀e,e∈listed E.P b.fn a o W'→False)
  (hp:∀a',Slots a' m (upF f d v)→∃ρ,Path E Goal n ρ (G (b.at a' (.inRegion ops rest::k)) cs) W kn1 ow1):∃ρ,Path E Goal (n+1) ρ (G (b.at a (.inRegion ops (i::rest)::k)) cs) W kn ow:=
 Path.less hl hk1 ho1 hw1 rfl (fun W' _ m=>by rw[stepG_value ho (hw _) hk (hr a W' hs.at_),Array.eq_empty_iff_forall_not_mem.2 fun e q=>hli a W' hs.at_ e q]) rfl (by rw[hdst];exact hp _ (hs.put hd v))
theorem path_region_end_less(hl:∀B,kn B→B<W.heap.size)(hk1:∀B,kn1 B→kn B)(ho1:∀B,ow1 B→ow B)(hw1:∀B,ow1 B→kn1 B){ops:Array Oper}(hp:∃ρ,Path E Goal n ρ (G (b.at a k) cs) W kn1 ow1):∃ρ,Path E Goal (n+1) ρ (G (b.at a (.inRegion ops []::k)) cs) W kn ow:=
 Path.less hl hk1 ho1 hw1 rfl (fun _ _ _=>stepG_region_end) rfl hp
theorem path_enter_less(hl:∀B,kn B→B<W.heap.size)(hk1:∀B,kn1 B→kn B)(ho1:∀B,ow1 B→ow B)(hw1:∀B,ow1 B→kn1 B){ops:Array Oper}{i:Nat}{rest:List Nat}{o:Oper}{f:FuncId}{fn:Func}{c:Code}{args:Array Operand}{ats:Array TypeId}(ho:ops[i]?=some o)(hw:Region.wanted o (yielded ops a.tmps)=true)(hk:b.kind≠.early)(hop:o.op=.call { callee:=.value (.func f),args,argTypes:=ats })
  (hf : E.P.funcs[f]? = some fn) (hname : (fn.name == "runtime.NumGoroutine") = false) (hb : fn.body = some c) (hp : ∃ ρ, Path E Goal n ρ (G (Frame.enter E.P f (args.map a.eval) .normal) (b.at a (.inRegion ops (i :: rest) :: k) :: cs)) W kn1 ow1) : ∃ ρ, Path E Goal (n + 1) ρ (G (b.at a (.inRegion ops (i :: rest) :: k)) cs) W kn ow := by
 refine Path.less hl hk1 ho1 hw1 rfl (fun W' _ m=>?_) (g1:=G (Frame.enter E.P f (args.map a.eval) .normal) (b.at a (.inRegion ops (i::rest)::k)::cs)) rfl hp
 have:=goes_call (P:=E.P) (main:=m) (b:=b) (a:=a) (k:=k) (cs:=cs) (w:=W') (K:=fun g w es=>g=G (Frame.enter E.P f (args.map a.eval) .normal) (b.at a (.inRegion ops (i::rest)::k)::cs)∧w=W'∧es=#[]) ho hw hk hop hf hname hb ⟨by rw[enter_at _ hf hb],rfl,rfl⟩
 cases hs:stepG E.P m (G (b.at a (.inRegion ops (i::rest)::k)) cs) W' with
 |go g1 W1 es=>rw[hs]at this;obtain ⟨h1,h2,h3⟩:=this;rw[h1,h2,h3]
 |_=>rw[hs]at this;exact this.elim
theorem path_call{P:Program}{fl gl:List Nat}(hE:envB P fl gl=true)(hl:∀B,kn B→B<W.heap.size)(hk1:∀B,kn1 B→kn B)(ho1:∀B,ow1 B→ow B){ch:Nat→Prop}(hgeo:Geo P W kn1 ow1 ch)(hrd:Rdy (mkE P fl gl) W kn1 ow1 ch)(hs:Slots a m f){ops:Array Oper}{i d:Nat}{rest:List Nat}{o:Oper}{fi:FuncId}{fn:Func}{c:Code}{args:Array Operand}{ats:Array TypeId}(vs:Array Value)(ho:ops[i]?=some o)(hdst:o.dst=some d)(hd:d<m)(hw:∀t,Region.wanted o (yielded ops t)=true)(hk:b.kind≠.early)(hop:o.op=.call { callee:=.value (.func fi),args,argTypes:=ats })
  (hfl : fl.contains fi = true) (hf : P.funcs[fi]? = some fn) (hname : (fn.name == "runtime.NumGoroutine") = false) (hb : fn.body = some c) (hargs : ∀ a : Act, (∀ k, a.tmps.getD k undef = f k) → args.map a.eval = vs) (ha : ∀ v ∈ vs, KV kn1 ch v) {R : Value → World → Prop}
  (hc:∀w0,Alone W kn1 ow1 ch w0→Calls P fi vs w0 (fun e w'=>∃v,e=.returned v∧R v w'))
  (hR:∀r V W' w v,Over P fl gl W kn1 ow1 ch r V w W'→okV (((pcx (mkE P fl gl) W kn1 ow1 ch).re r V).bnd w.heap.size) v→R v w→∀a',Slots a' m (upF f d (rnV r v))→∃ρ',Path (mkE P fl gl) Goal n ρ' (G (b.at a' (.inRegion ops rest::k)) cs) W' (knB W W' kn1 r) (knB W W' ow1 r)):
  ∃ρ,Path (mkE P fl gl) Goal (n+2) ρ (G (b.at a (.inRegion ops (i::rest)::k)) cs) W kn ow:=by
 refine path_enter_less (E:=mkE P fl gl) hl hk1 ho1 hgeo.owk ho (hw _) hk hop hf hname hb ?_
 rw[hargs a hs.at_]
 refine Path.call hE hfl hgeo hrd ha hc fun r V W' w v h1 h2 h3=>?_
 have e:mkG ((b.at a (.inRegion ops (i::rest)::k)).finish (rnV r v)) cs=G (b.at (a.put o.dst (rnV r v)) (.inRegion ops rest::k)) cs:=by
  rw[←served_put (cs:=cs) ho]
  rfl
 rw[e,hdst]
 exact hR r V W' w v h1 h2 h3 _ (hs.put hd _)
theorem Alone.frozen{W w0:World}{kn ow ch:Nat→Prop}(h:Alone W kn ow ch w0){B:Nat}(hl:B<W.heap.size)(hB:¬ow B){cs:Array Value}{e:TypeId}{z:Nat×Nat}(hW:W.heap[B]?=some (.cells cs e z))(hv:∀v∈cs,KV kn ch v):w0.heap[B]?=some (.cells cs e (0,max cs.size z.2)):=by
 obtain ⟨σ,s,hs,-,-,rfl⟩:=h
 rw[here_at,hW]
 have:¬W.heap.size≤B:=by omega
 have e1:cs.map s=cs:=(Array.map_congr_left fun v q=>hs v (hv v q)).trans (by simp)
 simp[hB,this,frz,e1]
theorem Alone.junk{W w0:World}{kn ow ch:Nat→Prop}(h:Alone W kn ow ch w0){B:Nat}(hl:B<W.heap.size)(hB:¬ow B){cs:Array Value}{e:TypeId}{z:Nat×Nat}(hW:W.heap[B]?=some (.cells cs e z)):∃cs',w0.heap[B]?=some (.cells cs' e (0,max cs.size z.2))∧cs'.size=cs.size∧∀r:Nat→Nat,(∀b,b<W.heap.size→r b=b)→cs'.map (rnV r)=cs:=by
 obtain ⟨σ,s,-,hs,-,rfl⟩:=h
 refine ⟨cs.map s,?_,by simp,fun r hr=>?_⟩
 ·rw[here_at,hW]
  have:¬W.heap.size≤B:=by omega
  simp[hB,this,frz]
 ·rw[Array.map_map]
  exact (Array.map_congr_left fun v _=>hs r hr v).trans (by simp)
def Holds1 (kn ow:Nat→Prop) (W W':World):Prop:=∀B cs e z,kn B→W.heap[B]?=some (.cells cs e z)→∃z',W'.heap[B]?=some (.cells cs e z')∧(ow B→∀i,z'.1≤i→i<z'.2→z.1≤i∧i<z.2)∧(¬ow B→∀i,z'.1≤i→i<z'.2→0≤i)
theorem path_calm{P:Program}{fl gl:List Nat}(hE:envB P fl gl=true)(hl:∀B,kn B→B<W.heap.size)(hk1:∀B,kn1 B→kn B)(ho1:∀B,ow1 B→ow B){ch:Nat→Prop}(hgeo:Geo P W kn1 ow1 ch)(hkv:∀B cs e z,kn1 B→W.heap[B]?=some (.cells cs e z)→∀v∈cs,KV kn1 ch v)(hrd:Rdy (mkE P fl gl) W kn1 ow1 ch)(hs:Slots a m f){ops:Array Oper}{i d:Nat}{rest:List Nat}{o:Oper}{fi:FuncId}{fn:Func}{c:Code}{args:Array Operand}{ats:Array TypeId}(vs:Array Value)(v0:Value)(ho:ops[i]?=some o)(hdst:o.dst=some d)(hd:d<m)(hw:∀t,Region.wanted o (yielded ops t)=true)(hk:b.kind≠.early)(hop:o.op=.call { callee:=.value (.func fi),args,argTypes:=ats })
  (hfl : fl.contains fi = true) (hf : P.funcs[fi]? = some fn) (hname : (fn.name == "runtime.NumGoroutine") = false) (hb : fn.body = some c) (hargs : ∀ a : Act, (∀ k, a.tmps.getD k undef = f k) → args.map a.eval = vs) (hvs : ∀ v ∈ vs, KV kn1 ch v) (hv0 : KV kn1 ch v0)
  (hc:∀w0,Alone W kn1 ow1 ch w0→Calls P fi vs w0 (fun e w'=>e=.returned v0∧∀B,B<w0.heap.size→w'.heap[B]?=w0.heap[B]?))
  (hp:∀W' kn2 ow2,Holds1 kn1 ow1 W W'→W.heap.size≤W'.heap.size→(∀B,kn1 B→kn2 B)→(∀B,ow1 B→ow2 B)→(∀B,kn2 B→B<W'.heap.size)→∀a',Slots a' m (upF f d v0)→∃ρ',Path (mkE P fl gl) Goal n ρ' (G (b.at a' (.inRegion ops rest::k)) cs) W' kn2 ow2):
  ∃ρ,Path (mkE P fl gl) Goal (n+2) ρ (G (b.at a (.inRegion ops (i::rest)::k)) cs) W kn ow:=by
 refine path_call hE hl hk1 ho1 hgeo hrd hs vs ho hdst hd hw hk hop hfl hf hname hb hargs hvs (R:=fun v w=>v=v0∧∃w0,Alone W kn1 ow1 ch w0∧∀B,B<w0.heap.size→w.heap[B]?=w0.heap[B]?) (fun w0 h0=>?_) fun r V W' w v h1 _ h3 a' hs'=>?_
 ·refine (hc w0 h0).mono ?_
  rintro e w' ⟨rfl,q⟩
  exact ⟨v0,rfl,rfl,w0,h0,q⟩
 ·obtain ⟨rfl,w0,h0,hq⟩:=h3
  rw[h1.same hgeo.knl hgeo.chl hv0]at hs'
  have hsz:=h0.size
  have hlt:∀B,B<W.heap.size→B<w.heap.size:=fun B q=>by
   have e:=hq B (by omega)
   rw[Array.getElem?_eq_getElem (show B<w0.heap.size by omega)]at e
   exact lt_of_some e
  refine hp W' _ _ ?_ ?_ (fun B q=>h1.known q (hgeo.knl B q) (hlt B (hgeo.knl B q))) (fun B q=>?_) (fun B q=>q.1) a' hs'
  ·intro B cs e z hB hW
   by_cases hob:ow1 B
   ·have e1:=hq B (by have:=hgeo.knl B hB;omega)
    rw[h0.own hob,hW]at e1
    obtain ⟨z',g1,g2⟩:=h1.keeps hgeo.knl hgeo.chl hB e1 (hkv B cs e z hB hW)
    exact ⟨z',g1,fun _=>g2,fun q=>absurd hob q⟩
   ·have e1:=hq B (by have:=hgeo.knl B hB;omega)
    rw[h0.frozen (hgeo.knl B hB) hob hW (hkv B cs e z hB hW)]at e1
    obtain ⟨z',g1,g2⟩:=h1.keeps hgeo.knl hgeo.chl hB e1 (hkv B cs e z hB hW)
    exact ⟨z',g1,fun q=>absurd q hob,fun _ i q1 q2=>Nat.zero_le _⟩
  ·rcases Nat.eq_zero_or_pos W.heap.size with q|q
   ·omega
   ·have:=h1.low (hlt (W.heap.size - 1) (by omega))
    rw[h1.old _ (by omega)]at this
    omega
  ·have hB:=hgeo.knl B (hgeo.owk B q)
   have:=h1.low (hlt B hB)
   rw[h1.old B hB]at this
   exact ⟨this,B,.inr q,h1.old B hB⟩
end
def GivesV (nx:Next) (v:Value):Prop:=nx=.value v∨(nx=.skip∧v=undef)
theorem stepG_gives{P:Program}{main:Bool}{b:Frame}{a:Act}{k:List Item}{cs:List Frame}{w:World}{ops:Array Oper}{i:Nat}{rest:List Nat}{o:Oper}{nx:Next}{v:Value}{w':World}(ho:ops[i]?=some o)(hw:Region.wanted o (yielded ops a.tmps)=true)(hk:b.kind≠.early)(hr:(execOp a.eval o).run P w=.ok nx w')(hg:GivesV nx v):
  stepG P main (G (b.at a (.inRegion ops (i::rest)::k)) cs) w=.go (G (b.at (a.put o.dst v) (.inRegion ops rest::k)) cs) w' (listed P b.fn a o w):=by
 rcases hg with rfl|⟨rfl,rfl⟩
 ·exact stepG_value ho hw hk hr
 ·exact stepG_none ho hw hk hr
theorem nxr_gives{c:Cx}{nx nx':Next}{v:Value}(h:NxR c nx nx')(hg:GivesV nx v):GivesV nx' (rnV c.r v):=by
 rcases hg with rfl|⟨rfl,rfl⟩
 ·obtain ⟨h1,-⟩:=h
  exact .inl h1
 ·exact .inr ⟨h,by simp[undef,rnV]⟩
theorem path_oper_in{P:Program}{fl gl:List Nat}(hE:envB P fl gl=true){Goal:Stand}{n:Nat}{b:Frame}{a:Act}{k:List Item}{cs:List Frame}{W:World}{kn ow k0 o0 ch:Nat→Prop}(hk0:∀B,k0 B→kn B)(ho0:∀B,o0 B→ow B)
  (hst:∀W',Ext kn W W'→Geo P W' k0 o0 ch∧Rdy (mkE P fl gl) W' k0 o0 ch)
  {ops:Array Oper} {i:Nat} {rest:List Nat} {o:Oper} (ho:ops[i]?=some o) (hw:Region.wanted o (yielded ops a.tmps)=true) (hk:b.kind≠.early) (hop:opB P fl.contains o.op=true)
  (hv:∀x∈o.op.operands,KV k0 ch (a.eval x)) {R:World→Value→World→Prop}
  (hr:∀W' w0,Ext kn W W'→Alone W' k0 o0 ch w0→∃nx v w1,(execOp a.eval o).run P w0=.ok nx w1∧GivesV nx v∧R W' v w1)
  (hp:∀W' W1 v w1,Ext kn W W'→R W' v w1→Over P fl gl W' k0 o0 ch id W' w1 W1→w1.heap.size=W1.heap.size→(∀B,B<W'.heap.size→¬o0 B→W1.heap[B]?=W'.heap[B]?)→W'.heap.size≤W1.heap.size→∃kn1 ow1,(∀B,kn1 B→kn B∨W'.heap.size≤B)∧(∀B,kn1 B→B<W1.heap.size)∧(∀B,ow1 B→ow B∨W'.heap.size≤B)∧(∀B,ow1 B→kn1 B)∧∃ρ,Path (mkE P fl gl) Goal n ρ (G (b.at (a.put o.dst (rnV id v)) (.inRegion ops rest::k)) cs) W1 kn1 ow1):
  ∃ρ,Path (mkE P fl gl) Goal (n+1) ρ (G (b.at a (.inRegion ops (i::rest)::k)) cs) W kn ow:=by
 refine Path.hand rfl fun W' hx m=>?_
 obtain ⟨hgeo,hrd⟩:=hst W' hx
 have hfit:=pcx_fit hE hgeo
 obtain ⟨s,hs⟩:=stands_ex ((pcx (mkE P fl gl) W' k0 o0 ch).bnd W'.heap.size)
 obtain ⟨w0,hw0,hA⟩:∃w0,w0=@hereW (fun B=>o0 B∨W'.heap.size≤B) (fun _=>Classical.propDecidable _) s W' (fun i q=>W'.tape (W'.drawn+i) q)∧Alone W' k0 o0 ch w0:=⟨_,rfl,_,s,fun v hv=>(hs v).2.2.1 (KV.ok hgeo.knl hv) hv.rn,hs.back hgeo.chl,fun a=>(hs _).2.2.2 a rfl,rfl⟩
 have hsz:=hA.size
 obtain ⟨nx,v,w1,hrun,hgv,hR⟩:=hr W' w0 hx hA
 have hmo:=mo_ok hrun
 have hle:W'.heap.size≤w1.heap.size:=by have:=hmo.size;omega
 have hrl0:Rl ((pcx (mkE P fl gl) W' k0 o0 ch).bnd W'.heap.size) w0 W':=by
  rw[hw0]
  exact @rl_here (pcx (mkE P fl gl) W' k0 o0 ch) (fun _=>Classical.propDecidable _) rfl s W' rfl (fun b q=>.inr q) (hrd s hs) _
 have hfut:Fut (pcx (mkE P fl gl) W' k0 o0 ch) w0:=fun b hb z=>by have:=z.1;omega
 have hrl:=hrl0.up (M:=w1.heap.size) (by omega) hle hfut
 have hev1:Ev1 ((pcx (mkE P fl gl) W' k0 o0 ch).bnd w1.heap.size):=hfit.evn id W' w1.heap.size
 obtain ⟨ev,hev⟩:∃ev:Operand→Value,ev=fun x=>@ite Value (x∈o.op.operands) (Classical.propDecidable _) (a.eval x) (match x with|.const v=>v|_=>.bool false):=⟨_,rfl⟩
 have hevc:∀v,ev (.const v)=v:=fun v=>by
  rw[hev]
  dsimp only
  split
  ·rfl
  ·rfl
 have hopk:OpOk ((pcx (mkE P fl gl) W' k0 o0 ch).bnd w1.heap.size) o.op:=opB_ok rfl (fun f q=>q) hop
 have hvr:∀x,OdOk ((pcx (mkE P fl gl) W' k0 o0 ch).bnd w1.heap.size) x→VR ((pcx (mkE P fl gl) W' k0 o0 ch).bnd w1.heap.size) (ev x) (ev x):=fun x hxo=>by
  by_cases q:x∈o.op.operands
  ·have e:ev x=a.eval x:=by rw[hev];exact if_pos q
   rw[e]
   exact ⟨(hv x q).rn.symm,KV.ok (fun B hB=>Nat.lt_of_lt_of_le (hgeo.knl B hB) hle) (hv x q)⟩
  ·cases x with
   |const v=>rw[hevc];exact ⟨hxo.1.symm,hxo.2⟩
   |_=>rw[hev];simp only[if_neg q];exact ⟨by simp[rnV],by simp[okV]⟩
 have hns:∀cs b,o.op≠.select cs b:=fun cs b e=>by
  rw[e]at hop
  simp[opB]at hop
 have hcon:execOp a.eval o=execOp ev o:=execOp_congr o hns fun x hx=>by rw[hev];exact (if_pos hx).symm
 have hsm:=sm_exec hev1.toEv0 hvr (fun v=>⟨hevc v,hevc v⟩) o hopk
 have hrun':(execOp ev o).run P w0=.ok nx w1:=by rw[←hcon];exact hrun
 obtain ⟨hgw,hag⟩:=(hsm w0 W' hrl).1 nx w1 hrun' (Nat.le_refl _)
 obtain ⟨nx',W1,nw,h1,h2,h3,h4,h5⟩:=hag fun i q _=>by
  rw[hw0]
  show W'.tape (W'.drawn+(0+i)) q=_
  rw[Nat.zero_add]
 have h1:∀es,(execOp ev o).runT P W' es=(.ok nx' W1,es++nw):=h1
 have hsz1:w1.heap.size=W1.heap.size:=h3.top 0
 have hgv':GivesV nx' (rnV id v):=nxr_gives h2 hgv
 have hrunW:(execOp a.eval o).run P W'=.ok nx' W1:=by
  have:=Sem.runT_fst P (execOp a.eval o) W' #[]
  rw[hcon,h1 #[]]at this
  rw[hcon]
  exact this.symm
 have hevs:∀e,e∈listed P b.fn a o W'→EvOk ((pcx (mkE P fl gl) W' k0 o0 ch).bnd w1.heap.size) w1 e:=fun e he=>by
  have he:=Conc.mem_listed he
  unfold Sem.events at he
  rw[hcon,h1 #[]]at he
  exact h4 e (by simpa using he)
 have hover:Over P fl gl W' k0 o0 ch id W' w1 W1:=⟨fun _ _=>rfl,h3⟩
 have hout:∀B,B<W'.heap.size→¬o0 B→W1.heap[B]?=W'.heap[B]?:=fun B hB hob=>h3.out B fun b hb e=>by
  have e:b=B:=e
  subst e
  rcases hb with q|q
  ·exact hob q
  ·omega
 obtain ⟨kn1,ow1,k1,kl,k2,k3,ρ,k4⟩:=hp W' W1 v w1 hx hR hover hsz1 hout (by omega)
 refine ⟨_,W1,_,kn1,ow1,stepG_gives ho hw hk hrunW hgv',rfl,⟨h5.1,by rw[h5.2];omega,by omega,h3.rest,fun B hB hob=>hout B hB fun q=>hob (ho0 B q),fun e he=>?_,fun B q hB=>?_,fun B q hB=>?_,kl,k3⟩,ρ,k4⟩
 ·rcases hevs e he with ⟨x,wr,q1,q2,q3,q4⟩|⟨B,wr,s,q1,q2,q3⟩|q
  ·have hxl:x.block<w1.heap.size:=by
    rcases Nat.lt_or_ge x.block w1.heap.size with z|z
    ·exact z
    ·exfalso
     exact q3 (.inr z)
   refine .inl ⟨x,wr,by rw[q1];rfl,by omega,fun z=>⟨hk0 _ (Classical.byContradiction fun y=>q3 (.inl ⟨z,y⟩)),fun y=>?_⟩⟩
   rcases q4 y with q|q
   ·exact ho0 _ q
   ·omega
  ·have hBl:B<w1.heap.size:=by
    rcases Nat.lt_or_ge B w1.heap.size with z|z
    ·exact z
    ·exact absurd (.inr z) q3
   refine .inr (.inl ⟨B,wr,s,q1,by omega,fun z=>?_⟩)
   have:o0 B:=by
    rcases q2 with q|q
    ·exact q
    ·omega
   exact ⟨ho0 B this,hk0 B (hgeo.owk B this)⟩
  ·exact .inr (.inr q)
 ·exact (k1 B q).resolve_right (by omega)
 ·exact (k2 B q).resolve_right (by omega)
theorem path_oper{P:Program}{fl gl:List Nat}(hE:envB P fl gl=true){Goal:Stand}{n:Nat}{b:Frame}{a:Act}{k:List Item}{cs:List Frame}{W:World}{kn ow ch:Nat→Prop}
  (hst:∀W',Ext kn W W'→Geo P W' kn ow ch∧Rdy (mkE P fl gl) W' kn ow ch)
  {ops:Array Oper} {i:Nat} {rest:List Nat} {o:Oper} (ho:ops[i]?=some o) (hw:Region.wanted o (yielded ops a.tmps)=true) (hk:b.kind≠.early) (hop:opB P fl.contains o.op=true)
  (hv:∀x∈o.op.operands,KV kn ch (a.eval x)) {R:World→Value→World→Prop}
  (hr:∀W' w0,Ext kn W W'→Alone W' kn ow ch w0→∃nx v w1,(execOp a.eval o).run P w0=.ok nx w1∧GivesV nx v∧R W' v w1)
  (hp:∀W' W1 v w1,Ext kn W W'→R W' v w1→Over P fl gl W' kn ow ch id W' w1 W1→w1.heap.size=W1.heap.size→∃kn1 ow1,(∀B,kn1 B→knB W' W1 kn id B)∧(∀B,ow1 B→knB W' W1 ow id B)∧(∀B,ow1 B→kn1 B)∧∃ρ,Path (mkE P fl gl) Goal n ρ (G (b.at (a.put o.dst (rnV id v)) (.inRegion ops rest::k)) cs) W1 kn1 ow1):
  ∃ρ,Path (mkE P fl gl) Goal (n+1) ρ (G (b.at a (.inRegion ops (i::rest)::k)) cs) W kn ow:=
 path_oper_in hE (fun _ q=>q) (fun _ q=>q) hst ho hw hk hop hv hr fun W' W1 v w1 hx hR hov hsz _ _=>by
  obtain ⟨kn1,ow1,k1,k2,k3,h⟩:=hp W' W1 v w1 hx hR hov hsz
  have hu:∀{f:Nat→Prop} {B:Nat},knB W' W1 f id B→f B∨W'.heap.size≤B:=fun h=>by
   obtain ⟨-,x,q1,q2⟩:=h
   have q2:x=_:=q2
   subst q2
   exact q1.symm
  exact ⟨kn1,ow1,fun B q=>hu (k1 B q),fun B q=>(k1 B q).1,fun B q=>hu (k2 B q),k3,h⟩
end Go.Proofs.Ytniloklglpchfai
