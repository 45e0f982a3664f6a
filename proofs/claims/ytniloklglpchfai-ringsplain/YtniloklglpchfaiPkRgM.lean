/- A ring's worker: what it has, what it knows, and what lies there. -/
import Derived.Test.YtniloklglpchfaiPkRgI
import Derived.Test.YtniloklglpchfaiPkEqCc
import Derived.Test.YtniloklglpchfaiPkRgH
import Derived.Test.YtniloklglpchfaiPkEqCi
namespace Go.Proofs.Ytniloklglpchfai
open Go Go.RowKit Go.Conc
def rgF:List Nat:=[48,35,36,19,20,43,50,8,12,11,21,13,5,6,10,7]
theorem rg_env:envB Try.prog rgF rgF=true:=ring_env
def G0:Nat:=0
theorem g0_eq:(Try.prog).globals.size=G0:=by kernel_rfl
structure Wkr where
 S:Nat
 T:Nat
 to:Nat
 fr:Nat
 i:Nat
 c:Nat
 n:Nat
 O:Option Nat
 u:Value
 own:List Int
structure Wkr.Ok (x:Wkr):Prop where
 c1:1≤x.c
 c6:x.c≤6
 ic:x.i<x.c
 n60:x.n≤60
 len:x.own.length=x.n
 st:x.S≠x.T
 os:x.O≠some x.S
 ot:x.O≠some x.T
 gs:G0≤x.S
 gt:G0≤x.T
 go:∀B,x.O=some B→G0≤B
def Wkr.k0 (x:Wkr):Nat→Prop:=fun B=>B=x.S∨B=x.T∨x.O=some B
def Wkr.o0 (x:Wkr):Nat→Prop:=fun B=>B=x.T
def Wkr.ch (x:Wkr):Nat→Prop:=fun B=>B=x.to∨B=x.fr
def lsB (L:Option Nat):Nat→Prop:=fun B=>L=some B
abbrev Wkr.kl (x:Wkr) (L:Option Nat):Nat→Prop:=orP x.k0 (lsB L)
abbrev Wkr.ol (x:Wkr) (L:Option Nat):Nat→Prop:=orP x.o0 (lsB L)
def Lst (W:World) (L:Option Nat) (v:Value) (xs:List Int):Prop:=
 (L=none∧v=.slice none 0 0∧xs=[])∨∃(B cap:Nat) (more:List Int) (z:Nat×Nat),L=some B∧v=.slice (some ⟨B,0,none⟩) xs.length cap∧cap=xs.length+more.length∧cap≤maxLen∧W.heap[B]?=some (.cells ((xs++more).map (Value.int .i64)).toArray 3 z)∧z.2≤z.1∧G0≤B
structure Wkr.Mem (x:Wkr) (W:World) (ts:List Int):Prop where
 g0:G0≤W.heap.size
 tol:x.to<W.heap.size
 frl:x.fr<W.heap.size
 S:∃z:Nat×Nat,(∀i,z.1≤i→i<z.2→0≤i)∧W.heap[x.S]?=some (.cells #[.int .i64 x.i,.int .i64 x.c,x.u,.slice (some ⟨x.T,0,none⟩) x.n x.n,.chan (some x.fr),.chan (some x.to)] 56 z)
 T:∃z:Nat×Nat,z.2≤z.1∧W.heap[x.T]?=some (.cells (ts.map (Value.int .i64)).toArray 3 z)
 tl:ts.length=x.n
 O:(x.O=none∧x.u=.slice none 0 0∧x.own=[])∨∃(B off cap:Nat) (cs:Array Value) (e:TypeId) (z:Nat×Nat),x.O=some B∧x.u=.slice (some ⟨B,off,none⟩) x.n cap∧x.n≤cap∧cap≤maxLen∧W.heap[B]?=some (.cells cs e z)∧(∀i,z.1≤i→i<z.2→0≤i)∧(∀v∈cs,∃q,v=.int .i64 q)∧∀(j:Nat) (y:Int),x.own[j]?=some y→cs[off+j]?=some (.int .i64 y)
def Wkr.Off (x:Wkr) (L:Option Nat):Prop:=∀B,lsB L B→¬x.k0 B
def HoldB (ow:Prop) (W W':World) (B:Nat):Prop:=∀cs e z,W.heap[B]?=some (.cells cs e z)→∃z',W'.heap[B]?=some (.cells cs e z')∧(ow→∀i,z'.1≤i→i<z'.2→z.1≤i∧i<z.2)∧(¬ow→∀i,z'.1≤i→i<z'.2→0≤i)
section
variable {x:Wkr} {W W':World} {ts xs:List Int} {L:Option Nat} {v:Value}
theorem Wkr.Mem.s_lt(M:x.Mem W ts):x.S<W.heap.size:=by obtain ⟨z,-,h⟩:=M.S;exact lt_of_some h
theorem Wkr.Mem.t_lt(M:x.Mem W ts):x.T<W.heap.size:=by obtain ⟨z,-,h⟩:=M.T;exact lt_of_some h
theorem Wkr.Mem.k_lt(M:x.Mem W ts):∀B,x.k0 B→B<W.heap.size:=by
 rintro B (rfl|rfl|h)
 ·exact M.s_lt
 ·exact M.t_lt
 ·rcases M.O with ⟨e,-⟩|⟨B',off,cap,cs,e,z,e1,-,-,-,e2,-⟩
  ·rw[e]at h;cases h
  ·rw[e1]at h;obtain rfl:=Option.some.inj h;exact lt_of_some e2
theorem Lst.lt(h:Lst W L v xs):∀B,lsB L B→B<W.heap.size:=by
 intro B hB
 rcases h with ⟨e,-⟩|⟨B',cap,more,z,e,-,-,-,e2,-⟩
 ·unfold lsB at hB;rw[e]at hB;cases hB
 ·unfold lsB at hB;rw[e]at hB;obtain rfl:=Option.some.inj hB;exact lt_of_some e2
theorem Lst.low(h:Lst W L v xs):∀B,lsB L B→G0≤B:=by
 intro B hB
 rcases h with ⟨e,-⟩|⟨B',cap,more,z,e,-,-,-,-,-,e2⟩
 ·unfold lsB at hB;rw[e]at hB;cases hB
 ·unfold lsB at hB;rw[e]at hB;obtain rfl:=Option.some.inj hB;exact e2
theorem Lst.keep(h:Lst W L v xs)(hk:∀B,lsB L B→W'.heap[B]?=W.heap[B]?):Lst W' L v xs:=by
 rcases h with h|⟨B,cap,more,z,e,h1,h2,h3,h4,h5⟩
 ·exact .inl h
 ·exact .inr ⟨B,cap,more,z,e,h1,h2,h3,by rw[hk B e];exact h4,h5⟩
theorem Lst.hold(h:Lst W L v xs)(hk:∀B,lsB L B→HoldB True W W' B):Lst W' L v xs:=by
 rcases h with h|⟨B,cap,more,z,e,h1,h2,h3,h4,h5,h6⟩
 ·exact .inl h
 ·obtain ⟨z',g1,g2,-⟩:=hk B e _ _ _ h4
  exact .inr ⟨B,cap,more,z',e,h1,h2,h3,g1,rng_empty (g2 trivial) h5,h6⟩
theorem Lst.kv(h:Lst W L v xs){kn ch:Nat→Prop}(hk:∀B,lsB L B→kn B):KV kn ch v:=by
 rcases h with ⟨-,rfl,-⟩|⟨B,cap,more,z,e,rfl,-⟩
 ·intro a ha;cases ha
 ·intro a ha;cases ha;exact ⟨hk B e,rfl⟩
theorem Wkr.Mem.here(M:x.Mem W ts):Here W x.k0 x.o0:=⟨M.k_lt,fun _ h=>.inr (.inl h)⟩
theorem Wkr.Mem.hereL(M:x.Mem W ts)(h:Lst W L v xs):Here W (x.kl L) (x.ol L):=⟨fun B q=>q.elim (M.k_lt B) (h.lt B),fun _ q=>q.imp (fun e=>.inr (.inl e)) id⟩
theorem Wkr.Mem.keep(M:x.Mem W ts)(hs:W.heap.size≤W'.heap.size)(hk:∀B,x.k0 B→W'.heap[B]?=W.heap[B]?):x.Mem W' ts:=by
 refine ⟨Nat.le_trans M.g0 hs,Nat.lt_of_lt_of_le M.tol hs,Nat.lt_of_lt_of_le M.frl hs,?_,?_,M.tl,?_⟩
 ·rw[hk x.S (.inl rfl)];exact M.S
 ·rw[hk x.T (.inr (.inl rfl))];exact M.T
 ·rcases M.O with h|⟨B,off,cap,cs,e,z,h1,h2,h3,h4,h5,h6⟩
  ·exact .inl h
  ·exact .inr ⟨B,off,cap,cs,e,z,h1,h2,h3,h4,by rw[hk B (.inr (.inr h1))];exact h5,h6⟩
theorem Wkr.Mem.ext(M:x.Mem W ts){kn:Nat→Prop}(hx:Ext kn W W')(hk:∀B,x.k0 B→kn B):x.Mem W' ts:=M.keep hx.size fun B q=>hx.keep B (hk B q) (M.k_lt B q)
theorem Lst.ext(h:Lst W L v xs){kn:Nat→Prop}(hx:Ext kn W W')(hk:∀B,lsB L B→kn B):Lst W' L v xs:=h.keep fun B q=>hx.keep B (hk B q) (h.lt B q)
theorem Wkr.Mem.next(M:x.Mem W ts)(hs:W.heap.size≤W'.heap.size)(hS:HoldB (x.o0 x.S) W W' x.S)(hO:∀B,x.O=some B→HoldB (x.o0 B) W W' B)(hok:x.Ok){ts':List Int}(htl:ts'.length=x.n)(hT:∃z:Nat×Nat,z.2≤z.1∧W'.heap[x.T]?=some (.cells (ts'.map (Value.int .i64)).toArray 3 z)):x.Mem W' ts':=by
 refine ⟨Nat.le_trans M.g0 hs,Nat.lt_of_lt_of_le M.tol hs,Nat.lt_of_lt_of_le M.frl hs,?_,hT,htl,?_⟩
 ·obtain ⟨z,h1,h2⟩:=M.S
  obtain ⟨z',g1,-,g3⟩:=hS _ _ _ h2
  exact ⟨z',fun i q1 q2=>g3 hok.st i q1 q2,g1⟩
 ·rcases M.O with h|⟨B,off,cap,cs,e,z,h1,h2,h3,h4,h5,h6,h7⟩
  ·exact .inl h
  ·obtain ⟨z',g1,-,g3⟩:=hO B h1 _ _ _ h5
   exact .inr ⟨B,off,cap,cs,e,z',h1,h2,h3,h4,g1,fun i q1 q2=>g3 (fun q=>hok.ot (by rw[h1];exact congrArg some q)) i q1 q2,h7⟩
theorem Wkr.Mem.calm(M:x.Mem W ts)(hs:W.heap.size≤W'.heap.size)(hok:x.Ok)(hk:∀B,x.k0 B→HoldB (x.o0 B) W W' B):x.Mem W' ts:=by
 refine M.next hs (hk _ (.inl rfl)) (fun B q=>hk B (.inr (.inr q))) hok M.tl ?_
 obtain ⟨z,h1,h2⟩:=M.T
 obtain ⟨z',g1,g2,-⟩:=hk x.T (.inr (.inl rfl)) _ _ _ h2
 exact ⟨z',rng_empty (g2 rfl) h1,g1⟩
theorem Wkr.Mem.kv(M:x.Mem W ts){B:Nat}(hB:x.k0 B):∃a e z,W.heap[B]?=some (.cells a e z)∧(∀v∈a,KV x.k0 x.ch v)∧(x.o0 B∨∀i,z.1≤i→i<z.2→0≤i):=by
 rcases hB with rfl|rfl|h
 ·obtain ⟨z,h1,h2⟩:=M.S
  refine ⟨_,_,z,h2,?_,.inr h1⟩
  intro v hv
  have hu:KV x.k0 x.ch x.u:=by
   rcases M.O with ⟨-,e,-⟩|⟨B,off,cap,cs,e,z,g1,g2,-⟩
   ·rw[e];intro a ha;cases ha
   ·rw[g2];intro a ha;cases ha;exact ⟨.inr (.inr g1),rfl⟩
  simp only[List.mem_toArray,List.mem_cons,List.not_mem_nil,or_false]at hv
  rcases hv with rfl|rfl|rfl|rfl|rfl|rfl
  ·trivial
  ·trivial
  ·exact hu
  ·intro a ha;cases ha;exact ⟨.inr (.inl rfl),rfl⟩
  ·intro a ha;cases ha;exact .inr rfl
  ·intro a ha;cases ha;exact .inl rfl
 ·obtain ⟨z,h1,h2⟩:=M.T
  refine ⟨_,_,z,h2,?_,.inl rfl⟩
  intro v hv
  simp only[List.mem_toArray,List.mem_map]at hv
  obtain ⟨y,-,rfl⟩:=hv
  trivial
 ·rcases M.O with ⟨e,-⟩|⟨B',off,cap,cs,e,z,g1,g2,g3,g4,g5,g6,g7,g8⟩
  ·rw[e]at h;cases h
  ·rw[g1]at h
   obtain rfl:=Option.some.inj h
   exact ⟨cs,e,z,g5,fun v hv=>by obtain ⟨q,rfl⟩:=g7 v hv;trivial,.inr g6⟩
theorem Lst.kvs(h:Lst W L v xs){B:Nat}(hB:lsB L B){kn ch:Nat→Prop}:∃a e z,W.heap[B]?=some (.cells a e z)∧(∀v∈a,KV kn ch v)∧(z.2≤z.1):=by
 rcases h with ⟨e,-⟩|⟨B',cap,more,z,e,-,-,-,e2,e3,-⟩
 ·unfold lsB at hB;rw[e]at hB;cases hB
 ·unfold lsB at hB;rw[e]at hB;obtain rfl:=Option.some.inj hB
  refine ⟨_,_,z,e2,?_,e3⟩
  intro v hv
  simp only[List.mem_toArray,List.mem_map]at hv
  obtain ⟨y,-,rfl⟩:=hv
  trivial
theorem Wkr.Mem.geo(M:x.Mem W ts)(hok:x.Ok):Geo Try.prog W x.k0 x.o0 x.ch:=⟨M.g0,fun B hB=>by
 rcases hB with rfl|rfl|h
 ·exact hok.gs
 ·exact hok.gt
 ·exact hok.go B h,M.k_lt,fun B h=>.inr (.inl h),fun B h=>by
 rcases h with rfl|rfl
 ·exact M.tol
 ·exact M.frl⟩
theorem Wkr.Mem.geoL(M:x.Mem W ts)(hok:x.Ok)(h:Lst W L v xs):Geo Try.prog W (x.kl L) (x.ol L) x.ch:=⟨M.g0,fun B hB=>hB.elim ((M.geo hok).kng B) (h.low B),fun B hB=>hB.elim (M.k_lt B) (h.lt B),fun _ hB=>hB.imp (fun e=>.inr (.inl e)) id,(M.geo hok).chl⟩
theorem Rdy.of'{E:Env}{W:World}{kn ow ch:Nat→Prop}(h:∀B,kn B→∃a e z,W.heap[B]?=some (.cells a e z)∧(∀v∈a,KV kn ch v)∧(ow B∨∀i,z.1≤i→i<z.2→0≤i)):Rdy E W kn ow ch:=Rdy.of fun B hB=>by
 obtain ⟨a,e,z,h1,h2,h3⟩:=h B hB
 by_cases q:ow B
 ·exact ⟨a,e,z,h1,.inl ⟨q,h2⟩⟩
 ·exact ⟨a,e,z,h1,.inr ⟨q,h3.resolve_left q⟩⟩
theorem Wkr.Mem.rdy(M:x.Mem W ts):Rdy (mkE Try.prog rgF rgF) W x.k0 x.o0 x.ch:=Rdy.of' fun _ hB=>M.kv hB
theorem Wkr.Mem.kvL(M:x.Mem W ts)(h:Lst W L v xs){B:Nat}(hB:x.kl L B):∃a e z,W.heap[B]?=some (.cells a e z)∧(∀v∈a,KV (x.kl L) x.ch v)∧(x.ol L B∨∀i,z.1≤i→i<z.2→0≤i):=by
 rcases hB with hB|hB
 ·obtain ⟨a,e,z,h1,h2,h3⟩:=M.kv hB
  exact ⟨a,e,z,h1,fun v hv=>(h2 v hv).mono (fun _=>.inl) (fun _=>id),h3.imp .inl id⟩
 ·obtain ⟨a,e,z,h1,h2,h3⟩:=h.kvs (kn:=x.kl L) (ch:=x.ch) hB
  exact ⟨a,e,z,h1,h2,.inl (.inr hB)⟩
theorem Wkr.Mem.rdyL(M:x.Mem W ts)(h:Lst W L v xs):Rdy (mkE Try.prog rgF rgF) W (x.kl L) (x.ol L) x.ch:=Rdy.of' fun _ hB=>M.kvL h hB
theorem Wkr.Mem.cs(M:x.Mem W ts)(j:Nat):W.cell? ⟨x.S,j,none⟩=(#[.int .i64 x.i,.int .i64 x.c,x.u,.slice (some ⟨x.T,0,none⟩) x.n x.n,.chan (some x.fr),.chan (some x.to)]:Array Value)[j]?:=by
 obtain ⟨z,-,h⟩:=M.S
 rw[Joins.cell_of_block h]
theorem Wkr.Mem.own(M:x.Mem W ts)(hok:x.Ok):I_ W x.u x.own∧NilOk x.u:=by
 rcases M.O with ⟨-,e,e2⟩|⟨B,off,cap,cs,e,z,g1,g2,g3,g4,g5,g6,g7,g8⟩
 ·rw[e,e2]
  exact ⟨I_.nil W,fun n k h=>by cases h;exact ⟨rfl,rfl⟩⟩
 ·refine ⟨⟨some ⟨B,off,none⟩,cap,by rw[g2,hok.len],by rw[hok.len];exact g3,g4,.inr ⟨B,off,rfl,fun j y hj=>?_⟩⟩,fun n k h=>by rw[g2]at h;cases h⟩
  rw[Joins.cell_of_block g5]
  exact g8 j y hj
end
theorem Over.hold{P:Program}{fl gl:List Nat}{W V w W' w0:World}{kn ow ch:Nat→Prop}{r:Nat→Nat}(h:Over P fl gl W kn ow ch r V w W')(hgeo:Geo P W kn ow ch)(h0:Alone W kn ow ch w0){B:Nat}(hB:kn B)(hkv:ow B→∀a e z,W.heap[B]?=some (.cells a e z)→∀v∈a,KV kn ch v)(hq:w.heap[B]?=w0.heap[B]?):HoldB (ow B) W W' B:=by
 intro cs e z hW
 by_cases hob:ow B
 ·rw[h0.own hob,hW]at hq
  obtain ⟨z',g1,g2⟩:=h.keeps hgeo.knl hgeo.chl hB hq (hkv hob cs e z hW)
  exact ⟨z',g1,fun _=>g2,fun q=>absurd hob q⟩
 ·obtain ⟨cs',k1,k2,k3⟩:=h0.junk (hgeo.knl B hB) hob hW
  rw[k1]at hq
  obtain ⟨z',g1,g2⟩:=h.block (.inr hB) hq
  rw[h.old B (hgeo.knl B hB),k3 r h.old]at g1
  exact ⟨z',g1,fun q=>absurd q hob,fun _ i q1 q2=>Nat.zero_le _⟩
theorem Over.hold1{P:Program}{fl gl:List Nat}{W V w W' w0:World}{kn ow ch:Nat→Prop}{r:Nat→Nat}(h:Over P fl gl W kn ow ch r V w W')(hgeo:Geo P W kn ow ch)(h0:Alone W kn ow ch w0){B:Nat}(hB:kn B)(hkv:∃a e z,W.heap[B]?=some (.cells a e z)∧(∀v∈a,KV kn ch v)∧(ow B∨∀i,z.1≤i→i<z.2→0≤i))(hq:w.heap[B]?=w0.heap[B]?):HoldB (ow B) W W' B:=by
 refine h.hold hgeo h0 hB (fun _ a e z hW=>?_) hq
 obtain ⟨a',e',z1,h1,h2,-⟩:=hkv
 rw[hW]at h1
 cases h1
 exact h2
theorem Over.above{P:Program}{fl gl:List Nat}{W V w W':World}{kn ow ch:Nat→Prop}{r:Nat→Nat}(h:Over P fl gl W kn ow ch r V w W'){g:Nat}(hg:W.heap.size≤g):W.heap.size≤r g:=by
 rcases Nat.lt_or_ge (r g) W.heap.size with q|q
 ·have:=h.rl.inj (r g) g (h.old _ q)
  omega
 ·exact q
theorem Over.grew{P:Program}{fl gl:List Nat}{W V w W':World}{kn ow ch:Nat→Prop}{r:Nat→Nat}(h:Over P fl gl W kn ow ch r V w W')(hw:W.heap.size≤w.heap.size):W.heap.size≤W'.heap.size:=by
 rcases Nat.eq_zero_or_pos W.heap.size with q|q
 ·omega
 ·have:=h.low (b:=W.heap.size - 1) (by omega)
  rw[h.old _ (by omega)]at this
  omega
theorem ah_nat{c y:Nat}(h1:1≤c):ahX (c:Int) (y:Int)=((y+c - 1) % c:Nat):=by
 unfold ahX
 rw[Int.natCast_emod]
 congr 1
 omega
set_option maxRecDepth 100000 in
set_option maxHeartbeats 1600000 in
theorem addto_none(s:Value)(a:Option Addr)(k:Nat)(w:World):
  Calls Try.prog 20 #[s,.slice a 0 k] w fun e w'=>e=.returned (.tuple #[])∧w'=w:=by
 go_enter Try.func20,Try.ntmps20
 go_wp2
 go_loopw [8] (fun i wr=>i=.int .i64 0∧wr=w) (fun _ _=>0)
 case atStart=>exact ⟨rfl,rfl⟩
 case round=>
  obtain ⟨rfl,rfl⟩:=hrel
  go_wp2
  exact bodyPost_end (v:=.tuple #[]) (by simp[results,Try.results20,go_sem]) rfl ⟨rfl,rfl⟩
def PcO (x:Wkr) (y:Nat) (pv:Value):Prop:=
 (x.O=none∧x.u=.slice none 0 0∧x.own=[]∧pv=.slice none 0 0)∨∃B off cap,x.O=some B∧x.u=.slice (some ⟨B,off,none⟩) x.n cap∧x.n≤cap∧cap≤maxLen∧pv=cutV B off cap (stN x.n x.c y) (stN x.n x.c (y+1))
theorem PcO.kv{x:Wkr}{y:Nat}{pv:Value}(h:PcO x y pv){kn ch:Nat→Prop}(hk:∀B,x.k0 B→kn B):KV kn ch pv:=by
 rcases h with ⟨-,-,-,rfl⟩|⟨B,off,cap,h1,-,-,-,rfl⟩
 ·intro a ha;cases ha
 ·unfold cutV
  split
  ·intro a ha;cases ha;exact ⟨hk _ (.inr (.inr h1)),rfl⟩
  ·intro a ha;cases ha;exact ⟨hk _ (.inr (.inr h1)),rfl⟩
theorem PcO.nil{x:Wkr}{y:Nat}{pv:Value}(h:PcO x y pv):NilOk pv:=by
 rcases h with ⟨-,-,-,rfl⟩|⟨B,off,cap,h1,-,-,-,rfl⟩
 ·intro n k q;cases q;exact ⟨rfl,rfl⟩
 ·intro n k q;unfold cutV at q;split at q<;>cases q
theorem PcO.at_{x:Wkr}{y:Nat}{pv:Value}(h:PcO x y pv){a:Addr}{n k:Nat}(e:pv=.slice (some a) n k):x.O=some a.block:=by
 rcases h with ⟨-,-,-,rfl⟩|⟨B,off,cap,h1,-,-,-,rfl⟩
 ·cases e
 ·unfold cutV at e;split at e<;>(cases e;exact h1)
section
variable {x:Wkr} {W:World} {ts:List Int} {L:Option Nat} {v:Value} {xs:List Int}
theorem PcO.ints{y:Nat}{pv:Value}(h:PcO x y pv)(M:x.Mem W ts)(hok:x.Ok)(hy:y<x.c):I_ W pv (pcL x.n x.c y x.own):=by
 have hin:=stN_in (n:=x.n) hok.c6 hy
 have hlen:=pcL_len hok.c6 hy hok.len
 rcases h with ⟨-,-,eo,rfl⟩|⟨B,off,cap,h1,h2,h3,h4,rfl⟩
 ·have:pcL x.n x.c y x.own=[]:=by rw[eo];simp[pcL]
  rw[this]
  exact I_.nil W
 ·rcases M.O with ⟨e,-⟩|⟨B',off',cap',cs,e,z,g1,g2,g3,g4,g5,g6,g7,g8⟩
  ·rw[e]at h1;cases h1
  ·rw[h2]at g2
   cases g2
   unfold cutV
   split
   ·next hcs=>
    have:pcL x.n x.c y x.own=[]:=List.eq_nil_of_length_eq_zero (by omega)
    rw[this]
    exact ⟨_,0,by rw[show stN x.n x.c (y+1) - stN x.n x.c y=0 by omega];rfl,Nat.le_refl _,Nat.zero_le _,.inl rfl⟩
   ·refine ⟨_,_,by rw[hlen],by omega,by omega,.inr ⟨B,off+stN x.n x.c y,rfl,fun j w hj=>?_⟩⟩
    rw[Joins.cell_of_block g5,Nat.add_assoc]
    refine g8 _ _ ?_
    rw[←hj,pcL_at]
    have:=(List.getElem?_eq_some_iff.1 hj).1
    omega
theorem Wkr.Mem.piece(M:x.Mem W ts)(hok:x.Ok){y:Nat}(hy:y<x.c):∃pv,PcO x y pv∧∀(kn ow:Nat→Prop) w0,(∀B,x.k0 B→kn B)→Alone W kn ow x.ch w0→Calls Try.prog 36 #[.pointer (some ⟨x.S,0,none⟩),x.u,.int .i64 y] w0 (fun e w'=>e=.returned pv∧∀B,B<w0.heap.size→w'.heap[B]?=w0.heap[B]?):=by
 have hc1:=hok.c1
 have hc6:=hok.c6
 have hn:=hok.n60
 rcases M.O with ⟨e,eu,eo⟩|⟨B,off,cap,cs,e,z,g1,g2,g3,g4,g5,g6,g7,g8⟩
 ·refine ⟨.slice none 0 0,.inl ⟨e,eu,eo,rfl⟩,fun kn ow w0 hk h0'=>?_⟩
  rw[eu]
  refine (piece_nil x.S x.c y none 0 w0 ?_ ?_ (by omega) (by omega) (by omega) (by omega)).mono ?_
  ·exact h0'.cell (v:=.int .i64 (x.c:Int)) (by rw[M.cs];rfl) trivial
  ·exact h0'.cell (v:=.slice none 0 0) (by rw[M.cs];show some x.u=_;rw[eu]) (fun a ha=>by cases ha)
  ·rintro e w' ⟨rfl,q,rfl⟩
   exact ⟨rfl,fun B _=>rfl⟩
 ·refine ⟨cutV B off cap (stN x.n x.c y) (stN x.n x.c (y+1)),.inr ⟨B,off,cap,g1,g2,g3,g4,rfl⟩,fun kn ow w0 hk h0=>?_⟩
  rw[g2]
  have hp:=piece_any x.S x.c y (some ⟨B,off,none⟩) x.n cap B off cap w0 (h0.cell (v:=.int .i64 (x.c:Int)) (by rw[M.cs];rfl) trivial) (h0.cell (v:=.slice (some ⟨B,off,none⟩) x.n cap) (by rw[M.cs];show some x.u=_;rw[g2]) (fun a ha=>by cases ha;exact ⟨hk _ (.inr (.inr g1)),rfl⟩)) (by omega) (by omega) (by omega) (by omega) (by omega) (by omega)
  refine hp.mono ?_
  rintro e w' ⟨rfl,q,rfl⟩
  exact ⟨rfl,fun B _=>rfl⟩
theorem Wkr.Mem.pieceT(M:x.Mem W ts)(hok:x.Ok){y:Nat}(hy:y<x.c)(kn ow:Nat→Prop)(w0:World)(hk:∀B,x.k0 B→kn B)(h0:Alone W kn ow x.ch w0):Calls Try.prog 36 #[.pointer (some ⟨x.S,0,none⟩),.slice (some ⟨x.T,0,none⟩) x.n x.n,.int .i64 y] w0 (fun e w'=>e=.returned (cutV x.T 0 x.n (stN x.n x.c y) (stN x.n x.c (y+1)))∧∀B,B<w0.heap.size→w'.heap[B]?=w0.heap[B]?):=by
 have hc1:=hok.c1
 have hc6:=hok.c6
 have hn:=hok.n60
 obtain ⟨a,k,hu,hkv⟩:∃a k,x.u=.slice a x.n k∧KV kn x.ch x.u:=by
  obtain ⟨a,cap,h,-⟩:=(M.own hok).1
  refine ⟨a,cap,by rw[h,hok.len],?_⟩
  rcases M.O with ⟨-,e,-⟩|⟨B,off,cap,cs,e,z,g1,g2,-⟩
  ·rw[e];intro a ha;cases ha
  ·rw[g2];intro a ha;cases ha;exact ⟨hk _ (.inr (.inr g1)),rfl⟩
 have hp:=piece_any x.S x.c y a x.n k x.T 0 x.n w0 (h0.cell (v:=.int .i64 (x.c:Int)) (by rw[M.cs];rfl) trivial) (h0.cell (v:=.slice a x.n k) (by rw[M.cs];show some x.u=_;rw[hu]) (by rw[←hu];exact hkv)) (by omega) (by omega) (by omega) (by omega) (by omega) (Int.le_refl _)
 refine hp.mono ?_
 rintro e w' ⟨rfl,q,rfl⟩
 exact ⟨rfl,fun B _=>rfl⟩
end
section
variable {Goal:Stand} {n:Nat} {b:Frame} {a:Act} {k:List Item} {cs:List Frame} {W:World} {kn ow:Nat→Prop} {m:Nat} {f:Nat→Value} {x:Wkr} {ts:List Int} {L:Option Nat} {v:Value} {xs:List Int}
variable {ops:Array Oper} {i d:Nat} {rest:List Nat} {o:Oper} {ats:Array TypeId}
def After (x:Wkr) (ts:List Int) (L:Option Nat) (v:Value) (xs:List Int) (W':World) (kn2 ow2:Nat→Prop):Prop:=x.Mem W' ts∧Lst W' L v xs∧(∀B,kn2 B→B<W'.heap.size)∧(∀B,x.kl L B→kn2 B)∧(∀B,x.ol L B→ow2 B)
theorem Wkr.olk(x:Wkr)(L:Option Nat):∀B,x.ol L B→x.kl L B:=fun _ q=>q.imp (fun e=>.inr (.inl e)) id
theorem wk_calm(hok:x.Ok)(M:x.Mem W ts)(hL:Lst W L v xs)(hl:∀B,kn B→B<W.heap.size)(hk1:∀B,x.kl L B→kn B)(ho1:∀B,x.ol L B→ow B)(hs:Slots a m f){fi:FuncId}{fn:Func}{c:Code}{args:Array Operand}(vs:Array Value)(v0:Value)(ho:ops[i]?=some o)(hdst:o.dst=some d)(hd:d<m)(hw:∀t,Region.wanted o (yielded ops t)=true)(hk:b.kind≠.early)(hop:o.op=.call { callee:=.value (.func fi),args,argTypes:=ats })
  (hfl : rgF.contains fi = true) (hf : (Try.prog).funcs[fi]? = some fn) (hname : (fn.name == "runtime.NumGoroutine") = false) (hb : fn.body = some c) (hargs : ∀ a : Act, (∀ k, a.tmps.getD k undef = f k) → args.map a.eval = vs) (hvs : ∀ v ∈ vs, KV (x.kl L) x.ch v) (hv0 : KV (x.kl L) x.ch v0)
  (hc:∀w0,Alone W (x.kl L) (x.ol L) x.ch w0→Calls Try.prog fi vs w0 (fun e w'=>e=.returned v0∧∀B,B<w0.heap.size→w'.heap[B]?=w0.heap[B]?))
  (hp:∀W' kn2 ow2,After x ts L v xs W' kn2 ow2→∀a',Slots a' m (upF f d v0)→∃ρ',Path (mkE Try.prog rgF rgF) Goal n ρ' (G (b.at a' (.inRegion ops rest::k)) cs) W' kn2 ow2):
  ∃ρ,Path (mkE Try.prog rgF rgF) Goal (n+2) ρ (G (b.at a (.inRegion ops (i::rest)::k)) cs) W kn ow:=by
 refine path_calm rg_env hl hk1 ho1 (M.geoL hok hL) (fun B cs e z hB hW=>?_) (M.rdyL hL) hs vs v0 ho hdst hd hw hk hop hfl hf hname hb hargs hvs hv0 hc fun W' kn2 ow2 hh hsz h1 h2 h3 a' hs'=>hp W' kn2 ow2 ⟨M.calm hsz hok fun B hB cs e z hW=>?_,hL.hold fun B hB cs e z hW=>?_,h3,h1,h2⟩ a' hs'
 ·obtain ⟨a,e',z',q1,q2,-⟩:=M.kvL hL hB
  rw[hW]at q1
  cases q1
  exact q2
 ·obtain ⟨z',q1,q2,q3⟩:=hh B cs e z (.inl hB) hW
  exact ⟨z',q1,fun q=>q2 (.inl q),fun q i q4 q5=>by
   by_cases hob:x.ol L B
   ·have:=q2 hob i q4 q5
    obtain ⟨a,e',z1,r1,-,r3⟩:=M.kv hB
    rw[hW]at r1
    cases r1
    rcases r3 with r3|r3
    ·exact absurd r3 q
    ·exact r3 i this.1 this.2
   ·exact q3 hob i q4 q5⟩
 ·obtain ⟨z',q1,q2,-⟩:=hh B cs e z (.inr hB) hW
  exact ⟨z',q1,fun _=>q2 (.inr hB),fun q=>absurd trivial q⟩
theorem wk_ahead(hok:x.Ok)(M:x.Mem W ts)(hL:Lst W L v xs)(hl:∀B,kn B→B<W.heap.size)(hk1:∀B,x.kl L B→kn B)(ho1:∀B,x.ol L B→ow B)(hs:Slots a m f){p q y:Nat}(ho:ops[i]?=some o)(hdst:o.dst=some d)(hd:d<m)(hw:∀t,Region.wanted o (yielded ops t)=true)(hk:b.kind≠.early)(hop:o.op=.call { callee:=.value (.func 35),args:=#[.tmp p,.tmp q],argTypes:=ats })
  (e1:f p=.pointer (some ⟨x.S,0,none⟩)) (e2:f q=.int .i64 (y:Int)) (hy:y<x.c)
  (hp:∀W' kn2 ow2,After x ts L v xs W' kn2 ow2→∀a',Slots a' m (upF f d (.int .i64 ((y+x.c - 1) % x.c:Nat)))→∃ρ',Path (mkE Try.prog rgF rgF) Goal n ρ' (G (b.at a' (.inRegion ops rest::k)) cs) W' kn2 ow2):
  ∃ρ,Path (mkE Try.prog rgF rgF) Goal (n+2) ρ (G (b.at a (.inRegion ops (i::rest)::k)) cs) W kn ow:=by
 have hc1:=hok.c1
 have hc6:=hok.c6
 refine wk_calm hok M hL hl hk1 ho1 hs #[.pointer (some ⟨x.S,0,none⟩),.int .i64 (y:Int)] (.int .i64 ((y+x.c - 1) % x.c:Nat)) ho hdst hd hw hk hop (by decide) Try.func35 rfl rfl (fun a h=>?_) (fun v hv=>?_) trivial (fun w0 h0=>?_) hp
 ·have q1:=(h p).trans e1
  have q2:=(h q).trans e2
  simp[Act.eval,q1,q2,-Array.getD_eq_getD_getElem?]
 ·simp only[List.mem_toArray,List.mem_cons,List.not_mem_nil,or_false]at hv
  rcases hv with rfl|rfl
  ·intro a ha;cases ha;exact .inl (.inl rfl)
  ·trivial
 ·have h1:w0.cell? ⟨x.S,1,none⟩=some (.int .i64 (x.c:Int)):=h0.cell (by rw[M.cs];rfl) trivial
  refine (ahead_any x.S x.c y w0 h1 (by omega) (by omega) (by omega) (by omega)).mono ?_
  rintro e w' ⟨rfl,q,rfl⟩
  exact ⟨by rw[ah_nat hc1],fun B _=>rfl⟩
theorem wk_pieceO(hok:x.Ok)(M:x.Mem W ts)(hL:Lst W L v xs)(hl:∀B,kn B→B<W.heap.size)(hk1:∀B,x.kl L B→kn B)(ho1:∀B,x.ol L B→ow B)(hs:Slots a m f){p q r y:Nat}(ho:ops[i]?=some o)(hdst:o.dst=some d)(hd:d<m)(hw:∀t,Region.wanted o (yielded ops t)=true)(hk:b.kind≠.early)(hop:o.op=.call { callee:=.value (.func 36),args:=#[.tmp p,.tmp q,.tmp r],argTypes:=ats })
  (e1:f p=.pointer (some ⟨x.S,0,none⟩)) (e2:f q=x.u) (e3:f r=.int .i64 (y:Int)) (hy:y<x.c)
  (hp:∀W' kn2 ow2 pv,After x ts L v xs W' kn2 ow2→PcO x y pv→∀a',Slots a' m (upF f d pv)→∃ρ',Path (mkE Try.prog rgF rgF) Goal n ρ' (G (b.at a' (.inRegion ops rest::k)) cs) W' kn2 ow2):
  ∃ρ,Path (mkE Try.prog rgF rgF) Goal (n+2) ρ (G (b.at a (.inRegion ops (i::rest)::k)) cs) W kn ow:=by
 obtain ⟨pv,h1,h2⟩:=M.piece hok hy
 refine wk_calm hok M hL hl hk1 ho1 hs #[.pointer (some ⟨x.S,0,none⟩),x.u,.int .i64 (y:Int)] pv ho hdst hd hw hk hop (by decide) Try.func36 rfl rfl (fun a h=>?_) (fun v hv=>?_) (h1.kv fun _=>.inl) (fun w0 h0=>h2 _ _ w0 (fun _=>.inl) h0) fun W' kn2 ow2 hA=>hp W' kn2 ow2 pv hA h1
 ·have q1:=(h p).trans e1
  have q2:=(h q).trans e2
  have q3:=(h r).trans e3
  simp[Act.eval,q1,q2,q3,-Array.getD_eq_getD_getElem?]
 ·simp only[List.mem_toArray,List.mem_cons,List.not_mem_nil,or_false]at hv
  rcases hv with rfl|rfl|rfl
  ·intro a ha;cases ha;exact .inl (.inl rfl)
  ·rcases M.O with ⟨-,e,-⟩|⟨B,off,cap,cs,e,z,g1,g2,-⟩
   ·rw[e];intro a ha;cases ha
   ·rw[g2];intro a ha;cases ha;exact ⟨.inl (.inr (.inr g1)),rfl⟩
  ·trivial
theorem wk_pieceT(hok:x.Ok)(M:x.Mem W ts)(hL:Lst W L v xs)(hl:∀B,kn B→B<W.heap.size)(hk1:∀B,x.kl L B→kn B)(ho1:∀B,x.ol L B→ow B)(hs:Slots a m f){p q r y:Nat}(ho:ops[i]?=some o)(hdst:o.dst=some d)(hd:d<m)(hw:∀t,Region.wanted o (yielded ops t)=true)(hk:b.kind≠.early)(hop:o.op=.call { callee:=.value (.func 36),args:=#[.tmp p,.tmp q,.tmp r],argTypes:=ats })
  (e1:f p=.pointer (some ⟨x.S,0,none⟩)) (e2:f q=.slice (some ⟨x.T,0,none⟩) x.n x.n) (e3:f r=.int .i64 (y:Int)) (hy:y<x.c)
  (hp:∀W' kn2 ow2,After x ts L v xs W' kn2 ow2→∀a',Slots a' m (upF f d (cutV x.T 0 x.n (stN x.n x.c y) (stN x.n x.c (y+1))))→∃ρ',Path (mkE Try.prog rgF rgF) Goal n ρ' (G (b.at a' (.inRegion ops rest::k)) cs) W' kn2 ow2):
  ∃ρ,Path (mkE Try.prog rgF rgF) Goal (n+2) ρ (G (b.at a (.inRegion ops (i::rest)::k)) cs) W kn ow:=by
 refine wk_calm hok M hL hl hk1 ho1 hs #[.pointer (some ⟨x.S,0,none⟩),.slice (some ⟨x.T,0,none⟩) x.n x.n,.int .i64 (y:Int)] _ ho hdst hd hw hk hop (by decide) Try.func36 rfl rfl (fun a h=>?_) (fun v hv=>?_) ?_ (fun w0 h0=>M.pieceT hok hy _ _ w0 (fun _=>.inl) h0) hp
 ·have q1:=(h p).trans e1
  have q2:=(h q).trans e2
  have q3:=(h r).trans e3
  simp[Act.eval,q1,q2,q3,-Array.getD_eq_getD_getElem?]
 ·simp only[List.mem_toArray,List.mem_cons,List.not_mem_nil,or_false]at hv
  rcases hv with rfl|rfl|rfl
  ·intro a ha;cases ha;exact .inl (.inl rfl)
  ·intro a ha;cases ha;exact ⟨.inl (.inr (.inl rfl)),rfl⟩
  ·trivial
 ·unfold cutV
  split
  ·intro a ha;cases ha;exact ⟨.inl (.inr (.inl rfl)),rfl⟩
  ·intro a ha;cases ha;exact ⟨.inl (.inr (.inl rfl)),rfl⟩
theorem lst_none(W:World):Lst W none (.slice none 0 0) []:=.inl ⟨rfl,rfl,rfl⟩
theorem wk_clone(hok:x.Ok)(M:x.Mem W ts)(hl:∀B,kn B→B<W.heap.size)(hk1:∀B,x.k0 B→kn B)(ho1:∀B,x.o0 B→ow B)(hs:Slots a m f){p y:Nat}{pv:Value}(ho:ops[i]?=some o)(hdst:o.dst=some d)(hd:d<m)(hw:∀t,Region.wanted o (yielded ops t)=true)(hk:b.kind≠.early)(hop:o.op=.call { callee:=.value (.func 19),args:=#[.tmp p],argTypes:=ats })
  (e1:f p=pv) (hpv:PcO x y pv) (hy:y<x.c)
  (hp:∀W' kn2 ow2 L v,After x ts L v (pcL x.n x.c y x.own) W' kn2 ow2→x.Off L→∀a',Slots a' m (upF f d v)→∃ρ',Path (mkE Try.prog rgF rgF) Goal n ρ' (G (b.at a' (.inRegion ops rest::k)) cs) W' kn2 ow2):
  ∃ρ,Path (mkE Try.prog rgF rgF) Goal (n+2) ρ (G (b.at a (.inRegion ops (i::rest)::k)) cs) W kn ow:=by
 have hlen:=pcL_len hok.c6 hy hok.len
 have hin:=stN_in (n:=x.n) hok.c6 hy
 have hn:=hok.n60
 have hgeo:=M.geo hok
 refine path_call rg_env hl hk1 ho1 hgeo M.rdy hs #[pv] ho hdst hd hw hk hop (by decide) Try.func19 rfl rfl (fun a h=>?_) (fun v hv=>?_) (R:=fun v w=>∃w0,Alone W x.k0 x.o0 x.ch w0∧OwnZ w w0.heap.size v (pcL x.n x.c y x.own)∧AllI w v∧Below w0.heap.size w0 w) (fun w0 h0=>?_) fun r V W' w v h1 h2 h3 a' hs'=>?_
 ·have q1:=(h p).trans e1
  simp[Act.eval,q1,-Array.getD_eq_getD_getElem?]
 ·simp only[List.mem_toArray,List.mem_cons,List.not_mem_nil,or_false]at hv
  subst hv
  exact hpv.kv fun _=>id
 ·have hI:I_ w0 pv (pcL x.n x.c y x.own):=by
   obtain ⟨a,cap,q1,q2,q3,q4⟩:=hpv.ints M hok hy
   refine ⟨a,cap,q1,q2,q3,q4.imp id ?_⟩
   rintro ⟨B,off,q5,q6⟩
   exact ⟨B,off,q5,fun j w hj=>h0.cell (q6 j w hj) trivial⟩
  refine (clone_int pv _ w0 hI hpv.nil (by omega)).mono ?_
  rintro e w' ⟨s,rfl,q1,q2,q3⟩
  exact ⟨s,rfl,w0,h0,q1,q2,q3⟩
 ·obtain ⟨w0,h0,q1,q2,q3⟩:=h3
  have hsz:=h0.size
  have hgr:W.heap.size≤W'.heap.size:=h1.grew (by have:=q3.size;omega)
  have hho:∀B,x.k0 B→HoldB (x.o0 B) W W' B:=fun B hB=>h1.hold1 hgeo h0 hB (M.kv hB) (q3.block B (by have:=hgeo.knl B hB;omega))
  have hM':=M.calm hgr hok hho
  have hk2:∀B,x.k0 B→knB W W' x.k0 r B:=fun B hB=>⟨hM'.k_lt B hB,B,.inr hB,h1.old B (hgeo.knl B hB)⟩
  have ho2:∀B,x.o0 B→knB W W' x.o0 r B:=fun B hB=>⟨hM'.k_lt B (.inr (.inl hB)),B,.inr hB,h1.old B (hgeo.knl B (.inr (.inl hB)))⟩
  rcases q1.row q2 with ⟨rfl,e0⟩|⟨g,cap,more,ev,g1,g2,g3⟩
  ·have hs2:Slots a' m (upF f d (.slice none 0 0)):=by simpa [rnS_none,rnV] using hs'
   refine hp W' _ _ none (.slice none 0 0) ⟨hM',by rw[e0];exact lst_none _,fun B q=>q.1,fun B hB=>hB.elim (hk2 B) (fun q=>by cases q),fun B hB=>hB.elim (ho2 B) (fun q=>by cases q)⟩ (fun B q=>by cases q) a' hs2
  ·subst ev
   obtain ⟨z',r1,r2⟩:=h1.fresh (b:=g) (by omega) g3
   have hab:=h1.above (g:=g) (by omega)
   have hs2:Slots a' m (upF f d (.slice (some ⟨r g,0,none⟩) (pcL x.n x.c y x.own).length cap)):=by simpa [rnS_at,rnV,rnA] using hs'
   have hcm:cap≤maxLen:=by
    obtain ⟨a,c',e,-,q,-⟩:=q1.isInts
    cases e
    exact q
   refine hp W' _ _ (some (r g)) _ ⟨hM',.inr ⟨r g,cap,more,z',rfl,rfl,g2,hcm,r1,rng_empty r2 (Nat.le_refl _),by have:=hgeo.glo;rw[g0_eq]at this;omega⟩,fun B q=>q.1,fun B hB=>hB.elim (hk2 B) (fun q=>?_),fun B hB=>hB.elim (ho2 B) (fun q=>?_)⟩ (fun B q z=>?_) a' hs2
   ·obtain rfl:r g=B:=Option.some.inj q
    exact ⟨lt_of_some r1,g,.inl (by omega),rfl⟩
   ·obtain rfl:r g=B:=Option.some.inj q
    exact ⟨lt_of_some r1,g,.inl (by omega),rfl⟩
   ·obtain rfl:r g=B:=Option.some.inj q
    have:=hgeo.knl _ z
    omega
end
end Go.Proofs.Ytniloklglpchfai
