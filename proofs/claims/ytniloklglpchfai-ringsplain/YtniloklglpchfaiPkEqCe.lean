/- Calls in company: what lies alone lies there, and what comes of it. No program in sight. -/
import Derived.Test.YtniloklglpchfaiPkEqCc
import Derived.Conc.TokenWalk
import Derived.Conc.Own4
namespace Go.Proofs.Ytniloklglpchfai
open Go
section
variable {W w0:World} {kn ow ch:Nat→Prop}
theorem Alone.size(h:Alone W kn ow ch w0):w0.heap.size=W.heap.size:=by
 obtain ⟨σ,s,-,-,-,rfl⟩:=h
 unfold hereW
 simp
theorem Alone.cell(h:Alone W kn ow ch w0){a:Addr}{v:Value}(hc:W.cell? a=some v)(hv:KV kn ch v):w0.cell? a=some v:=by
 obtain ⟨σ,s,hs,-,-,rfl⟩:=h
 unfold World.cell? at hc ⊢
 rw[here_at]
 cases hb:W.heap[a.block]? with
 |none=>rw[hb]at hc;cases hc
 |some o=>
  rw[hb]at hc
  simp only[Option.map_some]
  by_cases q:ow a.block∨W.heap.size≤a.block
  ·rw[if_pos q];exact hc
  ·rw[if_neg q]
   cases o with
   |cells c e z=>
    simp only[frz]at hc ⊢
    by_cases hsp:a.spot.isSome=true
    ·rw[if_pos hsp]at hc;cases hc
    ·rw[if_neg hsp]at hc ⊢
     rw[Array.getElem?_map,hc]
     simp[hs v hv]
   |_=>exact hc
theorem Alone.wd(h:Alone W kn ow ch w0){a x:Addr}(hc:W.cell? a=some (.slice (some x) 0 0)):∃y,w0.cell? a=some (.slice (some y) 0 0):=by
 obtain ⟨σ,s,-,-,hw,rfl⟩:=h
 unfold World.cell? at hc ⊢
 rw[here_at]
 cases hb:W.heap[a.block]? with
 |none=>rw[hb]at hc;cases hc
 |some o=>
  rw[hb]at hc
  simp only[Option.map_some]
  by_cases q:ow a.block∨W.heap.size≤a.block
  ·rw[if_pos q];exact ⟨x,hc⟩
  ·rw[if_neg q]
   cases o with
   |cells c e z=>
    simp only[frz]at hc ⊢
    by_cases hsp:a.spot.isSome=true
    ·rw[if_pos hsp]at hc;cases hc
    ·rw[if_neg hsp]at hc ⊢
     obtain ⟨y,hy⟩:=hw x
     exact ⟨y,by rw[Array.getElem?_map,hc];simp[hy]⟩
   |_=>exact ⟨x,hc⟩
theorem Alone.own(h:Alone W kn ow ch w0){b:Nat}(hb:ow b):w0.heap[b]?=W.heap[b]?:=by
 obtain ⟨σ,s,-,-,-,rfl⟩:=h
 rw[here_at]
 cases W.heap[b]? with
 |none=>rfl
 |some o=>simp[hb]
end
section
variable {P:Program} {fl gl:List Nat} {W V w W':World} {kn ow ch:Nat→Prop} {r:Nat→Nat}
theorem over_meets{b:Nat}(hb:kn b)(hl:b<w.heap.size):¬(((pcx (mkE P fl gl) W kn ow ch).re r V).bnd w.heap.size).ob b:=fun q=>by
 rcases q with q|q
 ·exact q.2 hb
 ·omega
theorem over_new{b:Nat}(hb:W.heap.size≤b)(hl:b<w.heap.size):¬(((pcx (mkE P fl gl) W kn ow ch).re r V).bnd w.heap.size).ob b:=fun q=>by
 rcases q with q|q
 ·have:=q.1;omega
 ·omega
theorem Over.block(h:Over P fl gl W kn ow ch r V w W'){b:Nat}(hb:W.heap.size≤b∨kn b){cs:Array Value}{e:TypeId}{z:Nat×Nat}(ho:w.heap[b]?=some (.cells cs e z)):∃z',W'.heap[r b]?=some (.cells (cs.map (rnV r)) e z')∧∀i,z'.1≤i→i<z'.2→z.1≤i∧i<z.2:=by
 have hl:=lt_of_some ho
 have hob:¬(((pcx (mkE P fl gl) W kn ow ch).re r V).bnd w.heap.size).ob b:=by
  rcases hb with q|q
  ·exact over_new q hl
  ·exact over_meets q hl
 obtain ⟨_,_,z',h1,h2⟩:=h.rl.blk b _ hob ho
 exact ⟨z',h1,h2⟩
theorem Over.low(h:Over P fl gl W kn ow ch r V w W'){b:Nat}(hb:b<w.heap.size):r b<W'.heap.size:=Rl.low (d:=(pcx (mkE P fl gl) W kn ow ch).re r V) h.rl hb
theorem Over.known(h:Over P fl gl W kn ow ch r V w W'){b:Nat}(hb:kn b)(hl:b<W.heap.size)(hw:b<w.heap.size):knB W W' kn r b:=⟨by have:=h.low hw;rw[h.old b hl]at this;exact this,b,.inr hb,h.old b hl⟩
theorem Over.knew(h:Over P fl gl W kn ow ch r V w W'){b:Nat}(hb:W.heap.size≤b)(hw:b<w.heap.size):knB W W' kn r (r b):=⟨h.low hw,b,.inl hb,rfl⟩
end
theorem Rdy.of{E:Env}{W:World}{kn ow ch:Nat→Prop}(h:∀B,kn B→∃a e z,W.heap[B]?=some (.cells a e z)∧((ow B∧∀v∈a,KV kn ch v)∨(¬ow B∧∀i,z.1≤i→i<z.2→0≤i))):Rdy E W kn ow ch:=by
 have hl:∀B,kn B→B<W.heap.size:=fun B hB=>by
  obtain ⟨a,e,z,h1,-⟩:=h B hB
  exact lt_of_some h1
 intro s hs B o hB ho
 have hk:kn B:=Classical.byContradiction fun q=>hB ⟨lt_of_some ho,q⟩
 obtain ⟨a,e,z,h1,h3⟩:=h B hk
 obtain rfl:o=.cells a e z:=Option.some.inj (ho.symm.trans h1)
 by_cases q:ow B∨W.heap.size≤B
 ·rw[if_pos (show (pcx E W kn ow ch).own B from q)]
  have h2:∀v∈a,KV kn ch v:=by
   rcases h3 with h3|h3
   ·exact h3.2
   ·rcases q with q|q
    ·exact absurd q h3.1
    ·exact absurd (lt_of_some h1) (Nat.not_lt.2 q)
  have hO:some (Obj.cells a e z)=some (.cells (a.map (rnV ((pcx E W kn ow ch).bnd W.heap.size).r)) e z):=by
   show _=some (Obj.cells (a.map (rnV id)) e z)
   rw[KV.rns h2]
  exact ⟨fun q'=>absurd q q',fun v hv=>KV.ok hl (h2 v hv),z,hO,fun i q1 q2=>⟨q1,q2⟩⟩
 ·rw[if_neg (show ¬(pcx E W kn ow ch).own B from q)]
  rcases h3 with h3|h3
  ·exact absurd (.inl h3.1) q
  ·have hO:some (Obj.cells a e z)=some (.cells ((a.map s).map (rnV ((pcx E W kn ow ch).bnd W.heap.size).r)) e z):=by
    show _=some (Obj.cells ((a.map s).map (rnV id)) e z)
    rw[Array.map_map]
    have:a.map (rnV id ∘ s)=a:=(Array.map_congr_left fun v _=>(hs v).2.1).trans (by simp)
    rw[this]
   refine ⟨fun _=>⟨rfl,by simp;omega⟩,fun v hv=>?_,z,hO,fun i q1 q2=>⟨Nat.zero_le _,by show i<max a.size z.2;omega⟩⟩
   obtain ⟨u,-,rfl⟩:=Array.mem_map.1 hv
   exact (hs u).1
section
variable {P:Program} {fl gl:List Nat} {W V w W':World} {kn ow ch:Nat→Prop} {r:Nat→Nat}
theorem Over.same(h:Over P fl gl W kn ow ch r V w W')(hl:∀B,kn B→B<W.heap.size)(hc:∀B,ch B→B<W.heap.size):∀{v:Value},KV kn ch v→rnV r v=v
 |.int _ _,_=>by simp[rnV]
 |.bool _,_=>by simp[rnV]
 |.string _,_=>by simp[rnV]
 |.nilIface,_=>by simp[rnV]
 |.pointer none,_=>by simp[rnV]
 |.pointer (some x),q=>by simp[rnV,rnA,h.old _ (hl _ (q x rfl))]
 |.slice none _ _,_=>by simp[rnV,rnS_none]
 |.slice (some x) _ _,q=>by simp only[rnV];rw[rnS_ok _ _ fun y e=>(q y e).2];simp[rnA,h.old _ (hl _ (q x rfl).1)]
 |.chan none,_=>by simp[rnV]
 |.chan (some x),q=>by simp[rnV,h.old _ (hc _ (q x rfl))]
theorem Over.keeps(h:Over P fl gl W kn ow ch r V w W')(hl:∀B,kn B→B<W.heap.size)(hc:∀B,ch B→B<W.heap.size){b:Nat}(hb:kn b){cs:Array Value}{e:TypeId}{z:Nat×Nat}(ho:w.heap[b]?=some (.cells cs e z))(hk:∀v∈cs,KV kn ch v):∃z',W'.heap[b]?=some (.cells cs e z')∧∀i,z'.1≤i→i<z'.2→z.1≤i∧i<z.2:=by
 obtain ⟨z',h1,h2⟩:=h.block (.inr hb) ho
 rw[h.old b (hl b hb)]at h1
 refine ⟨z',?_,h2⟩
 rw[h1]
 congr 2
 apply Array.ext (by simp)
 intro i q1 q2
 simp only[Array.getElem_map]
 exact h.same hl hc (hk _ (Array.getElem_mem q2))
theorem Over.fresh(h:Over P fl gl W kn ow ch r V w W'){b:Nat}(hb:W.heap.size≤b){zs:List Int}{e:TypeId}{z:Nat×Nat}(ho:w.heap[b]?=some (.cells (zs.map (Value.int .i64)).toArray e z)):∃z',W'.heap[r b]?=some (.cells (zs.map (Value.int .i64)).toArray e z')∧∀i,z'.1≤i→i<z'.2→z.1≤i∧i<z.2:=by
 obtain ⟨z',h1,h2⟩:=h.block (.inl hb) ho
 refine ⟨z',?_,h2⟩
 rw[h1]
 congr 2
 simp[rnV]
end
theorem rng_empty{z z':Nat×Nat}(h:∀i,z'.1≤i→i<z'.2→z.1≤i∧i<z.2)(hz:z.2≤z.1):z'.2≤z'.1:=by
 rcases Nat.lt_or_ge z'.1 z'.2 with q|q
 ·have:=h z'.1 (Nat.le_refl _) q
  omega
 ·exact q
end Go.Proofs.Ytniloklglpchfai
/- Ways in company: a send and a receive, in the walk's style. No program in sight. -/
namespace Go.Proofs.Ytniloklglpchfai
open Go Go.Conc
section
variable {E:Env} {M:Msg} {Fin:Stand} {b:Frame} {a:Act} {k:List Item} {cs:List Frame} {W:World} {kn ow:Nat→Prop} {m N:Nat} {f:Nat→Value}
theorem served_put{ops:Array Oper}{i:Nat}{rest:List Nat}{o:Oper}(ho:ops[i]?=some o)(v:Value):Conc.served (G (b.at a (.inRegion ops (i::rest)::k)) cs) v=G (b.at (a.put o.dst v) (.inRegion ops rest::k)) cs:=by
 rw[served_G]
 simp[ho]
theorem path_send(hM:M.Fast){ops:Array Oper}{i:Nat}{rest:List Nat}{o:Oper}{x y:Operand}{c j:Nat}{l:List Cm}{v:Value}(mb mo k1 o1:Nat→Prop)(ho:ops[i]?=some o)(hw:Region.wanted o (yielded ops a.tmps)=true)(hk:b.kind≠.early)(hop:o.op=.send x y)(hx:a.eval x=.chan (some c))(hy:a.eval y=v)
  (hm:M c j v W mb mo) (hs:Split kn ow k1 o1 mb mo) {n:Nat} (hp:∃ρ,Path E (Run E M Fin l) n ρ (G (b.at (a.put o.dst undef) (.inRegion ops rest::k)) cs) W k1 o1):∃ρ,Path E (Run E M Fin ((true,c,j)::l)) N ρ (G (b.at a (.inRegion ops (i::rest)::k)) cs) W kn ow:=by
 refine ⟨fun _=>0,Path.done fun W' hx'=>⟨rfl,G (b.at a (.inRegion ops (i::rest)::k)) cs,v,.tuple #[],fun _=>?_,?_⟩⟩
 ·rw[stepG_comm (cases:=#[scase c v (.tuple #[])]) (blocking:=true) (shape:=.send) (w':=W') ho hw hk (by simp[execOp,hop,hx,hy,scase]),listed_none]
  unfold execOp
  simp only[hop]
  rfl
 ·refine Puts.ext hM (W:=W) ?_ hx'
  obtain ⟨ρ,hp⟩:=hp
  exact ⟨mb,mo,k1,o1,hm,hs,n,ρ,by rw[served_put ho];exact hp⟩
theorem path_recv{ops:Array Oper}{i:Nat}{rest:List Nat}{o:Oper}{c j:Nat}{l:List Cm}{z:Value}(ho:ops[i]?=some o)(hw:Region.wanted o (yielded ops a.tmps)=true)(hk:b.kind≠.early)
  (hr:∀W',(execOp a.eval o).run E.P W'=.ok (.comm #[rcase c z] true (.recv false)) W') (he:∀W',(execOp a.eval o).events E.P W' #[]=#[])
  (hp:∀W' v mb mo,Ext kn W W'→M c j v W' mb mo→(∀B,mb B→B<W'.heap.size)→(∀B,mo B→mb B)→(∀B,mo B→¬kn B)→(∀B,mb B→¬ow B)→∃n ρ,Path E (Run E M Fin l) n ρ (G (b.at (a.put o.dst v) (.inRegion ops rest::k)) cs) W' (orP kn mb) (orP ow mo)):
  ∃ρ,Path E (Run E M Fin ((false,c,j)::l)) N ρ (G (b.at a (.inRegion ops (i::rest)::k)) cs) W kn ow:=by
 refine ⟨fun _=>0,Path.done fun W' hx'=>⟨rfl,G (b.at a (.inRegion ops (i::rest)::k)) cs,z,false,fun _=>?_,?_⟩⟩
 ·rw[stepG_comm ho hw hk (hr W'),listed_none (he W')]
 ·refine Gets.ext (W:=W) ?_ hx'
  intro W2 v mb mo h1 h2 h3 h4 h5 h6
  obtain ⟨n,ρ,q⟩:=hp W2 v mb mo h1 h2 h3 h4 h5 h6
  exact ⟨n,ρ,by rw[served_put ho];exact q⟩
theorem path_slot_send(hM:M.Fast)(hs0:Slots a m f){ops:Array Oper}{i:Nat}{rest:List Nat}{o:Oper}{p q:Nat}{c j:Nat}{l:List Cm}{v:Value}(mb mo k1 o1:Nat→Prop)(ho:ops[i]?=some o)(hdst:o.dst=none)(hw:∀t,Region.wanted o (yielded ops t)=true)(hk:b.kind≠.early)(hop:o.op=.send (.tmp p) (.tmp q))(hx:f p=.chan (some c))(hy:f q=v)
  (hm:M c j v W mb mo) (hs:Split kn ow k1 o1 mb mo) {n:Nat} (hp:∀a',Slots a' m f→∃ρ,Path E (Run E M Fin l) n ρ (G (b.at a' (.inRegion ops rest::k)) cs) W k1 o1):∃ρ,Path E (Run E M Fin ((true,c,j)::l)) N ρ (G (b.at a (.inRegion ops (i::rest)::k)) cs) W kn ow:=by
 refine path_send hM mb mo k1 o1 ho (hw _) hk hop ?_ ?_ hm hs (n:=n) ?_
 ·show a.tmps.getD p undef=_
  rw[hs0.at_,hx]
 ·show a.tmps.getD q undef=_
  rw[hs0.at_,hy]
 ·rw[hdst]
  exact hp a hs0
end
section
variable {E:Env} {Goal:Stand} {n:Nat} {b c:Frame} {a:Act} {k:List Item} {cs:List Frame} {W:World} {kn ow:Nat→Prop} {m:Nat} {f:Nat→Value}
theorem path_ret(h:Here W kn ow){fn:Func}{v:Value}(hn:b.kind=.normal)(hd:a.defers=[])(hf:E.P.funcs[b.fn]?=some fn)(hr:∀W',(results fn a.tmps).run E.P W'=.ok v W')(he:∀W',(results fn a.tmps).events E.P W' #[]=#[])
  (hp:∃ρ,Path E Goal n ρ (G (c.finish v) cs) W kn ow):∃ρ,Path E Goal (n+2) ρ (G (b.at a (.code .ret::k)) (c::cs)) W kn ow:=
 Path.go h.knl h.owk rfl (fun _ _ _=>stepG_ret') rfl (Path.go h.knl h.owk rfl (fun W' _ _=>stepG_leave hn hd hf (hr W') (he W')) rfl hp)
end
def slot0 (args:List Value):Nat→Value:=fun k=>args.getD k undef
theorem Slots.start(args:List Value)(r m:Nat)(hm:args.length+r=m):Slots ⟨(args++List.replicate r undef).toArray,[]⟩ m (slot0 args):=by
 refine ⟨by simp;omega,fun k=>?_,rfl⟩
 unfold slot0
 simp only[Array.getD_eq_getD_getElem?,List.getElem?_toArray,List.getD_eq_getElem?_getD]
 rcases Nat.lt_or_ge k args.length with q|q
 ·rw[List.getElem?_append_left q]
 ·rw[List.getElem?_append_right q,List.getElem?_eq_none q,List.getElem?_replicate]
  split<;>rfl
theorem Slots.begin(args:Array Value)(r m:Nat)(hm:args.size+r=m):Slots { tmps:=args++Array.replicate r undef,defers:=[] } m (slot0 args.toList):=by
 have h:=Slots.start args.toList r m (by simpa using hm)
 have e:(args.toList++List.replicate r undef).toArray=args++Array.replicate r undef:=by
  apply Array.ext'
  simp
 rw[e]at h
 exact h
theorem path_begin{E:Env}{Goal:Stand}{n:Nat}{P:Program}{f:FuncId}{fn:Func}{code:Code}{args:Array Value}{m:Nat}{cs:List Frame}{W:World}{kn ow:Nat→Prop}(hf:P.funcs[f]?=some fn)(hb:fn.body=some code)(hm:fn.ntmps=m)(hle:args.size≤m)
  (h:∀A,Slots A m (slot0 args.toList)→∃ρ,Path E Goal n ρ (G ((base f).at A [.code code]) cs) W kn ow):∃ρ,Path E Goal n ρ (G (Frame.enter P f args .normal) cs) W kn ow:=by
 rw[enter_at _ hf hb,hm]
 exact h _ (Slots.begin args (m - args.size) m (by omega))
end Go.Proofs.Ytniloklglpchfai
