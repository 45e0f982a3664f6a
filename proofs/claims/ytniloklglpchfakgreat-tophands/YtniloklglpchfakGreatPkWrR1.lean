/- What Octets, SumsOf, Seven and SevenAt of the document's answer come to. -/
import Derived.Test.YtniloklglpchfakGreatPkFix
import Derived.BigQuiet
import Derived.Deep.RegionHeld3
import Derived.Laws.AppendOwn
import Derived.ArgAppend
import Derived.Deep.MidRow
import Derived.Deep.Upon
import Derived.Conc.LoneCalls
import Derived.Conc.LoneSelect
import Derived.Test.YtniloklglpchfakGreatPkLvOf
import Derived.Conc.DeferLaws
import Derived.Defers
import Derived.Test.YtniloklglpchfakGreatRows
import Derived.Conc.MuLone
import Derived.KernelRfl
namespace Go.Proofs.YtniloklglpchfakGreat
open Go.RowKit
theorem OwnY.nilOk{w:World}{base:Nat}{v:Value}{l:List Int}(h:OwnY w base v l):NilOk v:=by
 obtain ⟨⟨_,h2⟩,_⟩:=h
 rcases h2 with ⟨rfl,_⟩|⟨g,cap,cur,rfl,_⟩
 ·intro n k e
  injection e with e1 e2 e3
  exact ⟨e2.symm,e3.symm⟩
 ·intro n k e
  injection e with e1
  cases e1
def OwnZ (w:World) (base:Nat) (v:Value) (zs:List Int):Prop:=w.ownsRow base 3 1 v zs.length (zs.map (Value.int .i64))
theorem OwnZ.made(w:World)(n:Nat)(hn:n≤1000):OwnZ (w.alloc (.cells (zeros n) 3)) w.heap.size (.slice (some ⟨w.heap.size,0,none⟩) 0 n) []:=World.ownsRow_made _ _ _ (Nat.le_refl _) (by unfold maxLen;omega) (zeros_size n)
theorem OwnZ.nil(w:World)(base:Nat):OwnZ w base (.slice none 0 0) []:=World.ownsRow_nil _ _ _ _
theorem OwnZ.alloc{w:World}{base:Nat}{v:Value}{zs:List Int}(h:OwnZ w base v zs)(o:Obj):OwnZ (w.alloc o) base v zs:=World.ownsRow.alloc h o
theorem OwnZ.u_{w w':World}{base:Nat}{v:Value}{zs:List Int}(h:OwnZ w base v zs)(hb:Below w.heap.size w w'):OwnZ w' base v zs:=by
 refine World.ownsRow.kept (row:=none) h ⟨hb.os,hb.tape,hb.output,hb.size,fun k hk _=>hb.block k hk⟩ ?_
 cases e:v.ownBlock with
 |none=>exact .inl rfl
 |some k=>exact .inr (by simp)
theorem OwnZ.isInts{w:World}{base:Nat}{v:Value}{zs:List Int}(h:OwnZ w base v zs):I_ w v zs:=by
 have hc:=fun g e=>World.ownsRow.cells h (g:=g) e
 obtain ⟨h1,h2⟩:=h
 rcases h2 with ⟨rfl,e⟩|⟨g,cap,cur,rfl,_,_,h3,h4,_,_⟩
 ·obtain rfl:zs=[]:=List.eq_nil_of_length_eq_zero e
  exact I_.nil w
 ·refine ⟨some ⟨g,0,none⟩,cap,rfl,h3,h4,.inr ⟨g,0,rfl,fun i x hx=>?_⟩⟩
  have:=hc g rfl i (.int .i64 x) (by simp[hx])
  rw[Addr.add_lit]at this;exact this
theorem OwnZ.shape{w:World}{base:Nat}{v:Value}{zs:List Int}(h:OwnZ w base v zs):∃a k,v=.slice a zs.length k:=by
 obtain ⟨a,cap,h1,_⟩:=h.isInts;exact ⟨a,cap,h1⟩
theorem OwnZ.step{w:World}{base:Nat}{v:Value}{zs:List Int}{x:Int}(h:w.ownsRow base 3 1 v (zs.length+1) (zs.map (Value.int .i64)++[Value.int .i64 x])):OwnZ w base v (zs++[x]):=by
 unfold OwnZ
 rw[List.length_append,List.map_append]
 exact h
theorem one_cells(w:World)(x:Int):∀(k:Nat) (u':Value),[Value.int .i64 x][k]?=some u'→(w.alloc (.cells #[.int .i64 x] 3)).cell? ((⟨w.heap.size,0,none⟩:Addr).add k)=some u':=by
 intro k u' hk
 match k,hk with
 |0,hk=>simp at hk;subst hk;simp[Addr.add]
theorem one_one(x:Int):∀(u':Value),u'∈[Value.int .i64 x]→u'.oneCell'=true:=by intro u' hu';simp at hu';subst hu';rfl
def IsMsg (w:World) (v:Value) (k mi:Int) (b:Mx):Prop:=∃s,v=.agg #[.int .i64 k,.int .i64 mi,.int .i64 b.rows,.int .i64 b.cols,s]∧I_ w s b.cells
theorem IsMsg.u_{w w':World}{v:Value}{k mi:Int}{b:Mx}(h:IsMsg w v k mi b)(hb:Below w.heap.size w w'):IsMsg w' v k mi b:=by
 obtain ⟨s,h1,h2⟩:=h;exact ⟨s,h1,h2.u_ hb⟩
theorem IsMsg.shape{w:World}{v:Value}{k mi:Int}{b:Mx}(h:IsMsg w v k mi b):∃a n c,v=.agg #[.int .i64 k,.int .i64 mi,.int .i64 b.rows,.int .i64 b.cols,.slice a n c]:=by
 obtain ⟨s,h1,h2⟩:=h
 obtain ⟨a,c,h3,_⟩:=h2
 exact ⟨a,_,c,by rw[h1,h3]⟩
theorem msgF_one{k mi:Int}{b:Mx}(h:k<1∨2<k∨mi<0∨11<mi):1=msgF k mi b:=by unfold msgF;rw[if_pos h]
theorem msgF_mat{k mi:Int}{b:Mx}(h:¬(k<1∨2<k∨mi<0∨11<mi)):q_ b=msgF k mi b:=by unfold msgF;rw[if_neg h]
theorem zig_cast(x:Int):(zig x:Int)=if 0≤x then 2*x else -2*x - 1:=by
 unfold zig
 split<;>omega
theorem wr_take{l:List Nat}{i n:Nat}(h:l[i]?=some n):wrNs (l.take (i+1))=wrNs (l.take i)++sev n:=by
 rw[List.take_add_one,h,wr_app]
 simp[wrNs]
theorem wr_len(l:List Nat):(wrNs l).length≤9*l.length:=by
 induction l with
 |nil=>simp[wrNs]
 |cons n t ih=>
  have e:wrNs (n::t)=sev n++wrNs t:=by simp[wrNs]
  have:=sevF_len 9 n
  rw[e,List.length_append,List.length_cons]
  unfold sev
  omega
def wrI (l:List Nat) (i:Nat):List Int:=wrNs (l.take i)
structure Kept (X:Nat→Prop) (w w':World):Prop where
 os:w'.os=w.os
 tape:w'.tape=w.tape
 output:w'.output=w.output
 size:w.heap.size≤w'.heap.size
 block:∀k,k<w.heap.size→¬X k→w'.heap[k]?=w.heap[k]?
theorem Kept.refl(X:Nat→Prop)(w:World):Kept X w w:=⟨rfl,rfl,rfl,Nat.le_refl _,fun _ _ _=>rfl⟩
theorem Kept.trans{X Y:Nat→Prop}{w u v:World}(h:Kept X w u)(k:Kept Y u v)(hy:∀b,b<w.heap.size→Y b→X b):Kept X w v:=
 ⟨k.os.trans h.os,k.tape.trans h.tape,k.output.trans h.output,Nat.le_trans h.size k.size,fun b hb hx=>(k.block b (Nat.lt_of_lt_of_le hb h.size) (fun e=>hx (hy b hb e))).trans (h.block b hb hx)⟩
theorem Kept.of{X:Nat→Prop}{w w':World}(h:Below w.heap.size w w'):Kept X w w':=⟨h.os,h.tape,h.output,h.size,fun k hk _=>h.block k hk⟩
theorem Kept.mono{X Y:Nat→Prop}{w w':World}(h:Kept X w w')(hxy:∀b,b<w.heap.size→X b→Y b):Kept Y w w':=⟨h.os,h.tape,h.output,h.size,fun k hk hy=>h.block k hk (fun e=>hy (hxy k hk e))⟩
theorem Kept.set{X:Nat→Prop}(w:World){B:Nat}(hB:X B)(q:Nat)(v:Value):Kept X w (w.setCell ⟨B,q,none⟩ v):=
 ⟨rfl,rfl,rfl,by simp[World.setCell],fun k _ hk=>Below.heap_setCell _ _ _ k (fun e=>hk (by rw[e];exact hB))⟩
theorem Kept.cell{X:Nat→Prop}{w w':World}(h:Kept X w w'){p:Addr}{v:Value}(hp:¬X p.block)(hc:w.cell? p=some v):w'.cell? p=some v:=
 (World.cell?_of_block (h.block _ (World.block_lt_of_cell? w _ hc) hp)).trans hc
theorem Kept.u_{X:Nat→Prop}{N:Nat}{w0 w w':World}(hb:Below N w0 w)(h:Kept X w w')(hN:N≤w.heap.size)(hx:∀k,X k→N≤k):Below N w0 w':=
 ⟨h.os.trans hb.os,h.tape.trans hb.tape,h.output.trans hb.output,Nat.le_trans hb.size h.size,fun k hk=>(h.block k (Nat.lt_of_lt_of_le hk hN) (fun e=>absurd (hx k e) (by omega))).trans (hb.block k hk)⟩
theorem Kept.ints{X:Nat→Prop}{w w':World}(h:Kept X w w'){s:Value}{zs:List Int}(hs:I_ w s zs)(hx:zs=[]∨∀a n c,s=.slice (some a) n c→¬X a.block):I_ w' s zs:=by
 obtain ⟨a,cap,h1,h2,h3,h4⟩:=hs
 refine ⟨a,cap,h1,h2,h3,?_⟩
 rcases hx with hx|hx
 ·exact .inl hx
 ·rcases h4 with h4|⟨b,off,ha,hc⟩
  ·exact .inl h4
  ·refine .inr ⟨b,off,ha,fun i x hi=>h.cell ?_ (hc i x hi)⟩
   exact hx ⟨b,off,none⟩ _ _ (by rw[h1,ha])
theorem infoMsg:(Tryz.prog.info? 63).map (fun i=>(i.zero,i.size,i.bytes))=some (some (.agg #[.int .i64 0,.int .i64 0,.int .i64 0,.int .i64 0,.slice none 0 0]),5,56):=by kernel_rfl
def InQ (w:World) (P:Nat→Prop) (u:Value) (m:Int×Int×Mx):Prop:=
 ∃s,u=.agg #[.int .i64 m.1,.int .i64 m.2.1,.int .i64 m.2.2.rows,.int .i64 m.2.2.cols,s]∧I_ w s m.2.2.cells∧(m.2.2.cells=[]∨∀a n c,s=.slice (some a) n c→P a.block)
theorem InQ.keep{X P:Nat→Prop}{w w':World}{u:Value}{m:Int×Int×Mx}(h:InQ w P u m)(hk:Kept X w w')(hx:∀b,P b→¬X b):InQ w' P u m:=by
 obtain ⟨s,h1,h2,h3⟩:=h
 exact ⟨s,h1,hk.ints h2 (h3.imp id (fun q a n c e=>hx _ (q a n c e))),h3⟩
theorem InQ.mono{P P':Nat→Prop}{w:World}{u:Value}{m:Int×Int×Mx}(h:InQ w P u m)(hp:∀b,P b→P' b):InQ w P' u m:=by
 obtain ⟨s,h1,h2,h3⟩:=h
 exact ⟨s,h1,h2,h3.imp id (fun q a n c e=>hp _ (q a n c e))⟩
theorem InQ.isMsg{P:Nat→Prop}{w:World}{u:Value}{m:Int×Int×Mx}(h:InQ w P u m):IsMsg w u m.1 m.2.1 m.2.2:=by
 obtain ⟨s,h1,h2,_⟩:=h
 exact ⟨s,h1,h2⟩
def ChanIs (w:World) (P:Nat→Prop) (C n:Nat) (cl:Bool) (ms:List (Int×Int×Mx)):Prop:=
 ∃buf s r,w.heap[C]?=some (.chan n buf cl s r false)∧buf.size=ms.length∧∀(i:Nat) (u:Value) (m:Int×Int×Mx),buf[i]?=some u→ms[i]?=some m→InQ w P u m
structure BoxIs (w:World) (P:Nat→Prop) (B C n:Nat) (cl:Bool) (ms:List (Int×Int×Mx)):Prop where
 bx:w.heap[B]?=some (.cells #[.chan (some C),.int .i32 0,.int .u32 0,.bool cl] 106 (0,0))
 ch:ChanIs w P C n cl ms
 le:ms.length≤n
 pB:P B
 pC:P C
 ne:B≠C
 lt:∀b,P b→b<w.heap.size
theorem BoxIs.keep{X P:Nat→Prop}{w w':World}{B C n:Nat}{cl:Bool}{ms:List (Int×Int×Mx)}(h:BoxIs w P B C n cl ms)(hk:Kept X w w')(hx:∀b,P b→¬X b):BoxIs w' P B C n cl ms:=by
 obtain ⟨buf,s,r,h1,h2,h3⟩:=h.ch
 exact ⟨(hk.block B (h.lt B h.pB) (hx B h.pB)).trans h.bx,⟨buf,s,r,(hk.block C (h.lt C h.pC) (hx C h.pC)).trans h1,h2,fun i u m hu hm=>(h3 i u m hu hm).keep hk hx⟩,h.le,h.pB,h.pC,h.ne,fun b hb=>Nat.lt_of_lt_of_le (h.lt b hb) hk.size⟩
theorem keep_chan(X:Nat→Prop)(w:World)(C cap:Nat)(buf:Array Value)(cl:Bool)(s r:Nat)(tm:Bool)(hC:X C):Kept X w (w.setChan C cap buf cl s r tm):=
 ⟨rfl,rfl,rfl,by simp[World.setChan],fun k _ hk=>by simp only[World.setChan];rw[Array.getElem?_setIfInBounds_ne (fun e=>hk (by rw[←e];exact hC))]⟩
theorem BoxIs.push{P Pv:Nat→Prop}{w w':World}{B C n:Nat}{ms:List (Int×Int×Mx)}{v:Value}{m:Int×Int×Mx}{buf:Array Value}{s r:Nat}(h:BoxIs w P B C n false ms)(hc:w.heap[C]?=some (.chan n buf false s r false))(hbs:buf.size=ms.length)(hq:∀(i:Nat) (u:Value) (m:Int×Int×Mx),buf[i]?=some u→ms[i]?=some m→InQ w P u m)(hv:InQ w Pv v m)(hvl:∀b,Pv b→b<w.heap.size)(hvC:¬Pv C)(hroom:ms.length<n)(hw:w'=w.setChan C n (buf.push v) false (s+1) r false):
  BoxIs w' (fun b=>P b∨Pv b) B C n false (ms++[m]):=by
 subst hw
 have hk:=keep_chan (fun b=>b=C) w C n (buf.push v) false (s+1) r false rfl
 -- no message that lies there has its cells in the channel's own block
 have hnC:∀u m,InQ w P u m→InQ (w.setChan C n (buf.push v) false (s+1) r false) (fun b=>P b∨Pv b) u m:=fun u m hm=>by
  obtain ⟨t,h1,h2,h3⟩:=hm
  refine ⟨t,h1,?_,h3.imp id (fun q a n c e=>.inl (q a n c e))⟩
  obtain ⟨a,cap,g1,g2,g3,g4⟩:=h2
  refine ⟨a,cap,g1,g2,g3,g4.imp id ?_⟩
  rintro ⟨b,off,ha,hcell⟩
  refine ⟨b,off,ha,fun i x hx=>hk.cell (fun e=>?_) (hcell i x hx)⟩
  have hh:=hcell i x hx
  have e':b=C:=e
  subst e'
  simp[World.cell?,hc]at hh
 refine ⟨(hk.block B (h.lt B h.pB) h.ne).trans h.bx,⟨buf.push v,s+1,r,Go.Conc.heap_setChan w C n _ false (s+1) r false (h.lt C h.pC),by rw[Array.size_push,hbs,List.length_append];rfl,fun i u m' hu hm=>?_⟩,by rw[List.length_append];exact hroom,.inl h.pB,.inl h.pC,h.ne,fun b hb=>?_⟩
 ·rcases Nat.lt_or_ge i ms.length with q|q
  ·rw[Array.getElem?_push_lt (by omega)]at hu
   rw[List.getElem?_append_left q]at hm
   exact hnC u m' (hq i u m' (by rw[←hu];exact Array.getElem?_eq_getElem (by omega)) hm)
  ·rw[List.getElem?_append_right q]at hm
   have hi:i=ms.length:=by
    have:=(List.getElem?_eq_some_iff.1 hm).1
    simp at this
    omega
   subst hi
   rw[←hbs,Array.getElem?_push_size]at hu
   rw[Nat.sub_self]at hm
   obtain rfl:=Option.some.inj hu
   obtain rfl:m=m':=Option.some.inj hm
   exact (hv.keep hk (fun b hb e=>hvC (by rw[←e];exact hb))).mono (fun b hb=>.inr hb)
 ·rw[Go.Conc.size_setChan]
  rcases hb with hb|hb
  ·exact h.lt b hb
  ·exact hvl b hb
theorem BoxIs.pop{P:Nat→Prop}{w w':World}{B C n:Nat}{cl:Bool}{ms:List (Int×Int×Mx)}{m:Int×Int×Mx}{buf:Array Value}{s r:Nat}(h:BoxIs w P B C n cl (m::ms))(hc:w.heap[C]?=some (.chan n buf cl s r false))(hbs:buf.size=(m::ms).length)(hq:∀(i:Nat) (u:Value) (m':Int×Int×Mx),buf[i]?=some u→(m::ms)[i]?=some m'→InQ w P u m')(hw:w'=w.setChan C n (buf.extract 1 buf.size) cl s (r+1) false):
  BoxIs w' P B C n cl ms∧InQ w' P (buf.getD 0 undef) m:=by
 subst hw
 have hk:=keep_chan (fun b=>b=C) w C n (buf.extract 1 buf.size) cl s (r+1) false rfl
 have hnC:∀u m,InQ w P u m→InQ (w.setChan C n (buf.extract 1 buf.size) cl s (r+1) false) P u m:=fun u m hm=>by
  obtain ⟨t,h1,h2,h3⟩:=hm
  refine ⟨t,h1,?_,h3⟩
  obtain ⟨a,cap,g1,g2,g3,g4⟩:=h2
  refine ⟨a,cap,g1,g2,g3,g4.imp id ?_⟩
  rintro ⟨b,off,ha,hcell⟩
  refine ⟨b,off,ha,fun i x hx=>hk.cell (fun e=>?_) (hcell i x hx)⟩
  have hh:=hcell i x hx
  have e':b=C:=e
  subst e'
  simp[World.cell?,hc]at hh
 have hlen:buf.size=ms.length+1:=hbs
 refine ⟨⟨(hk.block B (h.lt B h.pB) h.ne).trans h.bx,⟨_,s,r+1,Go.Conc.heap_setChan w C n _ cl s (r+1) false (h.lt C h.pC),by rw[Array.size_extract];omega,fun i u m' hu hm=>?_⟩,Nat.le_of_succ_le h.le,h.pB,h.pC,h.ne,fun b hb=>by rw[Go.Conc.size_setChan];exact h.lt b hb⟩,?_⟩
 ·have hi:=(List.getElem?_eq_some_iff.1 hm).1
  rw[Array.getElem?_extract,if_pos (by omega)]at hu
  exact hnC u m' (hq (1+i) u m' hu (by rw[Nat.add_comm];exact hm))
 ·refine hnC _ m (hq 0 _ m ?_ rfl)
  rw[Array.getD_eq_getD_getElem?,Array.getElem?_eq_getElem (by omega)]
  rfl
theorem eq_of_heap{u v:World}(h:∀k:Nat,u.heap[k]?=v.heap[k]?)(h1:u.tape=v.tape)(h2:u.drawn=v.drawn)(h3:u.os=v.os)(h4:u.output=v.output):u=v:=by
 obtain ⟨a1,a2,a3,a4,a5⟩:=u
 obtain ⟨b1,b2,b3,b4,b5⟩:=v
 obtain rfl:a1=b1:=Array.ext_getElem? h
 dsimp only at h1 h2 h3 h4
 subst h1 h2 h3 h4
 rfl
theorem lock_chan{W:World}{B C n:Nat}{buf:Array Value}{cl:Bool}{s r:Nat}{x0 x2 x3:Value}{t:TypeId}(hb:W.heap[B]?=some (.cells #[x0,.int .i32 0,x2,x3] t (0,0)))(hne:B≠C):((W.setCell ⟨B,1,none⟩ (.int .i32 1)).setChan C n buf cl s r false).setCell ⟨B,1,none⟩ (.int .i32 0)=W.setChan C n buf cl s r false:=by
 have hc:∀(U:World) (k:Nat),k≠C→(U.setChan C n buf cl s r false).heap[k]?=U.heap[k]?:=fun U k hk=>by
  simp only[World.setChan];rw[Array.getElem?_setIfInBounds_ne (fun e=>hk e.symm)]
 refine eq_of_heap (fun k=>?_) rfl rfl rfl rfl
 by_cases e:k=B
 ·subst e
  rw[hc _ _ hne,hb]
  have h1:=(hc (W.setCell ⟨k,1,none⟩ (.int .i32 1)) k hne).trans (Joins.block_setCell hb (i:=1) _)
  rw[Joins.block_setCell h1 (i:=1) _]
  rfl
 ·rw[Below.heap_setCell _ _ _ k e]
  by_cases f:k=C
  ·subst f
   simp only[World.setChan,Array.getElem?_setIfInBounds_self,World.size_setCell]
  ·rw[hc _ _ f,hc _ _ f,Below.heap_setCell _ _ _ k e]
end Go.Proofs.YtniloklglpchfakGreat
/- In one goroutine, where something is sent or received on the way: a call met by its contract, and calls that were put off. No program in sight. -/
namespace Go.Proofs.YtniloklglpchfakGreat
open Go.RowKit Go.Conc
theorem lone_call{P:Program}{Q:Goroutine→World→Prop}{b:Frame}{a:Act}{k:List Item}{cs:List Frame}{w w₁:World}{ops:Array Oper}{i:Nat}{rest:List Nat}{o:Oper}{f:FuncId}{args:Array Value}{R:Value→World→Prop}
  (ho:ops[i]?=some o) (hw:Region.wanted o (yielded ops a.tmps)=true) (hr:(execOp a.eval o).run P w=.ok (.enter f args) w₁) (hc:Calls P f args w₁ fun e w'=>∃v,e=.returned v∧R v w')
  (h:∀v w',R v w'→LoneTo P Q (G (b.at (a.put o.dst v) (.inRegion ops rest::k)) cs) w'):LoneTo P Q (G (b.at a (.inRegion ops (i::rest)::k)) cs) w:=by
 have hg:=stepG_op (P:=P) (b:=b) (k:=k) (cs:=cs) (w:=w) (rest:=rest) ho hw
 have hfin:∀v,(b.at a (.inRegion ops (i::rest)::k)).finish v=b.at (a.put o.dst v) (.inRegion ops rest::k):=by
  intro v;rw[Frame.finish_at,ho];rfl
 have henter:step P (lone (b.at a (.inRegion ops (i::rest)::k)) cs w)=.next (lone (Frame.enter P f args .normal) (b.at a (.inRegion ops (i::rest)::k)::cs) w₁):=
  step_lone_go (by rw[hg];simp[stepG.apply,hr,Frame.at])
 obtain ⟨e,w'',fr,⟨v,rfl,hR⟩,hsteps,_,hleave⟩:=hc (b.at a (.inRegion ops (i::rest)::k)::cs)
 obtain ⟨g₂,w₂,hs,hq⟩:=h v w'' hR
 refine ⟨g₂,w₂,Steps.trans (.head henter (Steps.trans hsteps (.one (step_leave_returned hleave)))) ?_,hq⟩
 rw[hfin]
 exact hs
theorem lone_leaves{P:Program}{f:FuncId}{fn:Func}{fr:Frame}{cs:List Frame}{w:World}{R:Ending→World→Prop}(hf:P.funcs[f]?=some fn)(hm:fr.mode=.returning)(hfn:fr.fn=f)(hk:fr.kind=.normal)(hno:∀w',¬R .outgrown w')
  (h:Leaves P fn fr.tmps R fr.defers .returning w):LoneTo P (fun g' w'=>∃e fr,g'=G fr cs∧R e w'∧fr.fn=f∧fr.leaving P w' e) (G fr cs) w:=by
 obtain ⟨e,w',fr',hR,hs,hfn',hl⟩:=leaves_steps fr.defers .returning w fr cs hm rfl rfl (by rw[hfn];exact hf) hk h
 cases e with
 |returned v=>exact ⟨G fr' cs,w',hs,_,fr',rfl,hR,hfn'.trans hfn,hl⟩
 |panicked chain=>exact ⟨G fr' cs,w',hs,_,fr',rfl,hR,hfn'.trans hfn,hl⟩
 |outgrown=>exact absurd hR (hno _)
end Go.Proofs.YtniloklglpchfakGreat
/- The numbers under which the lock's functions and types stand here, and what Lock and a put-off Unlock do, in one goroutine. -/
namespace Go.Proofs.YtniloklglpchfakGreat
open Go.RowKit
def muL:Go.Conc.Locks.MuLink:={ lock:=102,unlock:=103,ilock:=111,iunlock:=112,lockSlow:=117,unlockSlow:=120,disable:=113,enable:=115,acquire:=116,relMerge:=118,cas32:=114,add32:=119,tMutex:=102,tIMutex:=100,tPMutex:=200,tPIMutex:=208,tPI32:=210,tUP:=212,tNoCopy:=97,tU32:=98 }
theorem muH:Go.Conc.Locks.MuLib Tryz.prog muL:=⟨Tryz.func102,Tryz.func103,Tryz.func111,Tryz.func112,Tryz.func113,Tryz.func115,Tryz.func116,Tryz.func118,Tryz.func114,Tryz.func119,Tryz.underlying100,Tryz.runUnderlying100,Tryz.sizeOf100,Tryz.isAgg100,Tryz.zeroValue100,Tryz.underlying102,Tryz.runUnderlying102,Tryz.sizeOf102,Tryz.isAgg102,Tryz.zeroValue102,Tryz.underlying200,Tryz.runUnderlying200,Tryz.sizeOf200,Tryz.isAgg200,Tryz.zeroValue200,Tryz.underlying208,Tryz.runUnderlying208,Tryz.sizeOf208,Tryz.isAgg208,Tryz.zeroValue208,Tryz.underlying210,Tryz.runUnderlying210,Tryz.sizeOf210,Tryz.isAgg210,Tryz.zeroValue210,Tryz.underlying212,Tryz.runUnderlying212,Tryz.sizeOf212,Tryz.isAgg212,Tryz.zeroValue212,Tryz.underlying97,Tryz.runUnderlying97,Tryz.sizeOf97,Tryz.isAgg97,Tryz.zeroValue97,Tryz.underlying21,Tryz.runUnderlying21,Tryz.sizeOf21,Tryz.isAgg21,Tryz.zeroValue21,(by kernel_rfl)⟩
theorem mlock(a:Addr)(w:World)(hc:w.cell? a=some (.int .i32 0))(hz:w.frozen? a=false):Calls Tryz.prog 102 #[.pointer (some a)] w fun e w'=>e=.returned (.tuple #[])∧w'=w.setCell a (.int .i32 1):=Go.MuLone.lock_free muH a w hc hz
theorem munlock(a:Addr)(u:FrameMode)(w:World)(hc:w.cell? a=some (.int .i32 1))(hz:w.frozen? a=false):CallsD Tryz.prog 103 #[.pointer (some a)] u w fun e u' w'=>u'=u∧(e=.returned (.tuple #[])∧w'=w.setCell a (.int .i32 0)):=Go.MuLone.unlock_deferred muH a u w hc hz
end Go.Proofs.YtniloklglpchfakGreat
