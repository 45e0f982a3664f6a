/- A box of messages in memory: a struct with a channel, and what lies in the channel. -/
import Derived.Test.YtflbmhilkkhhlakGreatPkWrM
import Derived.Test.YtflbmhilkkhhlakGreatPkFix
import Derived.Conc.LoneCalls
import Derived.Conc.LoneSelect
import Derived.Test.YtflbmhilkkhhlakGreatPkLvOf
import Derived.Conc.DeferLaws
import Derived.Defers
import Derived.Test.YtflbmhilkkhhlakGreatRows
import Derived.Conc.MuLone
import Derived.KernelRfl
namespace Go.Proofs.YtflbmhilkkhhlakGreat
open Go.RowKit
def InQ (w:World) (P:Nat→Prop) (u:Value) (m:Int×Int×Mx):Prop:=
 ∃s,u=.agg #[.int .i64 m.1,.int .i64 m.2.1,.int .i64 m.2.2.rows,.int .i64 m.2.2.cols,s]∧I_ w s m.2.2.cells∧(m.2.2.cells=[]∨∀a n c,s=.slice (some a) n c→P a.block)
theorem InQ.keep{X P:Nat→Prop}{w w':World}{u:Value}{m:Int×Int×Mx}(h:InQ w P u m)(hk:Kept X w w')(hx:∀b,P b→¬X b):InQ w' P u m:=by
 obtain ⟨s,h1,h2,h3⟩:=h
 exact ⟨s,h1,hk.ints h2 (h3.imp id (fun q a n c e=>hx _ (q a n c e))),h3⟩
theorem InQ.mono{P P':Nat→Prop}{w:World}{u:Value}{m:Int×Int×Mx}(h:InQ w P u m)(hp:∀b,P b→P' b):InQ w P' u m:=by
 obtain ⟨s,h1,h2,h3⟩:=h
 exact ⟨s,h1,h2,h3.imp id (fun q a n c e=>hp _ (q a n c e))⟩
theorem InQ.isMsg{P:Nat→Prop}{w:World}{u:Value}{m:Int×Int×Mx}(h:InQ w P u m):IsMsg w u m.1 m.2.1 m.2.2:=by
 obtain ⟨s,h1,h2,_⟩:=h
 exact ⟨s,h1,h2⟩
def ChanIs (w:World) (P:Nat→Prop) (C n:Nat) (cl:Bool) (ms:List (Int×Int×Mx)):Prop:=
 ∃buf s r,w.heap[C]?=some (.chan n buf cl s r false)∧buf.size=ms.length∧∀(i:Nat) (u:Value) (m:Int×Int×Mx),buf[i]?=some u→ms[i]?=some m→InQ w P u m
structure BoxIs (w:World) (P:Nat→Prop) (B C n:Nat) (cl:Bool) (ms:List (Int×Int×Mx)):Prop where
 bx:w.heap[B]?=some (.cells #[.chan (some C),.int .i32 0,.int .u32 0,.bool cl] 133 (0,0))
 ch:ChanIs w P C n cl ms
 le:ms.length≤n
 pB:P B
 pC:P C
 ne:B≠C
 lt:∀b,P b→b<w.heap.size
theorem BoxIs.keep{X P:Nat→Prop}{w w':World}{B C n:Nat}{cl:Bool}{ms:List (Int×Int×Mx)}(h:BoxIs w P B C n cl ms)(hk:Kept X w w')(hx:∀b,P b→¬X b):BoxIs w' P B C n cl ms:=by
 obtain ⟨buf,s,r,h1,h2,h3⟩:=h.ch
 exact ⟨(hk.block B (h.lt B h.pB) (hx B h.pB)).trans h.bx,⟨buf,s,r,(hk.block C (h.lt C h.pC) (hx C h.pC)).trans h1,h2,fun i u m hu hm=>(h3 i u m hu hm).keep hk hx⟩,h.le,h.pB,h.pC,h.ne,fun b hb=>Nat.lt_of_lt_of_le (h.lt b hb) hk.size⟩
theorem keep_chan(X:Nat→Prop)(w:World)(C cap:Nat)(buf:Array Value)(cl:Bool)(s r:Nat)(tm:Bool)(hC:X C):Kept X w (w.setChan C cap buf cl s r tm):=
 ⟨rfl,rfl,rfl,by simp[World.setChan],fun k _ hk=>by simp only[World.setChan];rw[Array.getElem?_setIfInBounds_ne (fun e=>hk (by rw[←e];exact hC))]⟩
theorem BoxIs.push{P Pv:Nat→Prop}{w w':World}{B C n:Nat}{ms:List (Int×Int×Mx)}{v:Value}{m:Int×Int×Mx}{buf:Array Value}{s r:Nat}(h:BoxIs w P B C n false ms)(hc:w.heap[C]?=some (.chan n buf false s r false))(hbs:buf.size=ms.length)(hq:∀(i:Nat) (u:Value) (m:Int×Int×Mx),buf[i]?=some u→ms[i]?=some m→InQ w P u m)(hv:InQ w Pv v m)(hvl:∀b,Pv b→b<w.heap.size)(hvC:¬Pv C)(hroom:ms.length<n)(hw:w'=w.setChan C n (buf.push v) false (s+1) r false):
  BoxIs w' (fun b=>P b∨Pv b) B C n false (ms++[m]):=by
 subst hw
 have hk:=keep_chan (fun b=>b=C) w C n (buf.push v) false (s+1) r false rfl
 -- no message that lies there has its cells in the channel's own block
 have hnC:∀u m,InQ w P u m→InQ (w.setChan C n (buf.push v) false (s+1) r false) (fun b=>P b∨Pv b) u m:=fun u m hm=>by
  obtain ⟨t,h1,h2,h3⟩:=hm
  refine ⟨t,h1,?_,h3.imp id (fun q a n c e=>.inl (q a n c e))⟩
  obtain ⟨a,cap,g1,g2,g3,g4⟩:=h2
  refine ⟨a,cap,g1,g2,g3,g4.imp id ?_⟩
  rintro ⟨b,off,ha,hcell⟩
  refine ⟨b,off,ha,fun i x hx=>hk.cell (fun e=>?_) (hcell i x hx)⟩
  have hh:=hcell i x hx
  have e':b=C:=e
  subst e'
  simp[World.cell?,hc]at hh
 refine ⟨(hk.block B (h.lt B h.pB) h.ne).trans h.bx,⟨buf.push v,s+1,r,Go.Conc.heap_setChan w C n _ false (s+1) r false (h.lt C h.pC),by rw[Array.size_push,hbs,List.length_append];rfl,fun i u m' hu hm=>?_⟩,by rw[List.length_append];exact hroom,.inl h.pB,.inl h.pC,h.ne,fun b hb=>?_⟩
 ·rcases Nat.lt_or_ge i ms.length with q|q
  ·rw[Array.getElem?_push_lt (by omega)]at hu
   rw[List.getElem?_append_left q]at hm
   exact hnC u m' (hq i u m' (by rw[←hu];exact Array.getElem?_eq_getElem (by omega)) hm)
  ·rw[List.getElem?_append_right q]at hm
   have hi:i=ms.length:=by
    have:=(List.getElem?_eq_some_iff.1 hm).1
    simp at this
    omega
   subst hi
   rw[←hbs,Array.getElem?_push_size]at hu
   rw[Nat.sub_self]at hm
   obtain rfl:=Option.some.inj hu
   obtain rfl:m=m':=Option.some.inj hm
   exact (hv.keep hk (fun b hb e=>hvC (by rw[←e];exact hb))).mono (fun b hb=>.inr hb)
 ·rw[Go.Conc.size_setChan]
  rcases hb with hb|hb
  ·exact h.lt b hb
  ·exact hvl b hb
theorem BoxIs.pop{P:Nat→Prop}{w w':World}{B C n:Nat}{cl:Bool}{ms:List (Int×Int×Mx)}{m:Int×Int×Mx}{buf:Array Value}{s r:Nat}(h:BoxIs w P B C n cl (m::ms))(hc:w.heap[C]?=some (.chan n buf cl s r false))(hbs:buf.size=(m::ms).length)(hq:∀(i:Nat) (u:Value) (m':Int×Int×Mx),buf[i]?=some u→(m::ms)[i]?=some m'→InQ w P u m')(hw:w'=w.setChan C n (buf.extract 1 buf.size) cl s (r+1) false):
  BoxIs w' P B C n cl ms∧InQ w' P (buf.getD 0 undef) m:=by
 subst hw
 have hk:=keep_chan (fun b=>b=C) w C n (buf.extract 1 buf.size) cl s (r+1) false rfl
 have hnC:∀u m,InQ w P u m→InQ (w.setChan C n (buf.extract 1 buf.size) cl s (r+1) false) P u m:=fun u m hm=>by
  obtain ⟨t,h1,h2,h3⟩:=hm
  refine ⟨t,h1,?_,h3⟩
  obtain ⟨a,cap,g1,g2,g3,g4⟩:=h2
  refine ⟨a,cap,g1,g2,g3,g4.imp id ?_⟩
  rintro ⟨b,off,ha,hcell⟩
  refine ⟨b,off,ha,fun i x hx=>hk.cell (fun e=>?_) (hcell i x hx)⟩
  have hh:=hcell i x hx
  have e':b=C:=e
  subst e'
  simp[World.cell?,hc]at hh
 have hlen:buf.size=ms.length+1:=hbs
 refine ⟨⟨(hk.block B (h.lt B h.pB) h.ne).trans h.bx,⟨_,s,r+1,Go.Conc.heap_setChan w C n _ cl s (r+1) false (h.lt C h.pC),by rw[Array.size_extract];omega,fun i u m' hu hm=>?_⟩,Nat.le_of_succ_le h.le,h.pB,h.pC,h.ne,fun b hb=>by rw[Go.Conc.size_setChan];exact h.lt b hb⟩,?_⟩
 ·have hi:=(List.getElem?_eq_some_iff.1 hm).1
  rw[Array.getElem?_extract,if_pos (by omega)]at hu
  exact hnC u m' (hq (1+i) u m' hu (by rw[Nat.add_comm];exact hm))
 ·refine hnC _ m (hq 0 _ m ?_ rfl)
  rw[Array.getD_eq_getD_getElem?,Array.getElem?_eq_getElem (by omega)]
  rfl
theorem eq_of_heap{u v:World}(h:∀k:Nat,u.heap[k]?=v.heap[k]?)(h1:u.tape=v.tape)(h2:u.drawn=v.drawn)(h3:u.os=v.os)(h4:u.output=v.output):u=v:=by
 obtain ⟨a1,a2,a3,a4,a5⟩:=u
 obtain ⟨b1,b2,b3,b4,b5⟩:=v
 obtain rfl:a1=b1:=Array.ext_getElem? h
 dsimp only at h1 h2 h3 h4
 subst h1 h2 h3 h4
 rfl
theorem lock_chan{W:World}{B C n:Nat}{buf:Array Value}{cl:Bool}{s r:Nat}{x0 x2 x3:Value}{t:TypeId}(hb:W.heap[B]?=some (.cells #[x0,.int .i32 0,x2,x3] t (0,0)))(hne:B≠C):((W.setCell ⟨B,1,none⟩ (.int .i32 1)).setChan C n buf cl s r false).setCell ⟨B,1,none⟩ (.int .i32 0)=W.setChan C n buf cl s r false:=by
 have hc:∀(U:World) (k:Nat),k≠C→(U.setChan C n buf cl s r false).heap[k]?=U.heap[k]?:=fun U k hk=>by
  simp only[World.setChan];rw[Array.getElem?_setIfInBounds_ne (fun e=>hk e.symm)]
 refine eq_of_heap (fun k=>?_) rfl rfl rfl rfl
 by_cases e:k=B
 ·subst e
  rw[hc _ _ hne,hb]
  have h1:=(hc (W.setCell ⟨k,1,none⟩ (.int .i32 1)) k hne).trans (Joins.block_setCell hb (i:=1) _)
  rw[Joins.block_setCell h1 (i:=1) _]
  rfl
 ·rw[Below.heap_setCell _ _ _ k e]
  by_cases f:k=C
  ·subst f
   simp only[World.setChan,Array.getElem?_setIfInBounds_self,World.size_setCell]
  ·rw[hc _ _ f,hc _ _ f,Below.heap_setCell _ _ _ k e]
end Go.Proofs.YtflbmhilkkhhlakGreat
/- In one goroutine, where something is sent or received on the way: a call met by its contract, and calls that were put off. No program in sight. -/
namespace Go.Proofs.YtflbmhilkkhhlakGreat
open Go.RowKit Go.Conc
theorem lone_call{P:Program}{Q:Goroutine→World→Prop}{b:Frame}{a:Act}{k:List Item}{cs:List Frame}{w w₁:World}{ops:Array Oper}{i:Nat}{rest:List Nat}{o:Oper}{f:FuncId}{args:Array Value}{R:Value→World→Prop}
  (ho:ops[i]?=some o) (hw:Region.wanted o (yielded ops a.tmps)=true) (hr:(execOp a.eval o).run P w=.ok (.enter f args) w₁) (hc:Calls P f args w₁ fun e w'=>∃v,e=.returned v∧R v w')
  (h:∀v w',R v w'→LoneTo P Q (G (b.at (a.put o.dst v) (.inRegion ops rest::k)) cs) w'):LoneTo P Q (G (b.at a (.inRegion ops (i::rest)::k)) cs) w:=by
 have hg:=stepG_op (P:=P) (b:=b) (k:=k) (cs:=cs) (w:=w) (rest:=rest) ho hw
 have hfin:∀v,(b.at a (.inRegion ops (i::rest)::k)).finish v=b.at (a.put o.dst v) (.inRegion ops rest::k):=by
  intro v;rw[Frame.finish_at,ho];rfl
 have henter:step P (lone (b.at a (.inRegion ops (i::rest)::k)) cs w)=.next (lone (Frame.enter P f args .normal) (b.at a (.inRegion ops (i::rest)::k)::cs) w₁):=
  step_lone_go (by rw[hg];simp[stepG.apply,hr,Frame.at])
 obtain ⟨e,w'',fr,⟨v,rfl,hR⟩,hsteps,_,hleave⟩:=hc (b.at a (.inRegion ops (i::rest)::k)::cs)
 obtain ⟨g₂,w₂,hs,hq⟩:=h v w'' hR
 refine ⟨g₂,w₂,Steps.trans (.head henter (Steps.trans hsteps (.one (step_leave_returned hleave)))) ?_,hq⟩
 rw[hfin]
 exact hs
theorem lone_leaves{P:Program}{f:FuncId}{fn:Func}{fr:Frame}{cs:List Frame}{w:World}{R:Ending→World→Prop}(hf:P.funcs[f]?=some fn)(hm:fr.mode=.returning)(hfn:fr.fn=f)(hk:fr.kind=.normal)(hno:∀w',¬R .outgrown w')
  (h:Leaves P fn fr.tmps R fr.defers .returning w):LoneTo P (fun g' w'=>∃e fr,g'=G fr cs∧R e w'∧fr.fn=f∧fr.leaving P w' e) (G fr cs) w:=by
 obtain ⟨e,w',fr',hR,hs,hfn',hl⟩:=leaves_steps fr.defers .returning w fr cs hm rfl rfl (by rw[hfn];exact hf) hk h
 cases e with
 |returned v=>exact ⟨G fr' cs,w',hs,_,fr',rfl,hR,hfn'.trans hfn,hl⟩
 |panicked chain=>exact ⟨G fr' cs,w',hs,_,fr',rfl,hR,hfn'.trans hfn,hl⟩
 |outgrown=>exact absurd hR (hno _)
end Go.Proofs.YtflbmhilkkhhlakGreat
/- The numbers under which the lock's functions and types stand here, and what Lock and a put-off Unlock do, in one goroutine. -/
namespace Go.Proofs.YtflbmhilkkhhlakGreat
open Go.RowKit
def muL:Go.Conc.Locks.MuLink:={ lock:=144,unlock:=145,ilock:=173,iunlock:=174,lockSlow:=183,unlockSlow:=185,disable:=149,enable:=150,acquire:=164,relMerge:=148,cas32:=182,add32:=184,tMutex:=129,tIMutex:=127,tPMutex:=274,tPIMutex:=290,tPI32:=292,tUP:=249,tNoCopy:=124,tU32:=125 }
theorem muH:Go.Conc.Locks.MuLib Tryz.prog muL:=⟨Tryz.func144,Tryz.func145,Tryz.func173,Tryz.func174,Tryz.func149,Tryz.func150,Tryz.func164,Tryz.func148,Tryz.func182,Tryz.func184,Tryz.underlying127,Tryz.runUnderlying127,Tryz.sizeOf127,Tryz.isAgg127,Tryz.zeroValue127,Tryz.underlying129,Tryz.runUnderlying129,Tryz.sizeOf129,Tryz.isAgg129,Tryz.zeroValue129,Tryz.underlying274,Tryz.runUnderlying274,Tryz.sizeOf274,Tryz.isAgg274,Tryz.zeroValue274,Tryz.underlying290,Tryz.runUnderlying290,Tryz.sizeOf290,Tryz.isAgg290,Tryz.zeroValue290,Tryz.underlying292,Tryz.runUnderlying292,Tryz.sizeOf292,Tryz.isAgg292,Tryz.zeroValue292,Tryz.underlying249,Tryz.runUnderlying249,Tryz.sizeOf249,Tryz.isAgg249,Tryz.zeroValue249,Tryz.underlying124,Tryz.runUnderlying124,Tryz.sizeOf124,Tryz.isAgg124,Tryz.zeroValue124,Tryz.underlying21,Tryz.runUnderlying21,Tryz.sizeOf21,Tryz.isAgg21,Tryz.zeroValue21,(by kernel_rfl)⟩
theorem mlock(a:Addr)(w:World)(hc:w.cell? a=some (.int .i32 0))(hz:w.frozen? a=false):Calls Tryz.prog 144 #[.pointer (some a)] w fun e w'=>e=.returned (.tuple #[])∧w'=w.setCell a (.int .i32 1):=Go.MuLone.lock_free muH a w hc hz
theorem munlock(a:Addr)(u:FrameMode)(w:World)(hc:w.cell? a=some (.int .i32 1))(hz:w.frozen? a=false):CallsD Tryz.prog 145 #[.pointer (some a)] u w fun e u' w'=>u'=u∧(e=.returned (.tuple #[])∧w'=w.setCell a (.int .i32 0)):=Go.MuLone.unlock_deferred muH a u w hc hz
end Go.Proofs.YtflbmhilkkhhlakGreat
/- What the queue of package mail does: put and take, in one goroutine. -/
namespace Go.Proofs.YtflbmhilkkhhlakGreat
open Go.RowKit Go.Conc
theorem keep_five(U V:World)(hb:Below U.heap.size U V)(R:Nat)(y0 y1 y2 y3 y4:Value):Kept (fun b=>b=R) U (((((V.setCell ⟨R,0,none⟩ y0).setCell ⟨R,1,none⟩ y1).setCell ⟨R,2,none⟩ y2).setCell ⟨R,3,none⟩ y3).setCell ⟨R,4,none⟩ y4):=
 (((((Kept.of hb).trans (Kept.set (X:=fun b=>b=R) (B:=R) V rfl 0 y0) (fun _ _ e=>e)).trans (Kept.set (X:=fun b=>b=R) (B:=R) _ rfl 1 y1) (fun _ _ e=>e)).trans (Kept.set (X:=fun b=>b=R) (B:=R) _ rfl 2 y2) (fun _ _ e=>e)).trans (Kept.set (X:=fun b=>b=R) (B:=R) _ rfl 3 y3) (fun _ _ e=>e)).trans (Kept.set (X:=fun b=>b=R) (B:=R) _ rfl 4 y4) (fun _ _ e=>e)
set_option maxHeartbeats 4000000 in
set_option maxRecDepth 100000 in
theorem qput_room(P Pv:Nat→Prop)(B C n:Nat)(ms:List (Int×Int×Mx))(m:Int×Int×Mx)(v:Value)(w:World)(h:BoxIs w P B C n false ms)(hv:InQ w Pv v m)(hvl:∀b,Pv b→b<w.heap.size)(hvC:¬Pv C)(hroom:ms.length<n):
  Calls Tryz.prog 102 #[.pointer (some ⟨B,0,none⟩),v] w fun e w'=>e=.returned .nilIface∧BoxIs w' (fun b=>P b∨Pv b) B C n false (ms++[m])∧Kept (fun b=>b=C) w w':=by
 obtain ⟨s0,rfl,hs0,hp0⟩:=hv
 obtain ⟨x1,x2,b⟩:=m
 obtain ⟨r,hr⟩:=gN (b.rows)
 obtain ⟨c,hc⟩:=gN (b.cols)
 obtain ⟨sa,sc,rfl,hs2⟩:=id hs0
 obtain ⟨sn,hsn⟩:=gN (b.cells.length)
 dsimp only at hs0 hp0 hsn ⊢
 rw[hsn]at hs0 hp0 ⊢
 rw[hr,hc]
 have hbl:=o_ w (.cells #[.int .i64 x1,.int .i64 x2,.int .i64 r,.int .i64 c,.slice sa sn sc] 82)
 have hbk5:=Blk5.new w (.int .i64 x1) (.int .i64 x2) (.int .i64 r) (.int .i64 c) (.slice sa sn sc)
 obtain ⟨W,hW⟩:=gM (w.alloc (.cells #[.int .i64 x1,.int .i64 x2,.int .i64 r,.int .i64 c,.slice sa sn sc] 82))
 rw[←hW]at hbl hbk5
 have hB:=h.keep (Kept.of (X:=fun _=>False) hbl) (fun _ _ e=>e)
 obtain ⟨buf,s,q,hch,hbs,hq⟩:=hB.ch
 have hcel:=Joins.cell_of_block hB.bx
 have g0:W.cell? ⟨B,1,none⟩=some (.int .i32 0):=by rw[hcel];rfl
 have z0:=Joins.unfrozen_of_block hB.bx 1
 have hkV:=Kept.set (X:=fun b=>b=B) W rfl 1 (.int .i32 1)
 have hVB:=Joins.block_setCell hB.bx (i:=1) (.int .i32 1)
 have hVC:=(hkV.block C (hB.lt C hB.pC) (fun e=>hB.ne e.symm)).trans hch
 have hV5:Blk5 (W.setCell ⟨B,1,none⟩ (.int .i32 1)) w.heap.size (.int .i64 x1) (.int .i64 x2) (.int .i64 r) (.int .i64 c) (.slice sa sn sc):=(hkV.block _ hbk5.lt (fun e=>by have:=h.lt B h.pB;omega)).trans hbk5
 obtain ⟨V,hV⟩:=gM (W.setCell ⟨B,1,none⟩ (.int .i32 1))
 rw[←hV]at hVB hVC hV5
 have hcv:=Joins.cell_of_block hVB
 have k0:V.cell? ⟨B,0,none⟩=some (.chan (some C)):=by rw[hcv];rfl
 have k1:V.cell? ⟨B,1,none⟩=some (.int .i32 1):=by rw[hcv];rfl
 have k3:V.cell? ⟨B,3,none⟩=some (.bool false):=by rw[hcv];rfl
 have z1:=Joins.unfrozen_of_block hVB 1
 obtain ⟨d0,d1,d2,d3,d4⟩:=hV5.c
 have HW:=h_ hW
 have HV:=h_ hV
 clear hW hV hcel hcv
 refine calls_of_loneTo fun cs=>?_
 have e:Frame.enter Tryz.prog 102 #[.pointer (some ⟨B,0,none⟩),.agg #[.int .i64 x1,.int .i64 x2,.int .i64 r,.int .i64 c,.slice sa sn sc]] .normal=(base 102).at ⟨#[.pointer (some ⟨B,0,none⟩),.agg #[.int .i64 x1,.int .i64 x2,.int .i64 r,.int .i64 c,.slice sa sn sc],undef,undef,undef,undef,undef,undef,undef,undef,undef,undef,undef,undef,undef,undef,undef,undef,undef,undef,undef,undef,undef,undef,undef,undef],[]⟩ [.code (Tryz.f102.body.getD .skip)]:=by
  simp[Frame.enter,Frame.at,Tryz.func102,base,Tryz.f102]
 rw[e]
 refine LoneTo.goes (n:=60) ?_
 simp only[Tryz.f102,Option.getD_some]
 s_c stepG_seq
 s_reg
 s_op
 s_op
 s_c stepG_region_end
 s_c stepG_seq
 s_reg
 s_op
 s_op
 s_op
 s_stop
 refine lone_call (R:=fun v w'=>v=.tuple #[]∧w'=V) rfl rfl (run_call_body rfl Tryz.func144 (by kernel_rfl) (by kernel_rfl)) ?_ ?_
 ·rw[←HW.out]
  walk_nrm
  refine (mlock ⟨B,1,none⟩ W g0 z0).mono ?_
  rintro e w' ⟨rfl,rfl⟩
  exact ⟨_,rfl,rfl,HV.out.symm⟩
 rintro v w' ⟨rfl,rfl⟩
 walk_nrm
 refine LoneTo.goes (n:=60) ?_
 s_c stepG_region_end
 s_c stepG_seq
 s_reg
 s_op
 s_op
 s_op
 (s_in;rw[stepG_defer rfl rfl (by decide) rfl];simp only[goes_go];refine ⟨trivial,?_⟩;walk_nrm)
 s_c stepG_region_end
 s_c stepG_seq
 s_c stepG_seq
 s_reg
 s_op
 s_op
 s_op
 s_op
 s_c stepG_region_end
 s_cond false
 s_c stepG_skip
 s_c stepG_seq
 s_c stepG_seq
 s_reg
 s_op
 s_op
 s_op
 s_op
 s_c stepG_region_end
 s_reg
 s_op
 s_c stepG_region_end
 s_c stepG_seq
 s_reg
 s_stop
 refine LoneTo.step (step_lone_select_send_room (c:=C) (v:=.agg #[.int .i64 x1,.int .i64 x2,.int .i64 r,.int .i64 c,.slice sa sn sc]) (z':=.agg #[.int .i64 0,.int .i64 0,.int .i64 0,.int .i64 0,.slice none 0 0]) (cap:=n) (buf:=buf) (s:=s) (r:=q) (tm:=false) (stepG_comm (cases:=#[scase C (.agg #[.int .i64 x1,.int .i64 x2,.int .i64 r,.int .i64 c,.slice sa sn sc]) (.agg #[.int .i64 0,.int .i64 0,.int .i64 0,.int .i64 0,.slice none 0 0])]) (blocking:=false) (shape:=.select) (w':=w') rfl rfl (by decide) (by simp[go_sem,execOp,scase,Act.eval])) hVC (by omega)) ?_
 rw[Frame.finish_at]
 walk_nrm
 refine LoneTo.goes (n:=20) ?_
 s_op
 s_op
 s_c stepG_region_end
 s_c stepG_block
 s_cond true
 s_c stepG_seq
 s_reg
 s_op
 s_c stepG_region_end
 s_c stepG_ret'
 s_stop
 have hkc:=keep_chan (fun b=>b=C) w' C n (buf.push (.agg #[.int .i64 x1,.int .i64 x2,.int .i64 r,.int .i64 c,.slice sa sn sc])) false (s+1) q false rfl
 have hB3:=(hkc.block B (Array.getElem?_eq_some_iff.1 hVB).1 hB.ne).trans hVB
 refine lone_leaves Tryz.func102 rfl rfl rfl (by rintro _ ⟨h,_⟩;cases h) ?_
 refine leaves_cons (f:=145) (args:=#[.pointer (some ⟨B,1,none⟩)]) (by simp) (by simp[go_sem]) ?_
 refine (munlock ⟨B,1,none⟩ .returning _ (by rw[Joins.cell_of_block hB3];rfl) (Joins.unfrozen_of_block hB3 1)).mono ?_
 rintro e u' w'' ⟨rfl,rfl,rfl⟩
 refine ⟨_,results_tmp rfl _ _ _,rfl,?_,?_⟩
 ·rw[HV.out,lock_chan hB.bx hB.ne]
  exact hB.push (m:=(x1,x2,b)) (v:=.agg #[.int .i64 x1,.int .i64 x2,.int .i64 r,.int .i64 c,.slice sa sn sc]) hch hbs hq ⟨_,by rw[hr,hc],hs0.u_ hbl,hp0⟩ (fun b hb=>Nat.lt_of_lt_of_le (hvl b hb) hbl.size) hvC hroom rfl
 ·rw[HV.out,lock_chan hB.bx hB.ne]
  exact (Kept.of hbl).trans (keep_chan (fun b=>b=C) W C n _ false _ _ false rfl) (fun _ _ e=>e)
set_option maxHeartbeats 4000000 in
set_option maxRecDepth 100000 in
theorem qtake_some(P:Nat→Prop)(B C n:Nat)(cl:Bool)(m:Int×Int×Mx)(ms:List (Int×Int×Mx))(w:World)(h:BoxIs w P B C n cl (m::ms)):
  Calls Tryz.prog 93 #[.pointer (some ⟨B,0,none⟩)] w fun e w'=>∃u,e=.returned (.tuple #[u,.nilIface])∧InQ w' P u m∧BoxIs w' P B C n cl ms∧Kept (fun b=>b=C) w w':=by
 have hbl:=o_ w (.cells #[.int .i64 0,.int .i64 0,.int .i64 0,.int .i64 0,.slice none 0 0] 82)
 have hbm:=o_ (w.alloc (.cells #[.int .i64 0,.int .i64 0,.int .i64 0,.int .i64 0,.slice none 0 0] 82)) (.cells #[.int .i64 0,.int .i64 0,.int .i64 0,.int .i64 0,.slice none 0 0] 82)
 have hbl2:=bel_on hbl hbm
 have hr1:=(Blk5.new w (.int .i64 0) (.int .i64 0) (.int .i64 0) (.int .i64 0) (.slice none 0 0)).bel hbm (Blk5.new w _ _ _ _ _).lt
 have hr2:=Blk5.new (w.alloc (.cells #[.int .i64 0,.int .i64 0,.int .i64 0,.int .i64 0,.slice none 0 0] 82)) (.int .i64 0) (.int .i64 0) (.int .i64 0) (.int .i64 0) (.slice none 0 0)
 rw[World.size_alloc]at hr2
 obtain ⟨W,hW⟩:=gM ((w.alloc (.cells #[.int .i64 0,.int .i64 0,.int .i64 0,.int .i64 0,.slice none 0 0] 82)).alloc (.cells #[.int .i64 0,.int .i64 0,.int .i64 0,.int .i64 0,.slice none 0 0] 82))
 rw[←hW]at hbl2 hr1 hr2
 have hB:=h.keep (Kept.of (X:=fun _=>False) hbl2) (fun _ _ e=>e)
 obtain ⟨buf,s,q,hch,hbs,hq⟩:=hB.ch
 have hcel:=Joins.cell_of_block hB.bx
 have k0:((w.alloc (.cells #[.int .i64 0,.int .i64 0,.int .i64 0,.int .i64 0,.slice none 0 0] 82)).alloc (.cells #[.int .i64 0,.int .i64 0,.int .i64 0,.int .i64 0,.slice none 0 0] 82)).cell? ⟨B,0,none⟩=some (.chan (some C)):=by rw[←hW,hcel];rfl
 have HW:=h_ hW
 clear hW
 obtain ⟨hpop,hin⟩:=hB.pop hch hbs hq rfl
 obtain ⟨x1,x2,b⟩:=m
 obtain ⟨sx,hu,hsx,_⟩:=id hin
 obtain ⟨sa,sc,rfl,_⟩:=id hsx
 dsimp only at hu
 obtain ⟨r,hr⟩:=gN (b.rows)
 obtain ⟨c,hc⟩:=gN (b.cols)
 obtain ⟨sn,hsn⟩:=gN (b.cells.length)
 dsimp only at hsn hsx
 rw[hr,hc,hsn]at hu
 obtain ⟨U,hU⟩:=gM (W.setChan C n (buf.extract 1 buf.size) cl s (q+1) false)
 rw[←hU]at hpop hin
 have hkU:Kept (fun b=>b=C) W U:=by rw[hU];exact keep_chan _ _ _ _ _ _ _ _ _ rfl
 have HU:=h_ hU
 clear hU
 have hCn:C≠w.heap.size∧C≠w.heap.size+1:=by have:=h.lt C h.pC;omega
 have hv1:Blk5 U w.heap.size (.int .i64 0) (.int .i64 0) (.int .i64 0) (.int .i64 0) (.slice none 0 0):=(hkU.block _ hr1.lt (fun e=>hCn.1 e.symm)).trans hr1
 have hv2:=hv1.bel (o_ U (.cells #[.int .i64 x1,.int .i64 x2,.int .i64 r,.int .i64 c,.slice sa sn sc] 82)) hv1.lt
 obtain ⟨c0,c1,c2,c3,c4⟩:=hv2.c
 have f0:=hv2.f 0
 have f1:=hv2.f 1
 have f2:=hv2.f 2
 have f3:=hv2.f 3
 have f4:=hv2.f 4
 have hRP:∀b,P b→b≠w.heap.size:=fun b hb e=>by have:=h.lt b hb;omega
 have HPOP:=h_ hpop
 have HIN:=h_ hin
 have HRC:=h_ (And.intro hr (And.intro hc hsn))
 have HKU:=h_ hkU
 clear hpop hin hsx hr hc hsn hq hcel hkU
 refine calls_of_loneTo fun cs=>?_
 have e:Frame.enter Tryz.prog 93 #[.pointer (some ⟨B,0,none⟩)] .normal=(base 93).at ⟨#[.pointer (some ⟨B,0,none⟩),undef,undef,undef,undef,undef,undef,undef,undef,undef,undef,undef,undef,undef,undef,undef,undef,undef,undef,undef,undef,undef,undef],[]⟩ [.code (Tryz.f93.body.getD .skip)]:=by
  simp[Frame.enter,Frame.at,Tryz.func93,base,Tryz.f93]
 rw[e]
 refine LoneTo.goes (n:=60) ?_
 simp only[Tryz.f93,Option.getD_some]
 s_c stepG_seq
 s_reg
 s_op
 s_op
 s_c stepG_region_end
 s_c stepG_seq
 s_reg
 s_op
 s_c stepG_region_end
 s_c stepG_seq
 s_reg
 s_op
 s_op
 s_op
 s_op
 s_c stepG_region_end
 s_c stepG_seq
 s_reg
 s_stop
 rw[←HW.out]
 refine LoneTo.step (step_lone_select_recv_buf (c:=C) (z:=.agg #[.int .i64 0,.int .i64 0,.int .i64 0,.int .i64 0,.slice none 0 0]) (cap:=n) (buf:=buf) (closed:=cl) (s:=s) (r:=q) (tm:=false) (stepG_comm (cases:=#[rcase C (.agg #[.int .i64 0,.int .i64 0,.int .i64 0,.int .i64 0,.slice none 0 0])]) (blocking:=false) (shape:=.select) (w':=W) rfl rfl (by decide) (by simp[go_sem,execOp,rcase,Act.eval])) hch (by simp at hbs;omega)) ?_
 rw[Frame.finish_at,←HU.out,hu]
 walk_nrm
 refine LoneTo.goes (n:=40) ?_
 s_op
 s_op
 s_c stepG_region_end
 s_c stepG_block
 s_cond true
 s_c stepG_seq
 s_reg
 s_op
 s_op
 s_op
 s_op
 s_op
 s_c stepG_region_end
 s_c stepG_seq
 s_c stepG_seq
 s_reg
 s_op
 s_op
 s_c stepG_region_end
 s_cond false
 s_c stepG_skip
 s_c stepG_seq
 s_reg
 s_op
 s_op
 s_op
 s_c stepG_region_end
 s_c stepG_ret'
 s_stop
 refine LoneTo.done ⟨.returned (.tuple #[.agg #[.int .i64 x1,.int .i64 x2,.int .i64 r,.int .i64 c,.slice sa sn sc],.nilIface]),_,rfl,⟨_,rfl,?_⟩,rfl,rfl,rfl,rfl,_,Tryz.func93,by simp[results,Tryz.f93,Frame.at,go_sem,c0,c1,c2,c3,c4]⟩
 have hk5:=keep_five U _ (o_ U (.cells #[.int .i64 x1,.int .i64 x2,.int .i64 r,.int .i64 c,.slice sa sn sc] 82)) w.heap.size (.int .i64 x1) (.int .i64 x2) (.int .i64 r) (.int .i64 c) (.slice sa sn sc)
 refine ⟨?_,HPOP.out.keep hk5 hRP,?_⟩
 ·have:=HIN.out.keep hk5 hRP
  rw[hu]at this
  exact this
 ·exact ((Kept.of hbl2).trans HKU.out (fun _ _ e=>e)).trans hk5 (fun b hb e=>absurd e (by omega))
set_option maxHeartbeats 4000000 in
set_option maxRecDepth 100000 in
theorem qtake_none(P:Nat→Prop)(B C n:Nat)(w:World)(h:BoxIs w P B C n false []):
  Calls Tryz.prog 93 #[.pointer (some ⟨B,0,none⟩)] w fun e w'=>∃u,e=.returned (.tuple #[u,.iface 104 (.int .i64 4)])∧u=.agg #[.int .i64 0,.int .i64 0,.int .i64 0,.int .i64 0,.slice none 0 0]∧InQ w' P u (0,0,⟨0,0,[]⟩)∧BoxIs w' P B C n false []∧Kept (fun b=>b=C) w w':=by
 have hbl:=o_ w (.cells #[.int .i64 0,.int .i64 0,.int .i64 0,.int .i64 0,.slice none 0 0] 82)
 have hbm:=o_ (w.alloc (.cells #[.int .i64 0,.int .i64 0,.int .i64 0,.int .i64 0,.slice none 0 0] 82)) (.cells #[.int .i64 0,.int .i64 0,.int .i64 0,.int .i64 0,.slice none 0 0] 82)
 have hbl2:=bel_on hbl hbm
 have hr1:=(Blk5.new w (.int .i64 0) (.int .i64 0) (.int .i64 0) (.int .i64 0) (.slice none 0 0)).bel hbm (Blk5.new w _ _ _ _ _).lt
 have hr2:=Blk5.new (w.alloc (.cells #[.int .i64 0,.int .i64 0,.int .i64 0,.int .i64 0,.slice none 0 0] 82)) (.int .i64 0) (.int .i64 0) (.int .i64 0) (.int .i64 0) (.slice none 0 0)
 rw[World.size_alloc]at hr2
 obtain ⟨W,hW⟩:=gM ((w.alloc (.cells #[.int .i64 0,.int .i64 0,.int .i64 0,.int .i64 0,.slice none 0 0] 82)).alloc (.cells #[.int .i64 0,.int .i64 0,.int .i64 0,.int .i64 0,.slice none 0 0] 82))
 rw[←hW]at hbl2 hr1 hr2
 have hB:=h.keep (Kept.of (X:=fun _=>False) hbl2) (fun _ _ e=>e)
 obtain ⟨buf,s,q,hch,hbs,hq⟩:=hB.ch
 have hcel:=Joins.cell_of_block hB.bx
 have k0:((w.alloc (.cells #[.int .i64 0,.int .i64 0,.int .i64 0,.int .i64 0,.slice none 0 0] 82)).alloc (.cells #[.int .i64 0,.int .i64 0,.int .i64 0,.int .i64 0,.slice none 0 0] 82)).cell? ⟨B,0,none⟩=some (.chan (some C)):=by rw[←hW,hcel];rfl
 have HW:=h_ hW
 clear hW
 obtain ⟨c0,c1,c2,c3,c4⟩:=(hr1).c
 obtain ⟨d0,d1,d2,d3,d4⟩:=(hr2).c
 have f0:=(hr1).f 0
 have f1:=(hr1).f 1
 have f2:=(hr1).f 2
 have f3:=(hr1).f 3
 have f4:=(hr1).f 4
 have hRP:∀b,P b→b≠w.heap.size:=fun b hb e=>by have:=h.lt b hb;omega
 obtain rfl:buf=#[]:=Array.eq_empty_of_size_eq_zero hbs
 have HB:=h_ hB
 clear hq hcel hB
 refine calls_of_loneTo fun cs=>?_
 have e:Frame.enter Tryz.prog 93 #[.pointer (some ⟨B,0,none⟩)] .normal=(base 93).at ⟨#[.pointer (some ⟨B,0,none⟩),undef,undef,undef,undef,undef,undef,undef,undef,undef,undef,undef,undef,undef,undef,undef,undef,undef,undef,undef,undef,undef,undef],[]⟩ [.code (Tryz.f93.body.getD .skip)]:=by
  simp[Frame.enter,Frame.at,Tryz.func93,base,Tryz.f93]
 rw[e]
 refine LoneTo.goes (n:=60) ?_
 simp only[Tryz.f93,Option.getD_some]
 s_c stepG_seq
 s_reg
 s_op
 s_op
 s_c stepG_region_end
 s_c stepG_seq
 s_reg
 s_op
 s_c stepG_region_end
 s_c stepG_seq
 s_reg
 s_op
 s_op
 s_op
 s_op
 s_c stepG_region_end
 s_c stepG_seq
 s_reg
 s_stop
 rw[←HW.out]
 refine LoneTo.step (step_lone_select_default (c:=C) (z:=.agg #[.int .i64 0,.int .i64 0,.int .i64 0,.int .i64 0,.slice none 0 0]) (cap:=n) (s:=s) (r:=q) (tm:=false) (stepG_comm (cases:=#[rcase C (.agg #[.int .i64 0,.int .i64 0,.int .i64 0,.int .i64 0,.slice none 0 0])]) (blocking:=false) (shape:=.select) (w':=W) rfl rfl (by decide) (by simp[go_sem,execOp,rcase,Act.eval])) hch) ?_
 rw[Frame.finish_at]
 walk_nrm
 refine LoneTo.goes (n:=40) ?_
 s_op
 s_op
 s_c stepG_region_end
 s_c stepG_block
 s_cond false
 s_c stepG_seq
 s_reg
 s_op
 s_op
 s_op
 s_op
 s_c stepG_region_end
 s_c stepG_ret'
 s_stop
 refine LoneTo.done ⟨.returned (.tuple #[.agg #[.int .i64 0,.int .i64 0,.int .i64 0,.int .i64 0,.slice none 0 0],.iface 104 (.int .i64 4)]),_,rfl,⟨_,rfl,rfl,⟨_,rfl,I_.nil _,.inl rfl⟩,?_⟩,rfl,rfl,rfl,rfl,_,Tryz.func93,by simp[results,Tryz.f93,Frame.at,go_sem,c0,c1,c2,c3,c4]⟩
 have hk5:=keep_five W W (Below.refl _ _) w.heap.size (.int .i64 0) (.int .i64 0) (.int .i64 0) (.int .i64 0) (.slice none 0 0)
 exact ⟨HB.out.keep hk5 hRP,((Kept.of hbl2).trans hk5 (fun b hb e=>absurd e (by omega)))⟩
end Go.Proofs.YtflbmhilkkhhlakGreat
