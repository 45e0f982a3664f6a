/- The memory of Back of package net while it goes back through a net. No program in sight, but for the numbers of types. -/
import Derived.Test.YtniloklglpchfafPkNetBk
import Derived.RangeFuncNested
import Derived.RangeFuncCalls
import Derived.OrdersIn
import Derived.Deep.RegionHeld3
import Derived.Test.YtniloklglpchfafRows
namespace Go.Proofs.Ytniloklglpchfaf
open Go.RowKit
def gBk (tp lo s b:Nat):Prop:=(b<tp∨lo≤b)∧b<s+8
structure NbSt (tp lo:Nat) (w W:World) (N:Nat) (vs:Value) (T:Mx) (ts:Value) (D:List (Mx×Mx)) (cs:List Value):Prop where
 saw:Blk W w.heap.size #[vs] 32
 res:Blk W (w.heap.size+1+1) #[.int .i64 0,.int .i64 0,.slice none 0 0] 28
 rgd:Blk W (w.heap.size+1+1+1) #[.slice none 0 0] 23
 rer:Blk W (w.heap.size+1+1+1+1) #[.nilIface] 34
 dat:Blk W (w.heap.size+1+1+1+1+1) cs.toArray 79
 var:Blk W (w.heap.size+1+1+1+1+1+1) #[.slice (some ⟨w.heap.size+1+1+1+1+1,0,none⟩) N N] 23
 cur:Blk W (w.heap.size+1+1+1+1+1+1+1) #[.int .i64 T.rows,.int .i64 T.cols,ts] 28
 prt:P_ W (gBk tp lo w.heap.size) (.inr T.cells) ts
 enc:Enc W (gBk tp lo w.heap.size) (D.flatMap gdS) cs
 len:D.length=N
 bel:Below w.heap.size w W
 los:lo≤w.heap.size
theorem P_.stays{w w':World}{G:Nat→Prop}{p:Int⊕List Int}{u:Value}(h:P_ w G p u)(hs:∀(q:Addr) x,w.cell? q=some x→w'.cell? q=some x):P_ w' G p u:=by
 cases p with
 |inl i=>exact h
 |inr zs=>exact ⟨h.1.stay (fun p x _ hx=>hs p x hx),h.2⟩
theorem NbSt.u_{tp lo:Nat}{w W W':World}{N:Nat}{vs:Value}{T:Mx}{ts:Value}{D:List (Mx×Mx)}{cs:List Value}(h:NbSt tp lo w W N vs T ts D cs)(hb:Below W.heap.size W W'):NbSt tp lo w W' N vs T ts D cs:=
 ⟨h.saw.u_ hb,h.res.u_ hb,h.rgd.u_ hb,h.rer.u_ hb,h.dat.u_ hb,h.var.u_ hb,h.cur.u_ hb,h.prt.u_ hb,h.enc.map (fun _ _ hp=>hp.u_ hb),h.len,b_ h.bel hb,h.los⟩
theorem NbSt.own{tp lo:Nat}{w W W':World}{N:Nat}{vs:Value}{T:Mx}{ts:Value}{D:List (Mx×Mx)}{cs:List Value}{row:Option Nat}{B:Nat}(hB:w.heap.size≤B)(h:NbSt tp lo w W N vs T ts D cs)(hg:W.grownBy W' row)(hr:∀r,row=some r→B≤r∧∃o:Obj,W.heap[r]?=some o∧o.isCells=false):NbSt tp lo w W' N vs T ts D cs:=by
 have kb:∀{b:Nat} {c:Array Value} {t:TypeId},Blk W b c t→Blk W' b c t:=fun {b c t} hb=>Blk.own (β:=Unit) b c t () W W' row hb hg (fun r e=>(hr r e).2)
 have kc:∀(q:Addr) x,W.cell? q=some x→W'.cell? q=some x:=fun q x hx=>cell_kept hx hg (fun r e=>(hr r e).2)
 exact ⟨kb h.saw,kb h.res,kb h.rgd,kb h.rer,kb h.dat,kb h.var,kb h.cur,h.prt.stays kc,h.enc.map (fun _ _ hp=>hp.stays kc),h.len,h.bel.grown hg h.bel.size (fun k e=>Nat.le_trans hB (hr k e).1),h.los⟩
def put3 (W:World) (B:Nat) (x y z:Value):World:=((W.setCell ⟨B,0,none⟩ x).setCell ⟨B,1,none⟩ y).setCell ⟨B,2,none⟩ z
theorem NbSt.putTo{tp lo:Nat}{w W:World}{N:Nat}{vs:Value}{T T':Mx}{ts ts':Value}{D:List (Mx×Mx)}{cs:List Value}(h:NbSt tp lo w W N vs T ts D cs)(hp:P_ W (gBk tp lo w.heap.size) (.inr T'.cells) ts'):NbSt tp lo w (put3 W (w.heap.size+1+1+1+1+1+1+1) (.int .i64 T'.rows) (.int .i64 T'.cols) ts') N vs T' ts' D cs:=by
 have o:∀{b:Nat} {c:Array Value} {t:TypeId},Blk W b c t→b≠w.heap.size+1+1+1+1+1+1+1→Blk (put3 W (w.heap.size+1+1+1+1+1+1+1) (.int .i64 T'.rows) (.int .i64 T'.cols) ts') b c t:=fun hb hne=>((hb.other hne _).other hne _).other hne _
 have g7:gBk tp lo w.heap.size (w.heap.size+1+1+1+1+1+1+1):=⟨.inr (by have:=h.los;omega),by omega⟩
 refine ⟨o h.saw (by omega),o h.res (by omega),o h.rgd (by omega),o h.rer (by omega),o h.dat (by omega),o h.var (by omega),?_,((hp.set g7 0 _).set g7 1 _).set g7 2 _,h.enc.map (fun _ _ hq=>((hq.set g7 0 _).set g7 1 _).set g7 2 _),h.len,S_ h.bel (by omega) _ _ _,h.los⟩
 exact ((h.cur.set 0 _).set 1 _).set 2 _
def put6 (W:World) (B q:Nat) (x y z x' y' z':Value):World:=(((((W.setCell ⟨B,q,none⟩ x).setCell ⟨B,q+1,none⟩ y).setCell ⟨B,q+2,none⟩ z).setCell ⟨B,q+3,none⟩ x').setCell ⟨B,q+4,none⟩ y').setCell ⟨B,q+5,none⟩ z'
theorem NbSt.putGd{tp lo:Nat}{w W:World}{N:Nat}{vs:Value}{T:Mx}{ts:Value}{D:List (Mx×Mx)}{cs:List Value}(h:NbSt tp lo w W N vs T ts D cs){i:Nat}(hi:i<N){d:Mx×Mx}{s1 s2:Value}(h1:P_ W (gBk tp lo w.heap.size) (.inr d.1.cells) s1)(h2:P_ W (gBk tp lo w.heap.size) (.inr d.2.cells) s2):
  NbSt tp lo w (put6 W (w.heap.size+1+1+1+1+1) (i*6) (.int .i64 d.1.rows) (.int .i64 d.1.cols) s1 (.int .i64 d.2.rows) (.int .i64 d.2.cols) s2) N vs T ts (D.set i d) (set6 cs (i*6) (.int .i64 d.1.rows) (.int .i64 d.1.cols) s1 (.int .i64 d.2.rows) (.int .i64 d.2.cols) s2):=by
 have o:∀{b:Nat} {c:Array Value} {t:TypeId},Blk W b c t→b≠w.heap.size+1+1+1+1+1→Blk (put6 W (w.heap.size+1+1+1+1+1) (i*6) (.int .i64 d.1.rows) (.int .i64 d.1.cols) s1 (.int .i64 d.2.rows) (.int .i64 d.2.cols) s2) b c t:=fun hb hne=>(((((hb.other hne _).other hne _).other hne _).other hne _).other hne _).other hne _
 have g5:gBk tp lo w.heap.size (w.heap.size+1+1+1+1+1):=⟨.inr (by have:=h.los;omega),by omega⟩
 have hp:∀{p:Int⊕List Int} {u:Value},P_ W (gBk tp lo w.heap.size) p u→P_ (put6 W (w.heap.size+1+1+1+1+1) (i*6) (.int .i64 d.1.rows) (.int .i64 d.1.cols) s1 (.int .i64 d.2.rows) (.int .i64 d.2.cols) s2) (gBk tp lo w.heap.size) p u:=fun hq=>(((((hq.set g5 _ _).set g5 _ _).set g5 _ _).set g5 _ _).set g5 _ _).set g5 _ _
 refine ⟨o h.saw (by omega),o h.res (by omega),o h.rgd (by omega),o h.rer (by omega),?_,o h.var (by omega),o h.cur (by omega),hp h.prt,enc_set6 (h.enc.map (fun _ _ hq=>hp hq)) (by rw[h.len];exact hi) (enc_gd (hp h1) (hp h2)),by rw[List.length_set];exact h.len,?_,h.los⟩
 ·have:=(((((h.dat.set (i*6) (.int .i64 d.1.rows)).set (i*6+1) (.int .i64 d.1.cols)).set (i*6+2) s1).set (i*6+3) (.int .i64 d.2.rows)).set (i*6+4) (.int .i64 d.2.cols)).set (i*6+5) s2
  simpa [set6,put6] using this
 ·exact (((((h.bel.setCell (p:=⟨_,_,none⟩) (by simp;omega) _).setCell (p:=⟨_,_,none⟩) (by simp;omega) _).setCell (p:=⟨_,_,none⟩) (by simp;omega) _).setCell (p:=⟨_,_,none⟩) (by simp;omega) _).setCell (p:=⟨_,_,none⟩) (by simp;omega) _).setCell (p:=⟨_,_,none⟩) (by simp;omega) _
theorem P_.keep{w w':World}{G P:Nat→Prop}{q:Int⊕List Int}{u:Value}(h:P_ w G q u)(hk:Keep P w w')(hP:∀b,¬G b→P b):P_ w' G q u:=by
 cases q with
 |inl i=>exact h
 |inr zs=>
  rcases h.2 with h0|h0
  ·exact ⟨h.1.nilAny h0,.inl h0⟩
  ·exact ⟨h.1.stay (fun p x hp hx=>hk p x (hP _ (h0 _ hp)) hx),.inr h0⟩
theorem keep_put{p:Nat→Prop}{w u:World}{D:Nat}{o o':Obj}(h:Keep p w u)(hK:u.heap[D]?=some o)(hc:o.isCells=false):Keep p w (u.putObj D o'):=fun a x ha hx=>cell_kept (h a x ha hx) (grownBy_putObj' u D o') (fun r e=>by cases e;exact ⟨_,hK,hc⟩)
theorem part_lo{w Z:World}{s:Value}{zs:List Int}{tp lo:Nat}(h:P_ w (fun b=>(b<tp∨lo≤b)∧b<w.heap.size) (.inr zs) s)(hb:Below w.heap.size w Z):P_ Z (gBk tp lo w.heap.size) (.inr zs) s:=by
 have h1:=part_old h.1 hb (G:=fun b=>w.heap.size≤b) (fun b q=>q)
 refine ⟨h1.1,?_⟩
 rcases h.2 with q|q
 ·exact .inl q
 rcases h1.2 with r|r
 ·exact .inl r
 exact .inr (fun b e hg=>by
  have q1:=q b e
  have q2:=r b e
  unfold gBk at hg
  dsimp only at q1 q2
  omega)
theorem NbSt.ends{tp lo:Nat}{w W W':World}{N:Nat}{vs:Value}{T:Mx}{ts:Value}{D:List (Mx×Mx)}{cs:List Value}(h:NbSt tp lo w W N vs T ts D cs)(hN:N≤12)(hk:Keep (fun b=>b≠w.heap.size+1+1∧b≠w.heap.size+1+1+1∧b≠w.heap.size+1+1+1+1) W W'):Hold (fun b=>(b<tp∨lo≤b)∧b<w.heap.size) W' (fun X=>I_ X ts T.cells∧D_ X (.slice (some ⟨w.heap.size+1+1+1+1+1,0,none⟩) N N) D):=by
 intro X hX
 have hl:=h.los
 have hk:Keep (fun b=>(b≠w.heap.size+1+1∧b≠w.heap.size+1+1+1∧b≠w.heap.size+1+1+1+1)∧¬((b<tp∨lo≤b)∧b<w.heap.size)) W X:=fun a x ha hx=>hX a x ha.2 (hk a x ha.1 hx)
 have hP:∀q,¬gBk tp lo w.heap.size q→(fun b=>(b≠w.heap.size+1+1∧b≠w.heap.size+1+1+1∧b≠w.heap.size+1+1+1+1)∧¬((b<tp∨lo≤b)∧b<w.heap.size)) q:=fun q hq=>by unfold gBk at hq;refine ⟨⟨?_,?_,?_⟩,?_⟩<;>omega
 refine ⟨(h.prt.keep hk hP).1,?_⟩
 show Reads _ _ D.length _
 rw[h.len]
 refine ⟨_,_,rfl,Nat.le_refl _,by unfold maxLen;omega,.inr ⟨_,0,rfl,fun j p hp=>?_⟩⟩
 obtain ⟨u,hu,hp'⟩:=h.enc.2 j p hp
 exact ⟨u,hk _ _ (show (_∧_∧_)∧_ from ⟨⟨(by dsimp only;omega),(by dsimp only;omega),(by dsimp only;omega)⟩,(by dsimp only;omega)⟩) (h.dat.cell (j:=0+j) (by simpa using hu)),(hp'.keep hk hP).mono (fun _ _ hf=>hf.elim)⟩
theorem upon_in{l n:Nat}{P:Program}{o:Oper}{a:Act}{K:Act→World→Prop}{Q:Exit→Act→World→Prop}{r:Result Next}(h:o.upon P a K Q r):o.uponIn (Fence.wide.inRound l) n P a K Q r:=by
 cases r with
 |ok x w=>
  cases x with
  |value v=>exact h
  |skip=>exact h
  |defer d=>exact h
  |enter f args=>exact ⟨fun hd=>(by cases hd),CallsIn.inRound l (callsIn_wide.2 h)⟩
  |row row args=>exact ⟨fun hd=>(by cases hd),fun c cs _=>let ⟨v,w',r,s⟩:=h c cs;⟨v,w',r,stepsIn_wide.2 s⟩⟩
  |_=>exact (h:False).elim
 |halt x w=>cases x<;>exact h
def noDefer (ops:Array Oper):Bool:=ops.toList.all fun o=>match o.op with|.defer _=>false|_=>true
theorem noDefer_at{ops:Array Oper}(h:noDefer ops=true){i:Nat}{o:Oper}(ho:ops[i]?=some o):∀c,o.op≠.defer c:=by
 intro c e
 have:=List.all_eq_true.1 h o (List.mem_of_getElem? (i:=i) (by simpa using ho))
 rw[e]at this;cases this
theorem op_in{l n:Nat}{P:Program}{ops:Array Oper}{Q:Exit→Act→World→Prop}{i:Nat}{K:Act→World→Prop}{a:Act}{w:World}(hQ:¬LetsOut Q)(hnd:noDefer ops=true)(h:wpOp P ops Q i K a w):wpOpIn (Fence.wide.inRound l) n P ops Q i K a w:=by
 unfold wpOp at h
 unfold wpOpIn
 cases ho:ops[i]? with
 |none=>simp only[ho]at h ⊢;exact h
 |some o=>
  simp only[ho]at h ⊢
  split
  ·rename_i hw
   rw[if_pos hw]at h
   refine ⟨fun f _=>trivial,?_⟩
   rw[Oper.semAt_eq _ _ _ (noDefer_at hnd ho)]
   exact upon_in (h.resolve_right (fun h'=>hQ h'.2))
  ·rename_i hw
   rw[if_neg hw]at h
   exact ⟨fun f _=>trivial,h⟩
theorem any_in{l n:Nat}{P:Program}{md:Region.Mode}{ops:Array Oper}{Q:Exit→Act→World→Prop}(hQ:¬LetsOut Q)(hnd:noDefer ops=true):∀(fuel:Nat) (listed:Array Bool) (a:Act) (w:World),wpAny P md ops Q fuel listed a w→wpAnyIn (Fence.wide.inRound l) n P md ops Q fuel listed a w
 |0,_,_,_,h=>h
 |fuel+1,_,_,_,h=>⟨h.1,fun i hi=>op_in hQ hnd (wpOp_mono (fun a' w' h'=>any_in hQ hnd fuel _ a' w' h') (h.2 i hi))⟩
theorem region_round{l n:Nat}{P:Program}{ops:Array Oper}{Q:Exit→Act→World→Prop}{S:World→Prop}{id:Nat}{a:Act}{w:World}(hm:P.follows .mixedOrders=true)(hQ:¬LetsOut Q)(hnd:noDefer ops=true)(hS:S w.drew)
  (h:S w.drew→wpAnyH P .any ops Q S ops.size (Array.replicate ops.size false) a w.drew):(Code.region id ops true).wpIn (Fence.wide.inRound l) n P Q a w:=
 wpIn_region_any hm (any_in hQ hnd _ _ _ _ (wpAny_of_held _ _ _ _ (h hS)))
end Go.Proofs.Ytniloklglpchfaf
