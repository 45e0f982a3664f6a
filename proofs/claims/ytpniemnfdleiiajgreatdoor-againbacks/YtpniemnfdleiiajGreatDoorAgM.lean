/- What is kept of a net, as a map in memory: what stands ahead of a layer by the layer's number. -/
import Derived.Test.YtpniemnfdleiiajGreatDoorPkNetBk
import Derived.Test.YtpniemnfdleiiajGreatDoorPkLyGood
import Derived.Maps.Keyed
import Derived.Maps.OwnSet
namespace Go.Proofs.YtpniemnfdleiiajGreatDoor
open Go.RowKit
theorem lawN:Maps.Keyed Tryz.prog 3:=Maps.int_keyed Tryz.underlying3
theorem keyN_of{k:Int}(h:0≤k∧k≤100):keyOf Tryz.prog 3 (.int .i64 k)=some (.int .i64 k):=Maps.keyOf_int_mk Tryz.underlying3 (WalkArith.wf_i64 (by omega))
def MxA (A:Nat→Prop) (w:World) (v:Value) (m:Mx):Prop:=∃s,v=.agg #[.int .i64 m.rows,.int .i64 m.cols,s]∧P_ w A (.inr m.cells) s
theorem P_.kept{A X:Nat→Prop}{w w':World}{p:Int⊕List Int}{u:Value}(h:P_ w A p u)(hk:Kept X w w')(hx:∀b,X b→A b):P_ w' A p u:=by
 cases p with
 |inl i=>exact h
 |inr zs=>
  by_cases h0:zs=[]
  ·exact ⟨h.1.nilAny h0,.inl h0⟩
  ·have hn:=h.2.resolve_left h0
   exact ⟨h.1.stay (fun p y hp hy=>hk.cell (fun e=>hn p.block hp (hx _ e)) hy),.inr hn⟩
theorem MxA.kept{A X:Nat→Prop}{w w':World}{v:Value}{m:Mx}(h:MxA A w v m)(hk:Kept X w w')(hx:∀b,X b→A b):MxA A w' v m:=by
 obtain ⟨s,h1,h2⟩:=h;exact ⟨s,h1,h2.kept hk hx⟩
theorem MxA.mono{A A':Nat→Prop}{w:World}{v:Value}{m:Mx}(h:MxA A w v m)(hA:∀b,b<w.heap.size→A' b→A b):MxA A' w v m:=by
 obtain ⟨s,h1,h2⟩:=h;exact ⟨s,h1,h2.mono hA⟩
def Ents (A:Nat→Prop) (w:World) (ms:List Mx) (K:List Nat) (es:Array MapEntry):Prop:=
 es.size=K.length∧∀(i:Nat) (e:MapEntry),es[i]?=some e→∃k m,K[i]?=some k∧ms[k]?=some m∧e.key=.int .i64 (k:Int)∧MxA A w e.val m
structure Shelf (A:Nat→Prop) (w:World) (S M:Nat) (ms:List Mx) (K:List Nat) (q:Nat):Prop where
 st:Blk w S #[.map (some M),.int .i64 (q:Int)] 54
 mp:∃es clock,w.heap[M]?=some (.map es clock)∧Ents A w ms K es
 nd:K.Nodup
 lm:ms.length≤13
 aS:A S
 aM:A M
theorem Shelf.ne{A:Nat→Prop}{w:World}{S M:Nat}{ms:List Mx}{K:List Nat}{q:Nat}(h:Shelf A w S M ms K q):S≠M:=by
 rintro rfl
 obtain ⟨es,c,h1,_⟩:=h.mp
 have h2:w.heap[S]?=_:=h.st
 rw[h1]at h2;cases h2
theorem Shelf.ltM{A:Nat→Prop}{w:World}{S M:Nat}{ms:List Mx}{K:List Nat}{q:Nat}(h:Shelf A w S M ms K q):M<w.heap.size:=by
 obtain ⟨es,c,h1,_⟩:=h.mp
 exact (Array.getElem?_eq_some_iff.1 h1).1
theorem Ents.kept{A X:Nat→Prop}{w w':World}{ms:List Mx}{K:List Nat}{es:Array MapEntry}(h:Ents A w ms K es)(hk:Kept X w w')(hx:∀b,X b→A b):Ents A w' ms K es:=
 ⟨h.1,fun i e he=>by obtain ⟨k,m,h1,h2,h3,h4⟩:=h.2 i e he;exact ⟨k,m,h1,h2,h3,h4.kept hk hx⟩⟩
theorem Shelf.kept{A X:Nat→Prop}{w w':World}{S M:Nat}{ms:List Mx}{K:List Nat}{q:Nat}(h:Shelf A w S M ms K q)(hk:Kept X w w')(hx:∀b,X b→A b)(hS:¬X S)(hM:¬X M):Shelf A w' S M ms K q:=by
 obtain ⟨es,c,h1,h2⟩:=h.mp
 exact ⟨(hk.block S h.st.lt hS).trans h.st,⟨es,c,(hk.block M h.ltM hM).trans h1,h2.kept hk hx⟩,h.nd,h.lm,h.aS,h.aM⟩
theorem Shelf.u_{A:Nat→Prop}{w w':World}{S M:Nat}{ms:List Mx}{K:List Nat}{q:Nat}(h:Shelf A w S M ms K q)(hb:Below w.heap.size w w'):Shelf A w' S M ms K q:=
 h.kept (Kept.of (X:=fun _=>False) hb) (fun _ e=>e.elim) (fun e=>e) (fun e=>e)
theorem Shelf.more{A A':Nat→Prop}{w:World}{S M:Nat}{ms:List Mx}{K:List Nat}{q:Nat}(h:Shelf A w S M ms K q)(h1:∀b,b<w.heap.size→A' b→A b)(h2:A' S)(h3:A' M):Shelf A' w S M ms K q:=by
 obtain ⟨es,c,k1,k2,k3⟩:=h.mp
 exact ⟨h.st,⟨es,c,k1,k2,fun i e he=>by obtain ⟨k,m,g1,g2,g3,g4⟩:=k3 i e he;exact ⟨k,m,g1,g2,g3,g4.mono h1⟩⟩,h.nd,h.lm,h2,h3⟩
theorem nodup_at{K:List Nat}(hn:K.Nodup){i j k:Nat}(h:K[i]?=some k)(h':K[j]?=some k):i=j:=by
 obtain ⟨h1,e1⟩:=List.getElem?_eq_some_iff.1 h
 obtain ⟨h2,e2⟩:=List.getElem?_eq_some_iff.1 h'
 rw[←List.Nodup.idxOf_getElem hn i h1,←List.Nodup.idxOf_getElem hn j h2,e1,e2]
theorem Ents.find{A:Nat→Prop}{w:World}{ms:List Mx}{K:List Nat}{es:Array MapEntry}(h:Ents A w ms K es)(hn:K.Nodup)(hl:ms.length≤13){k:Nat}(hk:k≤100):
  (k ∉ K∧∀W,(Instr.findKey 3 (.int .i64 (k:Int)) es.toList).run Tryz.prog W=.ok none W)∨(∃(i:Nat) (e:MapEntry) (m:Mx),K[i]?=some k∧es[i]?=some e∧ms[k]?=some m∧MxA A w e.val m∧∀W,(Instr.findKey 3 (.int .i64 (k:Int)) es.toList).run Tryz.prog W=.ok (some (i,e.val)) W):=by
 have hall:∀e∈es.toList,∃l,keyOf Tryz.prog 3 e.key=some l:=by
  intro e he
  obtain ⟨i,hi⟩:=List.getElem?_of_mem he
  obtain ⟨d,m,q1,q2,q3,_⟩:=h.2 i e (by simpa using hi)
  rw[q3]
  exact ⟨_,keyN_of (by have:=(List.getElem?_eq_some_iff.1 q2).1;omega)⟩
 have hat:∀(j:Nat) (e:MapEntry),es.toList[j]?=some e→e.key=.int .i64 (k:Int)→K[j]?=some k:=by
  intro j e f2 f3
  obtain ⟨d,m,q1,q2,q3,_⟩:=h.2 j e (by simpa using f2)
  have hd:(d:Int)=k:=by
   have:=q3.symm.trans f3
   simpa using this
  rw[q1,show d=k by omega]
 by_cases hm:k∈K
 ·right
  obtain ⟨i,hi⟩:=List.getElem?_of_mem hm
  have hlt:i<es.size:=by rw[h.1];exact (List.getElem?_eq_some_iff.1 hi).1
  obtain ⟨d,m,q1,q2,q3,q4⟩:=h.2 i es[i] (Array.getElem?_eq_getElem hlt)
  rw[hi]at q1
  obtain rfl:=Option.some.inj q1
  refine ⟨i,es[i],m,hi,Array.getElem?_eq_getElem hlt,q2,q4,fun W=>?_⟩
  rcases lawN.find W (keyN_of (k:=(k:Int)) (by omega)) es.toList hall with ⟨_,f2⟩|⟨j,e,f1,f2,f3⟩
  ·exact absurd q3 (f2 es[i] (by simp))
  ·obtain rfl:=nodup_at hn hi (hat j e f2 f3)
   have:e=es[i]:=by
    have:=f2
    simp[hlt]at this
    exact this.symm
   rw[f1,this]
 ·left
  refine ⟨hm,fun W=>?_⟩
  rcases lawN.find W (keyN_of (k:=(k:Int)) (by omega)) es.toList hall with ⟨f1,_⟩|⟨j,e,_,f2,f3⟩
  ·exact f1
  ·exact absurd (List.mem_of_getElem? (hat j e f2 f3)) hm
theorem Shelf.small{A:Nat→Prop}{w:World}{S M:Nat}{ms:List Mx}{K:List Nat}{q:Nat}(h:Shelf A w S M ms K q){k:Nat}(hk:k∈K):k<ms.length:=by
 obtain ⟨es,c,h1,h2⟩:=h.mp
 obtain ⟨i,hi⟩:=List.getElem?_of_mem hk
 have hlt:i<es.size:=by rw[h2.1];exact (List.getElem?_eq_some_iff.1 hi).1
 obtain ⟨d,m,q1,q2,_⟩:=h2.2 i es[i] (Array.getElem?_eq_getElem hlt)
 rw[hi]at q1
 obtain rfl:=Option.some.inj q1
 exact (List.getElem?_eq_some_iff.1 q2).1
theorem Shelf.few{A:Nat→Prop}{w:World}{S M:Nat}{ms:List Mx}{K:List Nat}{q:Nat}(h:Shelf A w S M ms K q):K.length≤13:=by
 have h1:K.length≤(List.range 13).length:=(List.Nodup.length_le_of_subset h.nd (fun k hk=>List.mem_range.2 (Nat.lt_of_lt_of_le (h.small hk) h.lm)))
 simpa using h1
theorem Shelf.look{A:Nat→Prop}{w:World}{S M:Nat}{ms:List Mx}{K:List Nat}{q:Nat}(h:Shelf A w S M ms K q){k:Nat}(hk:k∈K):∃v m,ms[k]?=some m∧MxA A w v m∧
  ∀W:World,W.heap[M]?=w.heap[M]?→(Instr.lookup 52 (.map (some M)) (.int .i64 (k:Int)) false).run Tryz.prog W=.ok v W:=by
 have hk13:=h.small hk
 have hlm:=h.lm
 obtain ⟨es,c,h1,h2⟩:=h.mp
 rcases h2.find h.nd h.lm (k:=k) (by omega) with ⟨f1,_⟩|⟨i,e,m,f1,f2,f3,f4,f5⟩
 ·exact absurd hk f1
 ·refine ⟨e.val,m,f3,f4,fun W hW=>?_⟩
  have hb:W.heap[M]?=some (.map es c):=hW.trans h1
  simp[Instr.lookup,run_underlying Tryz.underlying52,MapKept.run_getObj_map hb,lawN.check W _ (keyN_of (k:=(k:Int)) (by omega)),f5,Result.andThen]
theorem Shelf.len{A:Nat→Prop}{w:World}{S M:Nat}{ms:List Mx}{K:List Nat}{q:Nat}(h:Shelf A w S M ms K q)(ty:TypeId):(Builtin.len_ #[52] ty #[.map (some M)]).run Tryz.prog w=.ok (.int .i64 (K.length:Int)) w:=by
 obtain ⟨es,c,hb,h2⟩:=h.mp
 simp[Builtin.len_,run_underlying Tryz.underlying52,MapKept.run_getObj_map hb,goInt,Result.andThen,h2.1]
theorem kept_block{w:World}{M:Nat}{es:Array MapEntry}{c:Nat}(hb:w.heap[M]?=some (.map es c))(o:Obj):Kept (fun b=>b=M) w (ChangeMaps.setBlock w M o):=
 ⟨rfl,rfl,rfl,by simp[ChangeMaps.setBlock],fun i _ hi=>ChangeMaps.heap_setBlock_other hb _ (fun e=>hi e)⟩
theorem Shelf.add{A:Nat→Prop}{w:World}{S M:Nat}{ms:List Mx}{K:List Nat}{q:Nat}(h:Shelf A w S M ms K q){k:Nat}{m:Mx}{v:Value}(hk:k ∉ K)(hm:ms[k]?=some m)(hv:MxA A w v m):
  ∃w',(Instr.mapUpdate 52 (.map (some M)) (.int .i64 (k:Int)) v).run Tryz.prog w=.ok () w'∧Shelf A w' S M ms (K++[k]) q∧Kept (fun b=>b=M) w w'∧w'.heap.size=w.heap.size:=by
 have hk13:=(List.getElem?_eq_some_iff.1 hm).1
 have hlm:=h.lm
 obtain ⟨es,c,hb,h2⟩:=h.mp
 rcases h2.find h.nd h.lm (k:=k) (by omega) with ⟨_,f5⟩|⟨i,e,m',f1,_⟩
 ·have hK:=kept_block hb (.map (es.push ⟨.int .i64 (k:Int),v,c⟩) (c+1))
  refine ⟨ChangeMaps.setBlock w M (.map (es.push ⟨.int .i64 (k:Int),v,c⟩) (c+1)),?_,⟨(hK.block S h.st.lt h.ne).trans h.st,⟨_,_,ChangeMaps.heap_setBlock_same hb _,?_,?_⟩,?_,h.lm,h.aS,h.aM⟩,hK,by simp[ChangeMaps.setBlock]⟩
  ·simp[Instr.mapUpdate,run_underlying Tryz.underlying52,MapKept.run_getObj_map hb,lawN.check w false (keyN_of (k:=(k:Int)) (by omega)),f5,MapKept.run_setObj_map _ hb,Result.andThen,ChangeMaps.setBlock]
  ·rw[Array.size_push,List.length_append,h2.1];rfl
  ·intro i e he
   rw[Array.getElem?_push]at he
   by_cases hi:i=es.size
   ·rw[if_pos hi]at he
    obtain rfl:=Option.some.inj he
    exact ⟨k,m,by rw[List.getElem?_append_right (by rw[hi,h2.1];exact Nat.le_refl _),hi,h2.1];simp,hm,rfl,hv.kept hK (fun b e=>by rw[e];exact h.aM)⟩
   ·rw[if_neg hi]at he
    obtain ⟨d,m',k1,k2,k3,k4⟩:=h2.2 i e he
    exact ⟨d,m',by rw[List.getElem?_append_left (List.getElem?_eq_some_iff.1 k1).1];exact k1,k2,k3,k4.kept hK (fun b e=>by rw[e];exact h.aM)⟩
  ·rw[List.nodup_append]
   exact ⟨h.nd,by simp,fun a ha b hb e=>hk (by simp at hb;rw[←hb,←e];exact ha)⟩
 ·exact absurd (List.mem_of_getElem? f1) hk
theorem Shelf.del{A:Nat→Prop}{w:World}{S M:Nat}{ms:List Mx}{K:List Nat}{q:Nat}(h:Shelf A w S M ms K q){k:Nat}(hk:k∈K):
  ∃w',(∀ty,(Builtin.delete_ #[52,3] ty #[.map (some M),.int .i64 (k:Int)]).run Tryz.prog w=.ok (.tuple #[]) w')∧Shelf A w' S M ms (K.erase k) q∧Kept (fun b=>b=M) w w'∧w'.heap.size=w.heap.size:=by
 have hk13:=h.small hk
 have hlm:=h.lm
 obtain ⟨es,c,hb,h2⟩:=h.mp
 rcases h2.find h.nd h.lm (k:=k) (by omega) with ⟨f1,_⟩|⟨i,e,m,f1,f2,_,_,f5⟩
 ·exact absurd hk f1
 ·have hlt:i<es.size:=(Array.getElem?_eq_some_iff.1 f2).1
  have hsub:(es.eraseIdxIfInBounds i).toList=es.toList.eraseIdx i:=by
   unfold Array.eraseIdxIfInBounds
   rw[dif_pos hlt]
   simp
  have hKe:K.erase k=K.eraseIdx i:=by
   rw[List.erase_eq_eraseIdx_of_idxOf]
   obtain ⟨g1,g2⟩:=List.getElem?_eq_some_iff.1 f1
   rw[←g2]
   exact List.Nodup.idxOf_getElem h.nd i g1
  have hK:=kept_block hb (.map (es.eraseIdxIfInBounds i) c)
  refine ⟨ChangeMaps.setBlock w M (.map (es.eraseIdxIfInBounds i) c),?_,⟨(hK.block S h.st.lt h.ne).trans h.st,⟨_,_,ChangeMaps.heap_setBlock_same hb _,?_,?_⟩,h.nd.erase k,h.lm,h.aS,h.aM⟩,hK,by simp[ChangeMaps.setBlock]⟩
  ·intro ty
   simp[Builtin.delete_,run_underlying Tryz.underlying52,MapKept.run_getObj_map hb,lawN.check w _ (keyN_of (k:=(k:Int)) (by omega)),f5,MapKept.run_setObj_map _ hb,Result.andThen,ChangeMaps.setBlock]
  ·rw[hKe,←Array.length_toList,hsub,List.length_eraseIdx,List.length_eraseIdx,Array.length_toList,h2.1]
  ·intro j e' he
   have he':(es.toList.eraseIdx i)[j]?=some e':=by rw[←hsub,Array.getElem?_toList];exact he
   rw[List.getElem?_eraseIdx]at he'
   rw[hKe,List.getElem?_eraseIdx]
   split at he'
   ·obtain ⟨d,m',k1,k2,k3,k4⟩:=h2.2 j e' (by simpa using he')
    exact ⟨d,m',by rw[if_pos (by assumption)];exact k1,k2,k3,k4.kept hK (fun b e=>by rw[e];exact h.aM)⟩
   ·obtain ⟨d,m',k1,k2,k3,k4⟩:=h2.2 (j+1) e' (by simpa using he')
    exact ⟨d,m',by rw[if_neg (by assumption)];exact k1,k2,k3,k4.kept hK (fun b e=>by rw[e];exact h.aM)⟩
theorem Shelf.most{A:Nat→Prop}{w:World}{S M:Nat}{ms:List Mx}{K:List Nat}{q:Nat}(h:Shelf A w S M ms K q)(q':Nat):Shelf A (w.setCell ⟨S,1,none⟩ (.int .i64 (q':Int))) S M ms K q':=by
 have hK:=Kept.set (X:=fun b=>b=S) w rfl 1 (.int .i64 (q':Int))
 obtain ⟨es,c,hb,h2⟩:=h.mp
 exact ⟨h.st.set 1 _,⟨es,c,(hK.block M h.ltM (fun e=>h.ne e.symm)).trans hb,h2.kept hK (fun b e=>by rw[e];exact h.aS)⟩,h.nd,h.lm,h.aS,h.aM⟩
theorem Shelf.new{A:Nat→Prop}(w:World)(ms:List Mx)(hm:ms.length≤13)(hS:A (w.heap.size+1))(hM:A w.heap.size):Shelf A ((w.alloc (.map #[] 0)).alloc (.cells #[.map (some w.heap.size),.int .i64 0] 54)) (w.heap.size+1) w.heap.size ms [] 0:=by
 refine ⟨Blk.new _ _ _ (by simp),⟨#[],0,?_,rfl,fun i e h=>by simp at h⟩,List.nodup_nil,hm,hS,hM⟩
 rw[(o_ (w.alloc (.map #[] 0)) _).block _ (by simp)]
 exact (MapKept.heap_alloc w _).1
end Go.Proofs.YtpniemnfdleiiajGreatDoor
