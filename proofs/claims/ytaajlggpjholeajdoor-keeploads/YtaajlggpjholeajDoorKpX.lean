/- Two lists that grow side by side while a reader reads. No program in sight but the shapes of a layer and a Grad. -/
import Derived.Test.YtaajlggpjholeajDoorKpK
import Derived.Test.YtaajlggpjholeajDoorLists2
import Derived.Test.YtaajlggpjholeajDoorPkLBox
namespace Go.Proofs.YtaajlggpjholeajDoor
open Go.RowKit
def LstX (base:Nat) (w:World) (o t:Value) (i j:Nat) (L:List Ly) (D:List (Mx×Mx)):Prop:=OwnsX (fun b=>t.ownBlock=some b∨b<base) base w 53 7 o i (L.flatMap lyS)∧OwnsX (fun b=>o.ownBlock=some b∨b<base) base w 56 6 t j (D.flatMap gdS)∧∀b,o.ownBlock=some b→t.ownBlock≠some b
theorem LstX.nil(base:Nat)(w:World):LstX base w (.slice none 0 0) (.slice none 0 0) 0 0 [] []:=⟨OwnsX.nil _ _ _ _ _,OwnsX.nil _ _ _ _ _,fun b h=>by simp[Value.ownBlock]at h⟩
theorem LstX.u_{base:Nat}{w w':World}{o t:Value}{i j:Nat}{L:List Ly}{D:List (Mx×Mx)}(h:LstX base w o t i j L D)(hb:Below w.heap.size w w'):LstX base w' o t i j L D:=⟨h.1.u_ hb,h.2.1.u_ hb,h.2.2⟩
theorem LstX.low{base B:Nat}{w w':World}{o t:Value}{i j:Nat}{L:List Ly}{D:List (Mx×Mx)}(h:LstX base w o t i j L D)(hg:w.grownBy w' (some B))(hB:B<base):LstX base w' o t i j L D:=by
 refine ⟨h.1.kept hg (fun b hb e=>?_) (fun b e=>.inr (by rw[←Option.some.inj e];exact hB)) (fun _ _ h=>h),h.2.1.kept hg (fun b hb e=>?_) (fun b e=>.inr (by rw[←Option.some.inj e];exact hB)) (fun _ _ h=>h),h.2.2⟩
 ·have:=(h.1.lt b hb).1;have:=Option.some.inj e;omega
 ·have:=(h.2.1.lt b hb).1;have:=Option.some.inj e;omega
theorem LstX.lys{base:Nat}{w:World}{o t:Value}{i j:Nat}{L:List Ly}{D:List (Mx×Mx)}(h:LstX base w o t i j L D)(hl:L.length=i):Y_ w o L:=by unfold Y_;rw[hl];exact h.1.reads
theorem LstX.gds{base:Nat}{w:World}{o t:Value}{i j:Nat}{L:List Ly}{D:List (Mx×Mx)}(h:LstX base w o t i j L D)(hl:D.length=j):D_ w t D:=by unfold D_;rw[hl];exact h.2.1.reads
theorem LstX.push1{base:Nat}{w w':World}{o o' t:Value}{i j:Nat}{L:List Ly}{D:List (Mx×Mx)}{l:Ly}(h:LstX base w o t i j L D)(h1:OwnsX (fun b=>t.ownBlock=some b∨b<base) base w' 53 7 o' (i+1) (L.flatMap lyS++lyS l))(hg:w.grownBy w' o.ownBlock)(hw:o'.ownBlock=o.ownBlock∨o'.ownBlock=some w.heap.size)(hx:∀b,(t.ownBlock=some b∨b<base)→o.ownBlock≠some b→o'.ownBlock≠some b):LstX base w' o' t (i+1) j (L++[l]) D:=by
 refine ⟨by rw[←flat_snoc];exact h1,h.2.1.kept hg (fun b hb he=>h.2.2 b he hb) (fun b hb=>.inl hb) (fun b hlt hb=>hb.imp (fun hb=>?_) id),fun b hb he=>hx b (.inl he) (fun hu=>h.2.2 b hu he) hb⟩
 rcases hw with q|q
 ·rw[←q];exact hb
 ·rw[q]at hb;have:=Option.some.inj hb;omega
theorem LstX.push2{base:Nat}{w w':World}{o t t':Value}{i j:Nat}{L:List Ly}{D:List (Mx×Mx)}{d:Mx×Mx}(h:LstX base w o t i j L D)(h1:OwnsX (fun b=>o.ownBlock=some b∨b<base) base w' 56 6 t' (j+1) (D.flatMap gdS++gdS d))(hg:w.grownBy w' t.ownBlock)(hw:t'.ownBlock=t.ownBlock∨t'.ownBlock=some w.heap.size)(hx:∀b,(o.ownBlock=some b∨b<base)→t.ownBlock≠some b→t'.ownBlock≠some b):LstX base w' o t' i (j+1) L (D++[d]):=by
 refine ⟨h.1.kept hg (fun b hb he=>h.2.2 b hb he) (fun b hb=>.inl hb) (fun b hlt hb=>hb.imp (fun hb=>?_) id),by rw[←flat_snoc];exact h1,fun b hb he=>hx b (.inl hb) (h.2.2 b hb) he⟩
 rcases hw with q|q
 ·rw[←q];exact hb
 ·rw[q]at hb;have:=Option.some.inj hb;omega
theorem LstX.part{base:Nat}{w w':World}{o t:Value}{i j:Nat}{L:List Ly}{D:List (Mx×Mx)}(h:LstX base w o t i j L D)(hb:base≤w.heap.size){s:Value}{zs:List Int}(hs:OwnZ w' w.heap.size s zs):P_ w' (fun b=>o.ownBlock=some b∨(t.ownBlock=some b∨b<base)) (.inr zs) s:=by
 refine ⟨hs.isInts,.inr fun b e hg=>?_⟩
 have h0:=(World.ownsRow.lt hs b e).1
 rcases hg with q|q|q
 ·have:=(h.1.lt b q).2;omega
 ·have:=(h.2.1.lt b q).2;omega
 ·omega
theorem LstX.part2{base:Nat}{w w':World}{o t:Value}{i j:Nat}{L:List Ly}{D:List (Mx×Mx)}(h:LstX base w o t i j L D)(hb:base≤w.heap.size){s:Value}{zs:List Int}(hs:OwnZ w' w.heap.size s zs):P_ w' (fun b=>t.ownBlock=some b∨(o.ownBlock=some b∨b<base)) (.inr zs) s:=by
 refine ⟨hs.isInts,.inr fun b e hg=>?_⟩
 have h0:=(World.ownsRow.lt hs b e).1
 rcases hg with q|q|q
 ·have:=(h.2.1.lt b q).2;omega
 ·have:=(h.1.lt b q).2;omega
 ·omega
theorem part_low{base B:Nat}{w w':World}{P:Nat→Prop}{Q:Nat→Prop}{p:Int⊕List Int}{u:Value}(h:P_ w (fun b=>P b∨(Q b∨b<base)) p u)(hg:w.grownBy w' (some B))(hB:B<base):P_ w' (fun b=>P b∨(Q b∨b<base)) p u:=
 h.grown hg (fun b e=>.inr (.inr (by rw[←Option.some.inj e];exact hB))) (fun _ _ h=>h)
theorem wp_app_ly{w:World}{o:Oper}{a:Act}{K:Act→World→Prop}{Q:Exit→Act→World→Prop}(s x:Operand)(ho:o.op=.call { callee:=.builtin .append,args:=#[s,x],argTypes:=#[22,22] })
  (base:Nat) (ov tv:Value) (i j:Nat) (L:List Ly) (D:List (Mx×Mx)) (hs:a.eval s=ov) (h:LstX base w ov tv i j L D) (C:Nat) (l:Ly) (p q:Value) (hx:a.eval x=.slice (some ⟨C,0,none⟩) 1 1) (hc:WBk w C #[.int .i64 l.k,.int .i64 l.w.rows,.int .i64 l.w.cols,p,.int .i64 l.b.rows,.int .i64 l.b.cols,q] 53)
  (hp:P_ w (fun b=>ov.ownBlock=some b∨(tv.ownBlock=some b∨b<base)) (.inr l.w.cells) p) (hq:P_ w (fun b=>ov.ownBlock=some b∨(tv.ownBlock=some b∨b<base)) (.inr l.b.cells) q) (hi:i≤1000) (hb:base≤w.heap.size)
  (hk:∀v' w',LstX base w' v' tv (i+1) j (L++[l]) D→w.grownBy w' ov.ownBlock→K (a.put o.dst v') w'):o.wp Tryd.prog a w K Q:=by
 obtain ⟨e0,ei,hz0,hz1,hz2⟩:=info_parts infoLy2
 refine wp_append_ownsX s x 22 ho base 53 e0 _ 7 88 Tryd.underlying22 ei hz0 hz1 hz2 rfl (by decide) (fun b=>tv.ownBlock=some b∨b<base) ov i _ hs h.1 ⟨C,0,none⟩ 1 1 [.int .i64 l.k,.int .i64 l.w.rows,.int .i64 l.w.cols,p,.int .i64 l.b.rows,.int .i64 l.b.cols,q] hx rfl (fun j u hj=>?_) (lyS l) (enc_ly2 hp hq) (by unfold maxLen;omega) (by omega) hb (fun b hb'=>?_) fun v' w' h1 h2 h3 h4=>hk v' w' (h.push1 h1 h2 h3 h4) h2
 ·rw[addr_add]
  exact hc.c (by simpa using hj)
 ·rcases hb' with q|q
  ·exact (h.2.1.lt b q).2
  ·omega
theorem wp_app_gd{w:World}{o:Oper}{a:Act}{K:Act→World→Prop}{Q:Exit→Act→World→Prop}(s x:Operand)(ho:o.op=.call { callee:=.builtin .append,args:=#[s,x],argTypes:=#[23,23] })
  (base:Nat) (ov tv:Value) (i j:Nat) (L:List Ly) (D:List (Mx×Mx)) (hs:a.eval s=tv) (h:LstX base w ov tv i j L D) (C:Nat) (d:Mx×Mx) (p q:Value) (hx:a.eval x=.slice (some ⟨C,0,none⟩) 1 1) (hc:WBk w C #[.int .i64 d.1.rows,.int .i64 d.1.cols,p,.int .i64 d.2.rows,.int .i64 d.2.cols,q] 56)
  (hp:P_ w (fun b=>tv.ownBlock=some b∨(ov.ownBlock=some b∨b<base)) (.inr d.1.cells) p) (hq:P_ w (fun b=>tv.ownBlock=some b∨(ov.ownBlock=some b∨b<base)) (.inr d.2.cells) q) (hi:j≤1000) (hb:base≤w.heap.size)
  (hk:∀v' w',LstX base w' ov v' i (j+1) L (D++[d])→w.grownBy w' tv.ownBlock→K (a.put o.dst v') w'):o.wp Tryd.prog a w K Q:=by
 obtain ⟨e0,ei,hz0,hz1,hz2⟩:=info_parts infoGd
 refine wp_append_ownsX s x 23 ho base 56 e0 _ 6 80 Tryd.underlying23 ei hz0 hz1 hz2 rfl (by decide) (fun b=>ov.ownBlock=some b∨b<base) tv j _ hs h.2.1 ⟨C,0,none⟩ 1 1 [.int .i64 d.1.rows,.int .i64 d.1.cols,p,.int .i64 d.2.rows,.int .i64 d.2.cols,q] hx rfl (fun j u hj=>?_) (gdS d) (enc_gd hp hq) (by unfold maxLen;omega) (by omega) hb (fun b hb'=>?_) fun v' w' h1 h2 h3 h4=>hk v' w' (h.push2 h1 h2 h3 h4) h2
 ·rw[addr_add]
  exact hc.c (by simpa using hj)
 ·rcases hb' with q|q
  ·exact (h.1.lt b q).2
  ·omega
theorem dmS_none(b:Bool):dmS b none=none:=by cases b<;>rfl
theorem kfin{l:List Int}{st:Option (List Int)}{xs:List (Ly×(Mx×Mx))}{a K i:Nat}{n:Int}{E:Option (List (Ly×(Mx×Mx))×List Int)}(hE:rdS l=match E with|none=>none|some (ys,t)=>some ((n,ys),t))(hinv:KInv E K i xs st)(hki:st=none∨K≤i)(ha:a≤l.length)(hst:∀t,st=some t→t=l.drop a):match rdF l with
  |none=>dmS (decide (l.drop a=sumsG 0 0 (l.take a))) st=none
  |some (n',ys)=>dmS (decide (l.drop a=sumsG 0 0 (l.take a))) st≠none∧n=n'∧xs=ys:=by
 cases st with
 |none=>
  have h0:E=none:=hinv
  rw[h0]at hE
  have:rdF l=none:=by unfold rdF;rw[hE]
  rw[this]
  exact dmS_none _
 |some t=>
  have h0:=hinv.done (hki.resolve_left (by simp))
  rw[h0]at hE
  rw[rdF_tail hE (hst t rfl) ha]
  by_cases c:decide (l.drop a=sumsG 0 0 (l.take a))=true
  ·rw[if_pos c,c]
   exact ⟨by simp[dmS],rfl,rfl⟩
  ·rw[if_neg c,Bool.not_eq_true _|>.mp c]
   rfl
end Go.Proofs.YtaajlggpjholeajDoor
