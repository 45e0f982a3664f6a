/- The law RingsPlain up to behind its first Sum. -/
import Derived.Test.YtniloklglpchfaiPkRgK
import Derived.Test.YtniloklglpchfaiPkEqCc
namespace Go.Proofs.Ytniloklglpchfai
open Go Go.RowKit Go.Conc
theorem Lies.ext{W W':World}{k0 kn:Nat→Prop}(h:Lies W k0)(hx:Ext kn W W')(hk:∀B,k0 B→kn B):Lies W' k0:=fun B hB=>by
 obtain ⟨a,e,z,h1,h2,h3⟩:=h B hB
 exact ⟨a,e,z,(hx.keep B (hk B hB) (lt_of_some h1)).trans h1,h2,h3⟩
theorem Lies.made{W:World}{k0:Nat→Prop}(h:Lies W k0){x:Array Value}{e:TypeId}(hg:G0≤W.heap.size):Lies (W.alloc (.cells x e)) (orP k0 (fun B=>B=W.heap.size)):=fun B hB=>by
 rcases hB with hB|rfl
 ·obtain ⟨a,e,z,h1,h2,h3⟩:=h B hB
  exact ⟨a,e,z,(heap_alloc_old _ _ (lt_of_some h1)).trans h1,h2,h3⟩
 ·exact ⟨x,e,(0,0),heap_alloc_new _ _,fun i q1 q2=>by simp at q2,hg⟩
theorem SumOut.mono{W W2:World}{k0 k1:Nat→Prop}{c Zb:Nat}{S:List Int}{T:Nat→Nat}(h:SumOut W W2 k0 c S Zb T)(hk:∀B,k1 B→k0 B){V:World}(hV:∀B,k1 B→W.heap[B]?=V.heap[B]?):SumOut V W2 k1 c S Zb T:=by
 refine ⟨h.g0,fun B hB=>?_,h.row,h.ts,h.gz,h.gt,fun q=>h.kz (hk _ q),fun i hi q=>h.kt i hi (hk _ q),h.tz,h.tt⟩
 obtain ⟨a,e,z,z',h1,h2,h3⟩:=h.still B (hk B hB)
 exact ⟨a,e,z,z',(hV B hB).symm.trans h1,h2,h3⟩
def IsRp (c:Code):Prop:=c=sndC (sndC ((Try.f3).body.getD .skip))
set_option linter.unusedSimpArgs false in
set_option linter.unusedVariables false in
set_option maxRecDepth 100000 in
set_option maxHeartbeats 4000000 in
theorem rp_first{Goal2:Stand}{W:World}{pv:Value}{kp:Nat→Prop}(hg:G0≤W.heap.size)(hK:Lies W kp){cs:List Frame}{nE:Nat}
  (hend:∀U W2 Zb T a f,IsRp U→SumOut W W2 kp 2 [11,22,33] Zb T→Slots a 149 f→f 0=pv→f 3=.slice (some ⟨Zb,0,none⟩) 2 2→f 4=.nilIface→∃ρ,Path (mkE Try.prog rgF rgF) Goal2 nE ρ (G ((base 3).at a [.code U]) cs) W2 (kS kp 2 Zb T) (oS 2 Zb T)):
  ∃ρ,Path (mkE Try.prog rgF rgF) (StartG (mkE Try.prog rgF rgF) Goal2) 120 ρ (G (Frame.enter Try.prog 3 #[pv] .normal) cs) W kp noP:=by
 have hP:(mkE Try.prog rgF rgF).P=Try.prog:=rfl
 have hke:(base 3).kind≠.early:=by decide
 have hH:Here W kp noP:=⟨fun B q=>hK.lt q,fun B q=>q.elim⟩
 obtain ⟨U,hU⟩:∃U,IsRp U:=⟨_,rfl⟩
 have hU':=hU
 unfold IsRp at hU'
 simp only[Try.f3,Option.getD_some,sndC]at hU'
 refine path_begin (m:=149) Try.func3 rfl rfl (by simp) fun a hs=>?_
 refine path_seq hH ?_
 refine path_region hH rfl ?_
 refine path_slot hH hs (.bool false) rfl rfl (by decide) (fun _=>rfl) hke (fun a W' h=>by clear h;rw[hP];go_simp<;>omega) (fun a W' h e he=>by have hm:=mem_listed he;clear h;rw[hP]at hm;simp[go_sem,Act.eval,-Array.getD_eq_getD_getElem?]at hm) fun a hs'=>?_
 replace hs:=hs'
 clear hs'
 refine path_region_end hH ?_
 refine path_seq hH ?_
 rw[←hU']
 clear hU'
 refine path_region hH rfl ?_
 have hX0:G0≤W.heap.size:=hg
 have hK0:Lies W kp:=hK
 have hV0:∀B,kp B→W.heap[B]?=W.heap[B]?:=fun _ _=>rfl
 refine path_slot_make hH hs (fun B=>.slice (some ⟨B,0,none⟩) 3 3) (.cells #[.int .i64 1,.int .i64 2,.int .i64 3] 3) rfl rfl (by decide) (fun _=>rfl) hke (fun a W' h hx=>by clear h;rw[hP];go_simp) (fun a W' h e he=>by have hm:=mem_listed he;clear h;rw[hP]at hm;simp[go_sem,Act.eval,-Array.getD_eq_getD_getElem?]at hm) fun W1 a hx hs'=>?_
 replace hs:=hs'
 clear hs'
 obtain ⟨B0,hB0⟩:=gM (W1.heap.size)
 rw[←hB0]at hs ⊢
 have hw0:G0≤W1.heap.size:=Nat.le_trans hX0 hx.size
 have hK1:Lies (W1.alloc (.cells #[.int .i64 1,.int .i64 2,.int .i64 3] 3)) (orP kp (fun B=>B=B0)):=by rw[hB0];exact (hK0.ext hx fun _ q=>q).made hw0
 have hV1:∀B,kp B→(W1.alloc (.cells #[.int .i64 1,.int .i64 2,.int .i64 3] 3)).heap[B]?=W.heap[B]?:=fun B q=>(heap_alloc_old _ _ (Nat.lt_of_lt_of_le (hK0.lt (q)) hx.size)).trans ((hx.keep B (q) (hK0.lt (q))).trans (hV0 B q))
 have c0:(W1.alloc (.cells #[.int .i64 1,.int .i64 2,.int .i64 3] 3)).heap[B0]?=some (.cells #[.int .i64 1,.int .i64 2,.int .i64 3] 3 (0,0)):=by rw[hB0];exact heap_alloc_new _ _
 have g0:G0≤B0:=by rw[hB0];exact hw0
 have hX1:G0≤(W1.alloc (.cells #[.int .i64 1,.int .i64 2,.int .i64 3] 3)).heap.size:=Nat.le_trans hw0 (by simp)
 generalize (W1.alloc (.cells #[.int .i64 1,.int .i64 2,.int .i64 3] 3))=X0 at hK1 hV1 hX1 c0 ⊢
 clear hB0 hw0 hx hH hK0 hV0 hX0
 have hH:Here X0 (orP kp (fun B=>B=B0)) (orP noP (fun B=>B=B0)):=⟨fun B q=>hK1.lt q,fun B q=>q.imp (fun q=>q.elim) id⟩
 refine path_slot_make hH hs (fun B=>.slice (some ⟨B,0,none⟩) 3 3) (.cells #[.int .i64 10,.int .i64 20,.int .i64 30] 3) rfl rfl (by decide) (fun _=>rfl) hke (fun a W' h hx=>by clear h;rw[hP];go_simp) (fun a W' h e he=>by have hm:=mem_listed he;clear h;rw[hP]at hm;simp[go_sem,Act.eval,-Array.getD_eq_getD_getElem?]at hm) fun W2 a hx hs'=>?_
 replace hs:=hs'
 clear hs'
 obtain ⟨B1,hB1⟩:=gM (W2.heap.size)
 rw[←hB1]at hs ⊢
 have hw1:G0≤W2.heap.size:=Nat.le_trans hX1 hx.size
 have hK2:Lies (W2.alloc (.cells #[.int .i64 10,.int .i64 20,.int .i64 30] 3)) (orP (orP kp (fun B=>B=B0)) (fun B=>B=B1)):=by rw[hB1];exact (hK1.ext hx fun _ q=>q).made hw1
 have hV2:∀B,kp B→(W2.alloc (.cells #[.int .i64 10,.int .i64 20,.int .i64 30] 3)).heap[B]?=W.heap[B]?:=fun B q=>(heap_alloc_old _ _ (Nat.lt_of_lt_of_le (hK1.lt (.inl (q))) hx.size)).trans ((hx.keep B (.inl (q)) (hK1.lt (.inl (q)))).trans (hV1 B q))
 have c0':(W2.alloc (.cells #[.int .i64 10,.int .i64 20,.int .i64 30] 3)).heap[B0]?=some (.cells #[.int .i64 1,.int .i64 2,.int .i64 3] 3 (0,0)):=(heap_alloc_old _ _ (Nat.lt_of_lt_of_le (lt_of_some c0) hx.size)).trans ((hx.keep B0 (.inr rfl) (lt_of_some c0)).trans c0)
 replace c0:=c0'
 clear c0'
 have c1:(W2.alloc (.cells #[.int .i64 10,.int .i64 20,.int .i64 30] 3)).heap[B1]?=some (.cells #[.int .i64 10,.int .i64 20,.int .i64 30] 3 (0,0)):=by rw[hB1];exact heap_alloc_new _ _
 have g1:G0≤B1:=by rw[hB1];exact hw1
 have hX2:G0≤(W2.alloc (.cells #[.int .i64 10,.int .i64 20,.int .i64 30] 3)).heap.size:=Nat.le_trans hw1 (by simp)
 generalize (W2.alloc (.cells #[.int .i64 10,.int .i64 20,.int .i64 30] 3))=X1 at hK2 hV2 hX2 c0 c1 ⊢
 clear hB1 hw1 hx hH hK1 hV1 hX1
 have hH:Here X1 (orP (orP kp (fun B=>B=B0)) (fun B=>B=B1)) (orP (orP noP (fun B=>B=B0)) (fun B=>B=B1)):=⟨fun B q=>hK2.lt q,fun B q=>(fun q=>q.imp (fun q=>q.imp (fun q=>q.elim) id) id) q⟩
 refine path_slot_make hH hs (fun B=>.slice (some ⟨B,0,none⟩) 2 2) (.cells #[.slice (some ⟨B0,0,none⟩) 3 3,.slice (some ⟨B1,0,none⟩) 3 3] 27) rfl rfl (by decide) (fun _=>rfl) hke (fun a W' h hx=>by have e0:a.tmps.getD 20 undef=.slice (some ⟨B0,0,none⟩) 3 3:=(h 20).trans (by simp[upF,slot0]);have q0:a.tmps[20]?.getD undef=.slice (some ⟨B0,0,none⟩) 3 3:=(by rw[←Array.getD_eq_getD_getElem?];exact e0);have e1:a.tmps.getD 21 undef=.slice (some ⟨B1,0,none⟩) 3 3:=(h 21).trans (by simp[upF,slot0]);have q1:a.tmps[21]?.getD undef=.slice (some ⟨B1,0,none⟩) 3 3:=(by rw[←Array.getD_eq_getD_getElem?];exact e1);clear h;rw[hP];go_simp) (fun a W' h e he=>by have hm:=mem_listed he;have e0:a.tmps.getD 20 undef=.slice (some ⟨B0,0,none⟩) 3 3:=(h 20).trans (by simp[upF,slot0]);have q0:a.tmps[20]?.getD undef=.slice (some ⟨B0,0,none⟩) 3 3:=(by rw[←Array.getD_eq_getD_getElem?];exact e0);have e1:a.tmps.getD 21 undef=.slice (some ⟨B1,0,none⟩) 3 3:=(h 21).trans (by simp[upF,slot0]);have q1:a.tmps[21]?.getD undef=.slice (some ⟨B1,0,none⟩) 3 3:=(by rw[←Array.getD_eq_getD_getElem?];exact e1);clear h;rw[hP]at hm;simp[go_sem,Act.eval,e0,e1,-Array.getD_eq_getD_getElem?]at hm) fun W3 a hx hs'=>?_
 replace hs:=hs'
 clear hs'
 obtain ⟨B2,hB2⟩:=gM (W3.heap.size)
 rw[←hB2]at hs ⊢
 have hw2:G0≤W3.heap.size:=Nat.le_trans hX2 hx.size
 have hK3:Lies (W3.alloc (.cells #[.slice (some ⟨B0,0,none⟩) 3 3,.slice (some ⟨B1,0,none⟩) 3 3] 27)) (orP (orP (orP kp (fun B=>B=B0)) (fun B=>B=B1)) (fun B=>B=B2)):=by rw[hB2];exact (hK2.ext hx fun _ q=>q).made hw2
 have hV3:∀B,kp B→(W3.alloc (.cells #[.slice (some ⟨B0,0,none⟩) 3 3,.slice (some ⟨B1,0,none⟩) 3 3] 27)).heap[B]?=W.heap[B]?:=fun B q=>(heap_alloc_old _ _ (Nat.lt_of_lt_of_le (hK2.lt (.inl (.inl (q)))) hx.size)).trans ((hx.keep B (.inl (.inl (q))) (hK2.lt (.inl (.inl (q))))).trans (hV2 B q))
 have c0':(W3.alloc (.cells #[.slice (some ⟨B0,0,none⟩) 3 3,.slice (some ⟨B1,0,none⟩) 3 3] 27)).heap[B0]?=some (.cells #[.int .i64 1,.int .i64 2,.int .i64 3] 3 (0,0)):=(heap_alloc_old _ _ (Nat.lt_of_lt_of_le (lt_of_some c0) hx.size)).trans ((hx.keep B0 (.inl (.inr rfl)) (lt_of_some c0)).trans c0)
 replace c0:=c0'
 clear c0'
 have c1':(W3.alloc (.cells #[.slice (some ⟨B0,0,none⟩) 3 3,.slice (some ⟨B1,0,none⟩) 3 3] 27)).heap[B1]?=some (.cells #[.int .i64 10,.int .i64 20,.int .i64 30] 3 (0,0)):=(heap_alloc_old _ _ (Nat.lt_of_lt_of_le (lt_of_some c1) hx.size)).trans ((hx.keep B1 (.inr rfl) (lt_of_some c1)).trans c1)
 replace c1:=c1'
 clear c1'
 have c2:(W3.alloc (.cells #[.slice (some ⟨B0,0,none⟩) 3 3,.slice (some ⟨B1,0,none⟩) 3 3] 27)).heap[B2]?=some (.cells #[.slice (some ⟨B0,0,none⟩) 3 3,.slice (some ⟨B1,0,none⟩) 3 3] 27 (0,0)):=by rw[hB2];exact heap_alloc_new _ _
 have g2:G0≤B2:=by rw[hB2];exact hw2
 have hX3:G0≤(W3.alloc (.cells #[.slice (some ⟨B0,0,none⟩) 3 3,.slice (some ⟨B1,0,none⟩) 3 3] 27)).heap.size:=Nat.le_trans hw2 (by simp)
 generalize (W3.alloc (.cells #[.slice (some ⟨B0,0,none⟩) 3 3,.slice (some ⟨B1,0,none⟩) 3 3] 27))=X2 at hK3 hV3 hX3 c0 c1 c2 ⊢
 clear hB2 hw2 hx hH hK2 hV2 hX2
 have hH:Here X2 (orP (orP (orP kp (fun B=>B=B0)) (fun B=>B=B1)) (fun B=>B=B2)) (orP (orP (orP noP (fun B=>B=B0)) (fun B=>B=B1)) (fun B=>B=B2)):=⟨fun B q=>hK3.lt q,fun B q=>(fun q=>q.imp (fun q=>q.imp (fun q=>q.imp (fun q=>q.elim) id) id) id) q⟩
 have e22:=(hs.at_ 22).trans (show _=.slice (some ⟨B2,0,none⟩) 2 2 by simp[upF])
 refine path_enter_to hH.knl (fun _ q=>q) (fun _ q=>q) hH.owk #[.slice (some ⟨B2,0,none⟩) 2 2] rfl rfl hke rfl (fn:=Try.f4) Try.func4 rfl rfl (by simp[Act.eval,e22,-Array.getD_eq_getD_getElem?]) ?_
 refine Path.up (N:=100) (by omega) ?_
 refine sum_path (k0:=(orP (orP (orP kp (fun B=>B=B0)) (fun B=>B=B1)) (fun B=>B=B2))) (parts_two (n:=3) (xs:=[1,2,3]) (ys:=[10,20,30]) c2 (Nat.le_refl _) c0 (Nat.le_refl _) c1 (Nat.le_refl _) rfl rfl (by omega) hX3 g2 g0 g1) (fun B q=>?_) hK3 (by omega) (by omega) (by omega) (fun i hi x hx=>?_) hH.knl hH.owk (fun _ q=>q) (nE:=nE+6) fun W2 Zb T SO=>?_
 ·rcases q with rfl|⟨i,hi,q⟩
  ·exact .inr rfl
  ·have h2:i=0∨i=1:=by omega
   rcases h2 with rfl|rfl
   ·cases q;exact .inl (.inl (.inr rfl))
   ·cases q;exact .inl (.inr rfl)
 ·have h2:i=0∨i=1:=by omega
  rcases h2 with rfl|rfl
  ·have hx:x∈[(1:Int),2,3]:=hx
   simp at hx
   omega
  ·have hx:x∈[(10:Int),20,30]:=hx
   simp at hx
   omega
 rw[show sumX 3 2 (fun i=>if i=0 then [(1:Int),2,3] else [10,20,30])=[11,22,33] by decide]at SO
 refine path_back (d:=23) (m:=149) rfl rfl (by decide) hs fun a hs'=>?_
 replace hs:=hs'
 clear hs' hH e22
 have hH:Here W2 (kS (orP (orP (orP kp (fun B=>B=B0)) (fun B=>B=B1)) (fun B=>B=B2)) 2 Zb T) (oS 2 Zb T):=⟨fun B q=>?_,fun B q=>.inr q⟩
 rotate_left
 ·rcases q with q|rfl|⟨i,hi,rfl⟩
  ·obtain ⟨_,_,_,_,-,h2,-⟩:=SO.still B q
   exact lt_of_some h2
  ·obtain ⟨_,-,h2⟩:=SO.row
   exact lt_of_some h2
  ·obtain ⟨_,-,h2⟩:=SO.ts i hi
   exact lt_of_some h2
 refine path_slot hH hs (.tuple #[.slice (some ⟨Zb,0,none⟩) 2 2,.nilIface]) rfl rfl (by decide) (fun _=>rfl) hke (fun a W' h=>by have e0:a.tmps.getD 23 undef=.tuple #[.slice (some ⟨Zb,0,none⟩) 2 2,.nilIface]:=(h 23).trans (by simp[upF,slot0]);have q0:a.tmps[23]?.getD undef=.tuple #[.slice (some ⟨Zb,0,none⟩) 2 2,.nilIface]:=(by rw[←Array.getD_eq_getD_getElem?];exact e0);clear h;rw[hP];go_simp<;>omega) (fun a W' h e he=>by have hm:=mem_listed he;have e0:a.tmps.getD 23 undef=.tuple #[.slice (some ⟨Zb,0,none⟩) 2 2,.nilIface]:=(h 23).trans (by simp[upF,slot0]);have q0:a.tmps[23]?.getD undef=.tuple #[.slice (some ⟨Zb,0,none⟩) 2 2,.nilIface]:=(by rw[←Array.getD_eq_getD_getElem?];exact e0);clear h;rw[hP]at hm;simp[go_sem,Act.eval,e0,-Array.getD_eq_getD_getElem?]at hm) fun a hs'=>?_
 replace hs:=hs'
 clear hs'
 refine path_slot hH hs (.slice (some ⟨Zb,0,none⟩) 2 2) rfl rfl (by decide) (fun _=>rfl) hke (fun a W' h=>by have e0:a.tmps.getD 19 undef=.tuple #[.slice (some ⟨Zb,0,none⟩) 2 2,.nilIface]:=(h 19).trans (by simp[upF,slot0]);have q0:a.tmps[19]?.getD undef=.tuple #[.slice (some ⟨Zb,0,none⟩) 2 2,.nilIface]:=(by rw[←Array.getD_eq_getD_getElem?];exact e0);clear h;rw[hP];go_simp<;>omega) (fun a W' h e he=>by have hm:=mem_listed he;have e0:a.tmps.getD 19 undef=.tuple #[.slice (some ⟨Zb,0,none⟩) 2 2,.nilIface]:=(h 19).trans (by simp[upF,slot0]);have q0:a.tmps[19]?.getD undef=.tuple #[.slice (some ⟨Zb,0,none⟩) 2 2,.nilIface]:=(by rw[←Array.getD_eq_getD_getElem?];exact e0);clear h;rw[hP]at hm;simp[go_sem,Act.eval,e0,-Array.getD_eq_getD_getElem?]at hm) fun a hs'=>?_
 replace hs:=hs'
 clear hs'
 refine path_slot hH hs (.nilIface) rfl rfl (by decide) (fun _=>rfl) hke (fun a W' h=>by have e0:a.tmps.getD 19 undef=.tuple #[.slice (some ⟨Zb,0,none⟩) 2 2,.nilIface]:=(h 19).trans (by simp[upF,slot0]);have q0:a.tmps[19]?.getD undef=.tuple #[.slice (some ⟨Zb,0,none⟩) 2 2,.nilIface]:=(by rw[←Array.getD_eq_getD_getElem?];exact e0);clear h;rw[hP];go_simp<;>omega) (fun a W' h e he=>by have hm:=mem_listed he;have e0:a.tmps.getD 19 undef=.tuple #[.slice (some ⟨Zb,0,none⟩) 2 2,.nilIface]:=(h 19).trans (by simp[upF,slot0]);have q0:a.tmps[19]?.getD undef=.tuple #[.slice (some ⟨Zb,0,none⟩) 2 2,.nilIface]:=(by rw[←Array.getD_eq_getD_getElem?];exact e0);clear h;rw[hP]at hm;simp[go_sem,Act.eval,e0,-Array.getD_eq_getD_getElem?]at hm) fun a hs'=>?_
 replace hs:=hs'
 clear hs'
 refine path_slot hH hs (.slice (some ⟨Zb,0,none⟩) 2 2) rfl rfl (by decide) (fun _=>rfl) hke (fun a W' h=>by have e0:a.tmps.getD 24 undef=.slice (some ⟨Zb,0,none⟩) 2 2:=(h 24).trans (by simp[upF,slot0]);have q0:a.tmps[24]?.getD undef=.slice (some ⟨Zb,0,none⟩) 2 2:=(by rw[←Array.getD_eq_getD_getElem?];exact e0);clear h;rw[hP];go_simp<;>omega) (fun a W' h e he=>by have hm:=mem_listed he;have e0:a.tmps.getD 24 undef=.slice (some ⟨Zb,0,none⟩) 2 2:=(h 24).trans (by simp[upF,slot0]);have q0:a.tmps[24]?.getD undef=.slice (some ⟨Zb,0,none⟩) 2 2:=(by rw[←Array.getD_eq_getD_getElem?];exact e0);clear h;rw[hP]at hm;simp[go_sem,Act.eval,e0,-Array.getD_eq_getD_getElem?]at hm) fun a hs'=>?_
 replace hs:=hs'
 clear hs'
 refine path_slot hH hs (.nilIface) rfl rfl (by decide) (fun _=>rfl) hke (fun a W' h=>by have e0:a.tmps.getD 25 undef=.nilIface:=(h 25).trans (by simp[upF,slot0]);have q0:a.tmps[25]?.getD undef=.nilIface:=(by rw[←Array.getD_eq_getD_getElem?];exact e0);clear h;rw[hP];go_simp<;>omega) (fun a W' h e he=>by have hm:=mem_listed he;have e0:a.tmps.getD 25 undef=.nilIface:=(h 25).trans (by simp[upF,slot0]);have q0:a.tmps[25]?.getD undef=.nilIface:=(by rw[←Array.getD_eq_getD_getElem?];exact e0);clear h;rw[hP]at hm;simp[go_sem,Act.eval,e0,-Array.getD_eq_getD_getElem?]at hm) fun a hs'=>?_
 replace hs:=hs'
 clear hs'
 refine path_region_end_less (kn1:=kS kp 2 Zb T) (ow1:=oS 2 Zb T) hH.knl (fun B q=>q.imp (fun q=>.inl (.inl (.inl q))) id) (fun B q=>q) (fun B q=>.inr q) ?_
 exact hend U W2 Zb T _ _ hU (SO.mono (fun B q=>.inl (.inl (.inl q))) hV3) hs (by simp[upF,slot0]) (by simp[upF]) (by simp[upF])
end Go.Proofs.Ytniloklglpchfai
/- A guarded operation that is wanted by what its slots hold. No program in sight. -/
namespace Go.Proofs.Ytniloklglpchfai
open Go Go.Conc
section
variable {E:Env} {Goal:Stand} {n:Nat} {b:Frame} {a:Act} {k:List Item} {cs:List Frame} {W:World} {kn ow:Nat→Prop} {m:Nat} {f:Nat→Value}
theorem path_slot_at(h:Here W kn ow)(hs:Slots a m f){ops:Array Oper}{i d:Nat}{rest:List Nat}{o:Oper}(v:Value)(ho:ops[i]?=some o)(hdst:o.dst=some d)(hd:d<m)(hw:∀a:Act,(∀k,a.tmps.getD k undef=f k)→Region.wanted o (yielded ops a.tmps)=true)(hk:b.kind≠.early)(hr:∀(a:Act) (W':World),(∀k,a.tmps.getD k undef=f k)→(execOp a.eval o).run E.P W'=.ok (.value v) W')(hl:∀(a:Act) (W':World),(∀k,a.tmps.getD k undef=f k)→∀e,e∈listed E.P b.fn a o W'→False)
  (hp:∀a',Slots a' m (upF f d v)→∃ρ,Path E Goal n ρ (G (b.at a' (.inRegion ops rest::k)) cs) W kn ow):∃ρ,Path E Goal (n+1) ρ (G (b.at a (.inRegion ops (i::rest)::k)) cs) W kn ow:=
 path_val h v ho (hw a hs.at_) hk (fun W'=>hr a W' hs.at_) (fun W' e he=>hl a W' hs.at_ e he) (by rw[hdst];exact hp _ (hs.put hd v))
theorem path_slot_read_at(h:Here W kn ow)(hs:Slots a m f){ops:Array Oper}{i d:Nat}{rest:List Nat}{o:Oper}{ad:Addr}{v:Value}(ha:kn ad.block)(hc:W.cell? ad=some v)(ho:ops[i]?=some o)(hdst:o.dst=some d)(hd:d<m)(hw:∀a:Act,(∀k,a.tmps.getD k undef=f k)→Region.wanted o (yielded ops a.tmps)=true)(hk:b.kind≠.early)(hr:∀(a:Act) (W':World),(∀k,a.tmps.getD k undef=f k)→W'.cell? ad=some v→(execOp a.eval o).run E.P W'=.ok (.value v) W')(hl:∀(a:Act) (W':World),(∀k,a.tmps.getD k undef=f k)→W'.cell? ad=some v→∀e,e∈listed E.P b.fn a o W'→e=⟨.cell ad,false,false⟩)
  (hp:∀a',Slots a' m (upF f d v)→∃ρ,Path E Goal n ρ (G (b.at a' (.inRegion ops rest::k)) cs) W kn ow):∃ρ,Path E Goal (n+1) ρ (G (b.at a (.inRegion ops (i::rest)::k)) cs) W kn ow:=
 path_read h ha hc ho (hw a hs.at_) hk (fun W'=>hr a W' hs.at_) (fun W' q e he=>hl a W' hs.at_ q e he) (by rw[hdst];exact hp _ (hs.put hd v))
end
end Go.Proofs.Ytniloklglpchfai
