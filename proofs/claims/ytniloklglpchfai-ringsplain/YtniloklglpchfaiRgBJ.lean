/- The law RingsPlain: its last comparisons. -/
import Derived.Test.YtniloklglpchfaiPkRgBH
namespace Go.Proofs.Ytniloklglpchfai
open Go Go.RowKit Go.Conc
theorem elR:(Try.prog).underlying 22=some (.slice ((Try.prog).elem 22)):=by kernel_rfl
def IsRe (c:Code):Prop:=c=List.foldl stepC ((Try.f3).body.getD .skip) [1,1,1,1,1,1,1,1,1,1,1,1,0]
def IsRf (c:Code):Prop:=c=List.foldl stepC ((Try.f3).body.getD .skip) [1,1,1,1,1,1,1,1,1,1,1,1,1]
structure RpT (W0 W:World) (kp K:Nat→Prop) (c n:Nat) (S:List Int) (Zb:Nat) (T:Nat→Nat) (tv wv:Value):Prop where
 g0:G0≤W.heap.size
 lies:Lies W K
 kpk:∀B,kp B→K B
 still:∀B,kp B→StillB W0 B W.heap[B]?
 row:∀i,i<c→W.cell? ⟨Zb,i,none⟩=some (.slice (some ⟨T i,0,none⟩) n n)
 kz:K Zb
 kt:∀i,i<c→K (T i)
 ts:∀i,i<c→I_ W (.slice (some ⟨T i,0,none⟩) n n) S
 ti:I_ W tv S
 tk:KV K noP tv
 wi:I_ W wv S
 wk:KV K noP wv
theorem ints_still{W W':World}{K:Nat→Prop}{v:Value}{zs:List Int}(h:I_ W v zs)(hk:KV K noP v)(hS:∀B,K B→StillB W B W'.heap[B]?):I_ W' v zs:=by
 obtain ⟨a,cap,e,h1,h2,h3⟩:=h
 refine ⟨a,cap,e,h1,h2,h3.imp id ?_⟩
 rintro ⟨b,off,rfl,hc⟩
 refine ⟨b,off,rfl,fun j x hx=>still_cell (hS b ?_) (hc j x hx)⟩
 rw[e]at hk
 exact (hk _ rfl).1
theorem ints_alone{W w0:World}{K ow:Nat→Prop}{v:Value}{zs:List Int}(h:I_ W v zs)(h0:Alone W K ow noP w0):I_ w0 v zs:=by
 obtain ⟨a,cap,e,h1,h2,h3⟩:=h
 refine ⟨a,cap,e,h1,h2,h3.imp id ?_⟩
 rintro ⟨b,off,rfl,hc⟩
 exact ⟨b,off,rfl,fun j x hx=>h0.cell (hc j x hx) trivial⟩
theorem RpT.next{W0 W W':World}{kp K:Nat→Prop}{c n:Nat}{S:List Int}{Zb:Nat}{T:Nat→Nat}{tv wv:Value}(h:RpT W0 W kp K c n S Zb T tv wv)(hg:W.heap.size≤W'.heap.size)(hK:Lies W' K)(hS:∀B,K B→StillB W B W'.heap[B]?):RpT W0 W' kp K c n S Zb T tv wv:=
 ⟨Nat.le_trans h.g0 hg,hK,h.kpk,fun B hB=>(h.still B hB).trans (hS B (h.kpk B hB)),fun i hi=>still_cell (hS Zb h.kz) (h.row i hi),h.kz,h.kt,fun i hi=>ints_still (h.ts i hi) (fun x hx=>by cases hx;exact ⟨h.kt i hi,rfl⟩) hS,ints_still h.ti h.tk hS,h.tk,ints_still h.wi h.wk hS,h.wk⟩
theorem ints_true{w:World}{u v:Value}{S:List Int}{k0:Nat→Prop}(hu:I_ w u S)(hv:I_ w v S):Calls Try.prog 7 #[u,v] w fun e w'=>∃v,e=.returned v∧KV k0 noP v∧v=.bool true∧∃q,w'=w.drewN q:=by
 refine (ints_any u v S S w hu hv).mono ?_
 rintro e w' ⟨rfl,q,rfl⟩
 have hs:sameI S S=true:=by unfold sameI;simp
 rw[hs]
 exact ⟨_,rfl,trivial,rfl,q,rfl⟩
set_option linter.unusedSimpArgs false in
set_option linter.unusedVariables false in
set_option maxRecDepth 100000 in
set_option maxHeartbeats 8000000 in
theorem rp_last{W0 W:World}{kp K kn ow:Nat→Prop}{c n:Nat}{S:List Int}{Zb:Nat}{T:Nat→Nat}{tv wv:Value}(R:RpT W0 W kp K c n S Zb T tv wv)(hl:∀B,kn B→B<W.heap.size)(how:∀B,ow B→kn B)(hkn:∀B,K B→kn B){F:Code}(hF:IsRf F){a:Act}{f:Nat→Value}(hs:Slots a 149 f)(f11:f 11=tv)(f13:f 13=wv):
  ∃ρ,Path (mkE Try.prog rgF rgF) (FinT W0 kp) 12 ρ (G ((base 3).at a [.code F]) []) W kn ow:=by
 have hP:(mkE Try.prog rgF rgF).P=Try.prog:=rfl
 have hke:(base 3).kind≠.early:=by decide
 have hH:Here W kn ow:=⟨hl,how⟩
 unfold IsRf at hF
 simp only[Try.f3,Option.getD_some,List.foldl,stepC]at hF
 subst hF
 refine path_seq hH ?_
 refine path_region hH rfl ?_
 refine path_slot hH hs (tv) rfl rfl (by decide) (fun _=>rfl) hke (fun a W' h=>by have e0:a.tmps.getD 11 undef=tv:=(h 11).trans (by simp[upF,f11]);have q0:a.tmps[11]?.getD undef=tv:=(by rw[←Array.getD_eq_getD_getElem?];exact e0);clear h;rw[hP];go_simp<;>omega) (fun a W' h e he=>by have hm:=mem_listed he;have e0:a.tmps.getD 11 undef=tv:=(h 11).trans (by simp[upF,f11]);have q0:a.tmps[11]?.getD undef=tv:=(by rw[←Array.getD_eq_getD_getElem?];exact e0);clear h;rw[hP]at hm;simp[go_sem,Act.eval,e0,-Array.getD_eq_getD_getElem?]at hm) fun a hs'=>?_
 replace hs:=hs'
 clear hs'
 refine path_slot hH hs (wv) rfl rfl (by decide) (fun _=>rfl) hke (fun a W' h=>by have e0:a.tmps.getD 13 undef=wv:=(h 13).trans (by simp[upF,f13]);have q0:a.tmps[13]?.getD undef=wv:=(by rw[←Array.getD_eq_getD_getElem?];exact e0);clear h;rw[hP];go_simp<;>omega) (fun a W' h e he=>by have hm:=mem_listed he;have e0:a.tmps.getD 13 undef=wv:=(h 13).trans (by simp[upF,f13]);have q0:a.tmps[13]?.getD undef=wv:=(by rw[←Array.getD_eq_getD_getElem?];exact e0);clear h;rw[hP]at hm;simp[go_sem,Act.eval,e0,-Array.getD_eq_getD_getElem?]at hm) fun a hs'=>?_
 replace hs:=hs'
 clear hs'
 refine path_quiet R.g0 R.lies hH.knl hkn hs #[tv,wv] rfl rfl (by decide) (fun _=>rfl) hke rfl (by decide) Try.func7 rfl rfl (fun a h=>?_) (fun v hv'=>?_) (Q:=fun v=>v=.bool true) (fun w0 h0=>?_) fun v W1 kn1 ow1 hQ hK1 hS1 hgr hkn1 how1 hl1 a hs'=>?_
 ·have e0:a.tmps.getD 146 undef=tv:=(h 146).trans (by simp[upF])
  have e1:a.tmps.getD 147 undef=wv:=(h 147).trans (by simp[upF])
  simp[Act.eval,e0,e1,-Array.getD_eq_getD_getElem?]
 ·simp only[List.mem_toArray,List.mem_cons,List.not_mem_nil,or_false]at hv'
  rcases hv' with rfl|rfl
  ·exact R.tk
  ·exact R.wk
 ·exact ints_true (ints_alone R.ti h0) (ints_alone R.wi h0)
 subst hQ
 replace hs:=hs'
 clear hs' hH
 have hH:Here W1 kn1 ow1:=⟨hl1,how1⟩
 refine path_slot hH hs (.bool true) rfl rfl (by decide) (fun _=>rfl) hke (fun a W' h=>by have e0:a.tmps.getD 148 undef=.bool true:=(h 148).trans (by simp[upF]);have q0:a.tmps[148]?.getD undef=.bool true:=(by rw[←Array.getD_eq_getD_getElem?];exact e0);clear h;rw[hP];go_simp<;>omega) (fun a W' h e he=>by have hm:=mem_listed he;have e0:a.tmps.getD 148 undef=.bool true:=(h 148).trans (by simp[upF]);have q0:a.tmps[148]?.getD undef=.bool true:=(by rw[←Array.getD_eq_getD_getElem?];exact e0);clear h;rw[hP]at hm;simp[go_sem,Act.eval,e0,-Array.getD_eq_getD_getElem?]at hm) fun a hs'=>?_
 replace hs:=hs'
 clear hs'
 refine path_region_end hH ?_
 refine Path.up (N:=1) (by omega) ?_
 exact path_true hH 3 Try.func3 rfl (by kernel_rfl) hs (by simp[upF]) (by decide) (fun B hB=>hkn1 B (R.kpk B hB)) (fun B hB=>(R.still B hB).trans (hS1 B (R.kpk B hB))) fun g W kn ow q=>q
def IsRb (c:Code):Prop:=c=List.foldl stepC ((Try.f3).body.getD .skip) [1,1,1,1,1,1,1,1,1,1,1,1,0,1,0,0]
set_option linter.unusedSimpArgs false in
set_option linter.unusedVariables false in
set_option maxRecDepth 100000 in
set_option maxHeartbeats 8000000 in
theorem rp_round{W0:World}{kp K:Nat→Prop}{c n:Nat}{S:List Int}{Zb:Nat}{T:Nat→Nat}{tv wv:Value}(hc6:c≤6){B F:Code}(hB:IsRb B)(hF:IsRf F):∀(m k:Nat),k+m=c→∀(W:World) (kn ow:Nat→Prop) (a:Act) (f:Nat→Value),RpT W0 W kp K c n S Zb T tv wv→(∀B,kn B→B<W.heap.size)→(∀B,ow B→kn B)→(∀B,K B→kn B)→Slots a 149 f→f 10=.slice (some ⟨Zb,0,none⟩) c c→f 11=tv→f 13=wv→f 17=.int .i64 (k:Int)→
  ∃ρ,Path (mkE Try.prog rgF rgF) (FinT W0 kp) (40*m+30) ρ (G ((base 3).at a [.code B,.inLoop B,.inBlock 8,.code F]) []) W kn ow:=by
 intro m
 induction m with
 |zero=>
  intro k hk W kn ow a f R hl how hkn hs f10 f11 f13 f17
  obtain rfl:k=c:=by omega
  have hP:(mkE Try.prog rgF rgF).P=Try.prog:=rfl
  have hke:(base 3).kind≠.early:=by decide
  have hH:Here W kn ow:=⟨hl,how⟩
  have hB':=hB
  unfold IsRb at hB'
  simp only[Try.f3,Option.getD_some,List.foldl,stepC]at hB'
  obtain ⟨B2,hB2⟩:=gM (B)
  rw[show ([.code B,.inLoop B,.inBlock 8,.code F]:List Item)=[.code B,.inLoop B2,.inBlock 8,.code F] by rw[hB2]]
  subst hB'
  obtain ⟨xk,hxk⟩:∃x:Int,x=(k:Int):=⟨_,rfl⟩
  rw[←hxk]at f17
  refine path_seq hH ?_
  refine path_seq hH ?_
  refine path_region hH rfl ?_
  refine path_slot hH hs (.int .i64 xk) rfl rfl (by decide) (fun _=>rfl) hke (fun a W' h=>by have e0:a.tmps.getD 17 undef=.int .i64 xk:=(h 17).trans (by simp[upF,f17]);have q0:a.tmps[17]?.getD undef=.int .i64 xk:=(by rw[←Array.getD_eq_getD_getElem?];exact e0);clear h;rw[hP];go_simp<;>omega) (fun a W' h e he=>by have hm:=mem_listed he;have e0:a.tmps.getD 17 undef=.int .i64 xk:=(h 17).trans (by simp[upF,f17]);have q0:a.tmps[17]?.getD undef=.int .i64 xk:=(by rw[←Array.getD_eq_getD_getElem?];exact e0);clear h;rw[hP]at hm;simp[go_sem,Act.eval,e0,-Array.getD_eq_getD_getElem?]at hm) fun a hs'=>?_
  replace hs:=hs'
  clear hs'
  refine path_slot hH hs (.slice (some ⟨Zb,0,none⟩) k k) rfl rfl (by decide) (fun _=>rfl) hke (fun a W' h=>by have e0:a.tmps.getD 10 undef=.slice (some ⟨Zb,0,none⟩) k k:=(h 10).trans (by simp[upF,f10]);have q0:a.tmps[10]?.getD undef=.slice (some ⟨Zb,0,none⟩) k k:=(by rw[←Array.getD_eq_getD_getElem?];exact e0);clear h;rw[hP];go_simp<;>omega) (fun a W' h e he=>by have hm:=mem_listed he;have e0:a.tmps.getD 10 undef=.slice (some ⟨Zb,0,none⟩) k k:=(h 10).trans (by simp[upF,f10]);have q0:a.tmps[10]?.getD undef=.slice (some ⟨Zb,0,none⟩) k k:=(by rw[←Array.getD_eq_getD_getElem?];exact e0);clear h;rw[hP]at hm;simp[go_sem,Act.eval,e0,-Array.getD_eq_getD_getElem?]at hm) fun a hs'=>?_
  replace hs:=hs'
  clear hs'
  refine path_slot hH hs (.int .i64 (k:Int)) rfl rfl (by decide) (fun _=>rfl) hke (fun a W' h=>by have e0:a.tmps.getD 133 undef=.slice (some ⟨Zb,0,none⟩) k k:=(h 133).trans (by simp[upF]);have q0:a.tmps[133]?.getD undef=.slice (some ⟨Zb,0,none⟩) k k:=(by rw[←Array.getD_eq_getD_getElem?];exact e0);clear h;rw[hP];go_simp<;>omega) (fun a W' h e he=>by have hm:=mem_listed he;have e0:a.tmps.getD 133 undef=.slice (some ⟨Zb,0,none⟩) k k:=(h 133).trans (by simp[upF]);have q0:a.tmps[133]?.getD undef=.slice (some ⟨Zb,0,none⟩) k k:=(by rw[←Array.getD_eq_getD_getElem?];exact e0);clear h;rw[hP]at hm;simp[go_sem,Act.eval,e0,-Array.getD_eq_getD_getElem?]at hm) fun a hs'=>?_
  replace hs:=hs'
  clear hs'
  refine path_slot hH hs (.bool false) rfl rfl (by decide) (fun _=>rfl) hke (fun a W' h=>by have e0:a.tmps.getD 132 undef=.int .i64 xk:=(h 132).trans (by simp[upF]);have q0:a.tmps[132]?.getD undef=.int .i64 xk:=(by rw[←Array.getD_eq_getD_getElem?];exact e0);have e1:a.tmps.getD 134 undef=.int .i64 (k:Int):=(h 134).trans (by simp[upF]);have q1:a.tmps[134]?.getD undef=.int .i64 (k:Int):=(by rw[←Array.getD_eq_getD_getElem?];exact e1);clear h;rw[hP];go_simp<;>omega) (fun a W' h e he=>by have hm:=mem_listed he;have e0:a.tmps.getD 132 undef=.int .i64 xk:=(h 132).trans (by simp[upF]);have q0:a.tmps[132]?.getD undef=.int .i64 xk:=(by rw[←Array.getD_eq_getD_getElem?];exact e0);have e1:a.tmps.getD 134 undef=.int .i64 (k:Int):=(h 134).trans (by simp[upF]);have q1:a.tmps[134]?.getD undef=.int .i64 (k:Int):=(by rw[←Array.getD_eq_getD_getElem?];exact e1);clear h;rw[hP]at hm;simp[go_sem,Act.eval,e0,e1,-Array.getD_eq_getD_getElem?]at hm) fun a hs'=>?_
  replace hs:=hs'
  clear hs'
  refine path_region_end hH ?_
  refine path_cond hH (t:=false) ((hs.at_ 135).trans (by simp[upF])) ?_
  refine path_exit hH (k':=[.code F]) rfl ?_
  refine Path.up (N:=12) (by omega) ?_
  exact rp_last R hl how hkn hF hs (by simp[upF,f11]) (by simp[upF,f13])
 |succ m ih=>
  intro k hk W kn ow a f R hl how hkn hs f10 f11 f13 f17
  have hP:(mkE Try.prog rgF rgF).P=Try.prog:=rfl
  have hke:(base 3).kind≠.early:=by decide
  have hH:Here W kn ow:=⟨hl,how⟩
  have hB':=hB
  unfold IsRb at hB'
  simp only[Try.f3,Option.getD_some,List.foldl,stepC]at hB'
  obtain ⟨B2,hB2⟩:=gM (B)
  rw[show ([.code B,.inLoop B,.inBlock 8,.code F]:List Item)=[.code B,.inLoop B2,.inBlock 8,.code F] by rw[hB2]]
  subst hB'
  obtain ⟨xk,hxk⟩:∃x:Int,x=(k:Int):=⟨_,rfl⟩
  rw[←hxk]at f17
  have hkc:k<c:=by omega
  have hxc:xk<(c:Int):=by omega
  have hx0:0≤xk:=by omega
  have hxt:xk.toNat=k:=by omega
  refine Path.up (N:=40*m+30+37) (by omega) ?_
  refine path_seq hH ?_
  refine path_seq hH ?_
  refine path_region hH rfl ?_
  refine path_slot hH hs (.int .i64 xk) rfl rfl (by decide) (fun _=>rfl) hke (fun a W' h=>by have e0:a.tmps.getD 17 undef=.int .i64 xk:=(h 17).trans (by simp[upF,f17]);have q0:a.tmps[17]?.getD undef=.int .i64 xk:=(by rw[←Array.getD_eq_getD_getElem?];exact e0);clear h;rw[hP];go_simp<;>omega) (fun a W' h e he=>by have hm:=mem_listed he;have e0:a.tmps.getD 17 undef=.int .i64 xk:=(h 17).trans (by simp[upF,f17]);have q0:a.tmps[17]?.getD undef=.int .i64 xk:=(by rw[←Array.getD_eq_getD_getElem?];exact e0);clear h;rw[hP]at hm;simp[go_sem,Act.eval,e0,-Array.getD_eq_getD_getElem?]at hm) fun a hs'=>?_
  replace hs:=hs'
  clear hs'
  refine path_slot hH hs (.slice (some ⟨Zb,0,none⟩) c c) rfl rfl (by decide) (fun _=>rfl) hke (fun a W' h=>by have e0:a.tmps.getD 10 undef=.slice (some ⟨Zb,0,none⟩) c c:=(h 10).trans (by simp[upF,f10]);have q0:a.tmps[10]?.getD undef=.slice (some ⟨Zb,0,none⟩) c c:=(by rw[←Array.getD_eq_getD_getElem?];exact e0);clear h;rw[hP];go_simp<;>omega) (fun a W' h e he=>by have hm:=mem_listed he;have e0:a.tmps.getD 10 undef=.slice (some ⟨Zb,0,none⟩) c c:=(h 10).trans (by simp[upF,f10]);have q0:a.tmps[10]?.getD undef=.slice (some ⟨Zb,0,none⟩) c c:=(by rw[←Array.getD_eq_getD_getElem?];exact e0);clear h;rw[hP]at hm;simp[go_sem,Act.eval,e0,-Array.getD_eq_getD_getElem?]at hm) fun a hs'=>?_
  replace hs:=hs'
  clear hs'
  refine path_slot hH hs (.int .i64 (c:Int)) rfl rfl (by decide) (fun _=>rfl) hke (fun a W' h=>by have e0:a.tmps.getD 133 undef=.slice (some ⟨Zb,0,none⟩) c c:=(h 133).trans (by simp[upF]);have q0:a.tmps[133]?.getD undef=.slice (some ⟨Zb,0,none⟩) c c:=(by rw[←Array.getD_eq_getD_getElem?];exact e0);clear h;rw[hP];go_simp<;>omega) (fun a W' h e he=>by have hm:=mem_listed he;have e0:a.tmps.getD 133 undef=.slice (some ⟨Zb,0,none⟩) c c:=(h 133).trans (by simp[upF]);have q0:a.tmps[133]?.getD undef=.slice (some ⟨Zb,0,none⟩) c c:=(by rw[←Array.getD_eq_getD_getElem?];exact e0);clear h;rw[hP]at hm;simp[go_sem,Act.eval,e0,-Array.getD_eq_getD_getElem?]at hm) fun a hs'=>?_
  replace hs:=hs'
  clear hs'
  refine path_slot hH hs (.bool true) rfl rfl (by decide) (fun _=>rfl) hke (fun a W' h=>by have e0:a.tmps.getD 132 undef=.int .i64 xk:=(h 132).trans (by simp[upF]);have q0:a.tmps[132]?.getD undef=.int .i64 xk:=(by rw[←Array.getD_eq_getD_getElem?];exact e0);have e1:a.tmps.getD 134 undef=.int .i64 (c:Int):=(h 134).trans (by simp[upF]);have q1:a.tmps[134]?.getD undef=.int .i64 (c:Int):=(by rw[←Array.getD_eq_getD_getElem?];exact e1);clear h;rw[hP];go_simp<;>omega) (fun a W' h e he=>by have hm:=mem_listed he;have e0:a.tmps.getD 132 undef=.int .i64 xk:=(h 132).trans (by simp[upF]);have q0:a.tmps[132]?.getD undef=.int .i64 xk:=(by rw[←Array.getD_eq_getD_getElem?];exact e0);have e1:a.tmps.getD 134 undef=.int .i64 (c:Int):=(h 134).trans (by simp[upF]);have q1:a.tmps[134]?.getD undef=.int .i64 (c:Int):=(by rw[←Array.getD_eq_getD_getElem?];exact e1);clear h;rw[hP]at hm;simp[go_sem,Act.eval,e0,e1,-Array.getD_eq_getD_getElem?]at hm) fun a hs'=>?_
  replace hs:=hs'
  clear hs'
  refine path_region_end hH ?_
  refine path_cond hH (t:=true) ((hs.at_ 135).trans (by simp[upF])) ?_
  refine path_skip hH ?_
  refine path_seq hH ?_
  refine path_block hH ?_
  refine path_seq hH ?_
  refine path_region hH rfl ?_
  refine path_slot hH hs (.slice (some ⟨Zb,0,none⟩) c c) rfl rfl (by decide) (fun _=>rfl) hke (fun a W' h=>by have e0:a.tmps.getD 10 undef=.slice (some ⟨Zb,0,none⟩) c c:=(h 10).trans (by simp[upF,f10]);have q0:a.tmps[10]?.getD undef=.slice (some ⟨Zb,0,none⟩) c c:=(by rw[←Array.getD_eq_getD_getElem?];exact e0);clear h;rw[hP];go_simp<;>omega) (fun a W' h e he=>by have hm:=mem_listed he;have e0:a.tmps.getD 10 undef=.slice (some ⟨Zb,0,none⟩) c c:=(h 10).trans (by simp[upF,f10]);have q0:a.tmps[10]?.getD undef=.slice (some ⟨Zb,0,none⟩) c c:=(by rw[←Array.getD_eq_getD_getElem?];exact e0);clear h;rw[hP]at hm;simp[go_sem,Act.eval,e0,-Array.getD_eq_getD_getElem?]at hm) fun a hs'=>?_
  replace hs:=hs'
  clear hs'
  refine path_slot hH hs (.int .i64 xk) rfl rfl (by decide) (fun _=>rfl) hke (fun a W' h=>by have e0:a.tmps.getD 17 undef=.int .i64 xk:=(h 17).trans (by simp[upF,f17]);have q0:a.tmps[17]?.getD undef=.int .i64 xk:=(by rw[←Array.getD_eq_getD_getElem?];exact e0);clear h;rw[hP];go_simp<;>omega) (fun a W' h e he=>by have hm:=mem_listed he;have e0:a.tmps.getD 17 undef=.int .i64 xk:=(h 17).trans (by simp[upF,f17]);have q0:a.tmps[17]?.getD undef=.int .i64 xk:=(by rw[←Array.getD_eq_getD_getElem?];exact e0);clear h;rw[hP]at hm;simp[go_sem,Act.eval,e0,-Array.getD_eq_getD_getElem?]at hm) fun a hs'=>?_
  replace hs:=hs'
  clear hs'
  refine path_slot hH hs (.pointer (some ⟨Zb,k,none⟩)) rfl rfl (by decide) (fun _=>rfl) hke (fun a W' h=>by have e0:a.tmps.getD 138 undef=.slice (some ⟨Zb,0,none⟩) c c:=(h 138).trans (by simp[upF]);have q0:a.tmps[138]?.getD undef=.slice (some ⟨Zb,0,none⟩) c c:=(by rw[←Array.getD_eq_getD_getElem?];exact e0);have e1:a.tmps.getD 139 undef=.int .i64 xk:=(h 139).trans (by simp[upF]);have q1:a.tmps[139]?.getD undef=.int .i64 xk:=(by rw[←Array.getD_eq_getD_getElem?];exact e1);clear h;rw[hP];go_simp<;>omega) (fun a W' h e he=>by have hm:=mem_listed he;have e0:a.tmps.getD 138 undef=.slice (some ⟨Zb,0,none⟩) c c:=(h 138).trans (by simp[upF]);have q0:a.tmps[138]?.getD undef=.slice (some ⟨Zb,0,none⟩) c c:=(by rw[←Array.getD_eq_getD_getElem?];exact e0);have e1:a.tmps.getD 139 undef=.int .i64 xk:=(h 139).trans (by simp[upF]);have q1:a.tmps[139]?.getD undef=.int .i64 xk:=(by rw[←Array.getD_eq_getD_getElem?];exact e1);clear h;rw[hP]at hm;simp[go_sem,Act.eval,e0,e1,-Array.getD_eq_getD_getElem?]at hm;rw[events_indexAt_slice _ _ _ _ _ _ elR ⟨by omega,by omega⟩]at hm;simp at hm) fun a hs'=>?_
  replace hs:=hs'
  clear hs'
  refine path_slot_read hH hs (ad:=⟨Zb,k,none⟩) (hkn _ R.kz) (R.row k hkc) rfl rfl (by decide) (fun _=>rfl) hke (fun a W' h hc=>by have e0:a.tmps.getD 140 undef=.pointer (some ⟨Zb,k,none⟩):=(h 140).trans (by simp[upF]);have q0:a.tmps[140]?.getD undef=.pointer (some ⟨Zb,k,none⟩):=(by rw[←Array.getD_eq_getD_getElem?];exact e0);clear h;rw[hP];go_simp) (fun a W' h hc e he=>by have hm:=mem_listed he;have e0:a.tmps.getD 140 undef=.pointer (some ⟨Zb,k,none⟩):=(h 140).trans (by simp[upF]);have q0:a.tmps[140]?.getD undef=.pointer (some ⟨Zb,k,none⟩):=(by rw[←Array.getD_eq_getD_getElem?];exact e0);clear h;rw[hP]at hm;simp[go_sem,Act.eval,e0,hc,-Array.getD_eq_getD_getElem?]at hm;exact hm) fun a hs'=>?_
  replace hs:=hs'
  clear hs'
  refine path_slot hH hs (wv) rfl rfl (by decide) (fun _=>rfl) hke (fun a W' h=>by have e0:a.tmps.getD 13 undef=wv:=(h 13).trans (by simp[upF,f13]);have q0:a.tmps[13]?.getD undef=wv:=(by rw[←Array.getD_eq_getD_getElem?];exact e0);clear h;rw[hP];go_simp<;>omega) (fun a W' h e he=>by have hm:=mem_listed he;have e0:a.tmps.getD 13 undef=wv:=(h 13).trans (by simp[upF,f13]);have q0:a.tmps[13]?.getD undef=wv:=(by rw[←Array.getD_eq_getD_getElem?];exact e0);clear h;rw[hP]at hm;simp[go_sem,Act.eval,e0,-Array.getD_eq_getD_getElem?]at hm) fun a hs'=>?_
  replace hs:=hs'
  clear hs'
  refine path_quiet R.g0 R.lies hH.knl hkn hs #[.slice (some ⟨T k,0,none⟩) n n,wv] rfl rfl (by decide) (fun _=>rfl) hke rfl (by decide) Try.func7 rfl rfl (fun a h=>?_) (fun v hv'=>?_) (Q:=fun v=>v=.bool true) (fun w0 h0=>?_) fun v W1 kn1 ow1 hQ hK1 hS1 hgr hkn1 how1 hl1 a hs'=>?_
  ·have e0:a.tmps.getD 141 undef=.slice (some ⟨T k,0,none⟩) n n:=(h 141).trans (by simp[upF])
   have e1:a.tmps.getD 142 undef=wv:=(h 142).trans (by simp[upF])
   simp[Act.eval,e0,e1,-Array.getD_eq_getD_getElem?]
  ·simp only[List.mem_toArray,List.mem_cons,List.not_mem_nil,or_false]at hv'
   rcases hv' with rfl|rfl
   ·exact fun x hx=>by cases hx;exact ⟨R.kt k hkc,rfl⟩
   ·exact R.wk
  ·exact ints_true (ints_alone (R.ts k hkc) h0) (ints_alone R.wi h0)
  subst hQ
  replace hs:=hs'
  clear hs' hH
  have hH:Here W1 kn1 ow1:=⟨hl1,how1⟩
  refine path_slot hH hs (.bool true) rfl rfl (by decide) (fun _=>rfl) hke (fun a W' h=>by have e0:a.tmps.getD 143 undef=.bool true:=(h 143).trans (by simp[upF]);have q0:a.tmps[143]?.getD undef=.bool true:=(by rw[←Array.getD_eq_getD_getElem?];exact e0);clear h;rw[hP];go_simp<;>omega) (fun a W' h e he=>by have hm:=mem_listed he;have e0:a.tmps.getD 143 undef=.bool true:=(h 143).trans (by simp[upF]);have q0:a.tmps[143]?.getD undef=.bool true:=(by rw[←Array.getD_eq_getD_getElem?];exact e0);clear h;rw[hP]at hm;simp[go_sem,Act.eval,e0,-Array.getD_eq_getD_getElem?]at hm) fun a hs'=>?_
  replace hs:=hs'
  clear hs'
  refine path_region_end hH ?_
  refine path_seq hH ?_
  refine path_region hH rfl ?_
  refine path_slot hH hs (.bool true) rfl rfl (by decide) (fun _=>rfl) hke (fun a W' h=>by have e0:a.tmps.getD 18 undef=.bool true:=(h 18).trans (by simp[upF]);have q0:a.tmps[18]?.getD undef=.bool true:=(by rw[←Array.getD_eq_getD_getElem?];exact e0);clear h;rw[hP];go_simp<;>omega) (fun a W' h e he=>by have hm:=mem_listed he;have e0:a.tmps.getD 18 undef=.bool true:=(h 18).trans (by simp[upF]);have q0:a.tmps[18]?.getD undef=.bool true:=(by rw[←Array.getD_eq_getD_getElem?];exact e0);clear h;rw[hP]at hm;simp[go_sem,Act.eval,e0,-Array.getD_eq_getD_getElem?]at hm) fun a hs'=>?_
  replace hs:=hs'
  clear hs'
  refine path_slot hH hs (.bool false) rfl rfl (by decide) (fun _=>rfl) hke (fun a W' h=>by have e0:a.tmps.getD 144 undef=.bool true:=(h 144).trans (by simp[upF]);have q0:a.tmps[144]?.getD undef=.bool true:=(by rw[←Array.getD_eq_getD_getElem?];exact e0);clear h;rw[hP];go_simp<;>(first|omega|rfl|(simp;done))) (fun a W' h e he=>by have hm:=mem_listed he;have e0:a.tmps.getD 144 undef=.bool true:=(h 144).trans (by simp[upF]);have q0:a.tmps[144]?.getD undef=.bool true:=(by rw[←Array.getD_eq_getD_getElem?];exact e0);clear h;rw[hP]at hm;simp[go_sem,Act.eval,e0,-Array.getD_eq_getD_getElem?]at hm) fun a hs'=>?_
  replace hs:=hs'
  clear hs'
  refine path_region_end hH ?_
  refine path_cond hH (t:=false) ((hs.at_ 145).trans (by simp[upF])) ?_
  refine path_skip hH ?_
  refine path_inBlock hH ?_
  refine path_region hH rfl ?_
  refine path_slot hH hs (.int .i64 xk) rfl rfl (by decide) (fun _=>rfl) hke (fun a W' h=>by have e0:a.tmps.getD 17 undef=.int .i64 xk:=(h 17).trans (by simp[upF,f17]);have q0:a.tmps[17]?.getD undef=.int .i64 xk:=(by rw[←Array.getD_eq_getD_getElem?];exact e0);clear h;rw[hP];go_simp<;>omega) (fun a W' h e he=>by have hm:=mem_listed he;have e0:a.tmps.getD 17 undef=.int .i64 xk:=(h 17).trans (by simp[upF,f17]);have q0:a.tmps[17]?.getD undef=.int .i64 xk:=(by rw[←Array.getD_eq_getD_getElem?];exact e0);clear h;rw[hP]at hm;simp[go_sem,Act.eval,e0,-Array.getD_eq_getD_getElem?]at hm) fun a hs'=>?_
  replace hs:=hs'
  clear hs'
  refine path_slot hH hs (.int .i64 (xk+1)) rfl rfl (by decide) (fun _=>rfl) hke (fun a W' h=>by have e0:a.tmps.getD 136 undef=.int .i64 xk:=(h 136).trans (by simp[upF]);have q0:a.tmps[136]?.getD undef=.int .i64 xk:=(by rw[←Array.getD_eq_getD_getElem?];exact e0);clear h;rw[hP];go_simp<;>(first|omega|(unfold wrap64;omega)|(rw[IntKind.wrap_i64];omega)|go_num)) (fun a W' h e he=>by have hm:=mem_listed he;have e0:a.tmps.getD 136 undef=.int .i64 xk:=(h 136).trans (by simp[upF]);have q0:a.tmps[136]?.getD undef=.int .i64 xk:=(by rw[←Array.getD_eq_getD_getElem?];exact e0);clear h;rw[hP]at hm;simp[go_sem,Act.eval,e0,-Array.getD_eq_getD_getElem?]at hm) fun a hs'=>?_
  replace hs:=hs'
  clear hs'
  refine path_slot hH hs (.int .i64 (xk+1)) rfl rfl (by decide) (fun _=>rfl) hke (fun a W' h=>by have e0:a.tmps.getD 137 undef=.int .i64 (xk+1):=(h 137).trans (by simp[upF]);have q0:a.tmps[137]?.getD undef=.int .i64 (xk+1):=(by rw[←Array.getD_eq_getD_getElem?];exact e0);clear h;rw[hP];go_simp<;>omega) (fun a W' h e he=>by have hm:=mem_listed he;have e0:a.tmps.getD 137 undef=.int .i64 (xk+1):=(h 137).trans (by simp[upF]);have q0:a.tmps[137]?.getD undef=.int .i64 (xk+1):=(by rw[←Array.getD_eq_getD_getElem?];exact e0);clear h;rw[hP]at hm;simp[go_sem,Act.eval,e0,-Array.getD_eq_getD_getElem?]at hm) fun a hs'=>?_
  replace hs:=hs'
  clear hs'
  refine path_region_end hH ?_
  refine path_inLoop hH ?_
  refine Path.up (N:=40*m+30) (by omega) ?_
  rw[hB2]
  exact ih (k+1) (by omega) W1 kn1 ow1 _ _ (R.next hgr hK1 hS1) hl1 how1 hkn1 hs (by simp[upF,f10]) (by simp[upF,f11]) (by simp[upF,f13]) (by simp[upF,hxk])
set_option linter.unusedSimpArgs false in
set_option linter.unusedVariables false in
set_option maxRecDepth 100000 in
set_option maxHeartbeats 8000000 in
theorem rp_loop{W0 W:World}{kp K kn ow:Nat→Prop}{c n:Nat}{S:List Int}{Zb:Nat}{T:Nat→Nat}{tv wv:Value}(hc6:c≤6)(R:RpT W0 W kp K c n S Zb T tv wv)(hl:∀B,kn B→B<W.heap.size)(how:∀B,ow B→kn B)(hkn:∀B,K B→kn B){E F:Code}(hE:IsRe E)(hF:IsRf F){a:Act}{f:Nat→Value}(hs:Slots a 149 f)(f10:f 10=.slice (some ⟨Zb,0,none⟩) c c)(f11:f 11=tv)(f13:f 13=wv):
  ∃ρ,Path (mkE Try.prog rgF rgF) (FinT W0 kp) 290 ρ (G ((base 3).at a [.code E,.code F]) []) W kn ow:=by
 have hP:(mkE Try.prog rgF rgF).P=Try.prog:=rfl
 have hke:(base 3).kind≠.early:=by decide
 have hH:Here W kn ow:=⟨hl,how⟩
 obtain ⟨B,hB⟩:∃B,IsRb B:=⟨_,rfl⟩
 have hB':=hB
 unfold IsRe at hE
 unfold IsRb at hB'
 simp only[Try.f3,Option.getD_some,List.foldl,stepC]at hE hB'
 subst hE
 refine Path.up (N:=40*c+30+6) (by omega) ?_
 refine path_seq hH ?_
 refine path_region hH rfl ?_
 refine path_slot hH hs (.int .i64 0) rfl rfl (by decide) (fun _=>rfl) hke (fun a W' h=>by clear h;rw[hP];go_simp<;>omega) (fun a W' h e he=>by have hm:=mem_listed he;clear h;rw[hP]at hm;simp[go_sem,Act.eval,-Array.getD_eq_getD_getElem?]at hm) fun a hs'=>?_
 replace hs:=hs'
 clear hs'
 refine path_region_end hH ?_
 refine path_block hH ?_
 refine path_loop hH ?_
 rw[←hB']
 refine Path.up (N:=40*c+30) (by omega) ?_
 exact rp_round hc6 hB hF c 0 (by omega) W kn ow _ _ R hl how hkn hs (by simp[upF,f10]) (by simp[upF,f11]) (by simp[upF,f13]) (by simp[upF])
end Go.Proofs.Ytniloklglpchfai
