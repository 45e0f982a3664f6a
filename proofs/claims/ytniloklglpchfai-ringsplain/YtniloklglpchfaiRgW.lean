/- A ring's worker: its whole way. -/
import Derived.Test.YtniloklglpchfaiPkRgL
namespace Go.Proofs.Ytniloklglpchfai
open Go Go.RowKit Go.Conc
set_option linter.unusedSimpArgs false in
set_option linter.unusedVariables false in
set_option maxRecDepth 100000 in
set_option maxHeartbeats 8000000 in
theorem work_path{M:Msg}(hM:M.Fast){Fin:Stand}{x:Wkr}(hok:x.Ok){W:World}{ts:List Int}(Me:x.Mem W ts){X Y:Nat→List Int}(hX:∀k,(X k).length=stN x.n x.c (qN x.c x.i k+1) - stN x.n x.c (qN x.c x.i k))
  (hX0:pcL x.n x.c (qN x.c x.i 0) x.own=X 0) (hadd:∀k,k+1<x.c→List.zipWith ad (Y k) (pcL x.n x.c (qN x.c x.i (k+1)) x.own)=X (k+1)∧(Y k).length=(pcL x.n x.c (qN x.c x.i (k+1)) x.own).length) (hpass:∀k,x.c≤k+1→k<2*(x.c - 1)→Y k=X (k+1))
  (hsend:∀k W v L,k<2*(x.c - 1)→Lst W L v (X k)→M x.to k v W (lsB L) (lsB L)) (hrecv:∀k W v mb mo,k<2*(x.c - 1)→M x.fr k v W mb mo→∃L',mb=lsB L'∧mo=lsB L'∧Lst W L' v (Y k)) (c0:Frame) (cs:List Frame)
  (hp:∀W' L v,x.Mem W' (tsJ x.n x.c x.i X ts (x.c - 1))→Lst W' L v (X (2*(x.c - 1)))→x.Off L→∃ρ,Path (mkE Try.prog rgF rgF) Fin 60 ρ (G (c0.finish (.tuple #[])) cs) W' (x.kl L) (x.ol L)):
  ∃ρ,Path (mkE Try.prog rgF rgF) (Run (mkE Try.prog rgF rgF) M Fin (ringS x.to x.fr (2*(x.c - 1)) 0)) 400 ρ (G (Frame.enter Try.prog 17 #[.pointer (some ⟨x.S,0,none⟩)] .normal) (c0::cs)) W (x.kl none) (x.ol none):=by
 have hc1:=hok.c1
 have hc6:=hok.c6
 have hic:=hok.ic
 obtain ⟨L,hLn,hL⟩:∃L:Option Nat,L=none∧Lst W L (.slice none 0 0) []:=⟨_,rfl,lst_none W⟩
 rw[show x.kl none=x.kl L by rw[hLn],show x.ol none=x.ol L by rw[hLn]]
 have hH:=Me.hereL hL
 have M:=Me
 obtain ⟨K,hK⟩:=gM (x.c - 1)
 have hwK:IntKind.i64.wrap ((x.c:Int) - 1)=(K:Int):=by rw[IntKind.wrap_i64];omega
 refine path_begin (m:=73) Try.func17 rfl rfl (by simp) fun a hs=>?_
 have hP:(mkE Try.prog rgF rgF).P=Try.prog:=rfl
 have hke:(base 17).kind≠.early:=by decide
 refine path_seq hH ?_
 refine path_region hH rfl ?_
 refine path_slot hH hs (.pointer (some ⟨x.S,0,none⟩)) rfl rfl (by decide) (fun _=>rfl) hke (fun a W' h=>by have e0:a.tmps.getD 0 undef=.pointer (some ⟨x.S,0,none⟩):=(h 0).trans (by simp[upF,slot0]);clear h;rw[hP];go_simp<;>omega) (fun a W' h e he=>by have hm:=mem_listed he;have e0:a.tmps.getD 0 undef=.pointer (some ⟨x.S,0,none⟩):=(h 0).trans (by simp[upF,slot0]);clear h;rw[hP]at hm;simp[go_sem,Act.eval,e0,-Array.getD_eq_getD_getElem?]at hm) fun a hs'=>?_
 replace hs:=hs'
 clear hs'
 refine path_slot hH hs (.pointer (some ⟨x.S,0,none⟩)) rfl rfl (by decide) (fun _=>rfl) hke (fun a W' h=>by have e0:a.tmps.getD 0 undef=.pointer (some ⟨x.S,0,none⟩):=(h 0).trans (by simp[upF,slot0]);clear h;rw[hP];go_simp<;>omega) (fun a W' h e he=>by have hm:=mem_listed he;have e0:a.tmps.getD 0 undef=.pointer (some ⟨x.S,0,none⟩):=(h 0).trans (by simp[upF,slot0]);clear h;rw[hP]at hm;simp[go_sem,Act.eval,e0,-Array.getD_eq_getD_getElem?]at hm) fun a hs'=>?_
 replace hs:=hs'
 clear hs'
 refine path_slot hH hs (.pointer (some ⟨x.S,0,none⟩)) rfl rfl (by decide) (fun _=>rfl) hke (fun a W' h=>by have e0:a.tmps.getD 5 undef=.pointer (some ⟨x.S,0,none⟩):=(h 5).trans (by simp[upF,slot0]);clear h;rw[hP];go_simp<;>omega) (fun a W' h e he=>by have hm:=mem_listed he;have e0:a.tmps.getD 5 undef=.pointer (some ⟨x.S,0,none⟩):=(h 5).trans (by simp[upF,slot0]);clear h;rw[hP]at hm;simp[go_sem,Act.eval,e0,-Array.getD_eq_getD_getElem?]at hm) fun a hs'=>?_
 replace hs:=hs'
 clear hs'
 refine path_slot hH hs (.pointer (some ⟨x.S,0,none⟩)) rfl rfl (by decide) (fun _=>rfl) hke (fun a W' h=>by have e0:a.tmps.getD 6 undef=.pointer (some ⟨x.S,0,none⟩):=(h 6).trans (by simp[upF,slot0]);clear h;rw[hP];go_simp<;>omega) (fun a W' h e he=>by have hm:=mem_listed he;have e0:a.tmps.getD 6 undef=.pointer (some ⟨x.S,0,none⟩):=(h 6).trans (by simp[upF,slot0]);clear h;rw[hP]at hm;simp[go_sem,Act.eval,e0,-Array.getD_eq_getD_getElem?]at hm) fun a hs'=>?_
 replace hs:=hs'
 clear hs'
 refine path_slot_read hH hs (ad:=⟨x.S,0,none⟩) (.inl (.inl rfl)) (by rw[M.cs];rfl) rfl rfl (by decide) (fun _=>rfl) hke (fun a W' h hc=>by have e0:a.tmps.getD 7 undef=.pointer (some ⟨x.S,0,none⟩):=(h 7).trans (by simp[upF,slot0]);clear h;rw[hP];go_simp) (fun a W' h hc e he=>by have hm:=mem_listed he;have e0:a.tmps.getD 7 undef=.pointer (some ⟨x.S,0,none⟩):=(h 7).trans (by simp[upF,slot0]);clear h;rw[hP]at hm;simp[go_sem,Act.eval,e0,hc,-Array.getD_eq_getD_getElem?]at hm;exact hm) fun a hs'=>?_
 replace hs:=hs'
 clear hs'
 refine wk_ahead hok M hL (L:=L) hH.knl (fun _ q=>q) (fun _ q=>q) hs (y:=x.i) rfl rfl (by decide) (fun _=>rfl) hke rfl (by simp[upF,slot0]) (by simp[upF,slot0]) hic fun W kn2 ow2 hA a hs'=>?_
 obtain ⟨M,hL,hkl,hk2,ho2⟩:=hA
 have hH:=M.hereL hL
 replace hs:=hs'
 clear hs'
 rw[qN_zero hc1 hc6 hic]at hs
 refine path_slot_less hkl hk2 ho2 (x.olk L) hs (.int .i64 (qN x.c x.i 0:Nat)) rfl rfl (by decide) (fun _=>rfl) hke (fun a W' h=>by have e0:a.tmps.getD 9 undef=.int .i64 (qN x.c x.i 0:Nat):=(h 9).trans (by simp[upF,slot0]);clear h;rw[hP];go_simp<;>omega) (fun a W' h e he=>by have hm:=mem_listed he;have e0:a.tmps.getD 9 undef=.int .i64 (qN x.c x.i 0:Nat):=(h 9).trans (by simp[upF,slot0]);clear h;rw[hP]at hm;simp[go_sem,Act.eval,e0,-Array.getD_eq_getD_getElem?]at hm) fun a hs'=>?_
 replace hs:=hs'
 clear hs'
 refine path_region_end hH ?_
 refine path_seq hH ?_
 refine path_region hH rfl ?_
 refine path_slot hH hs (.pointer (some ⟨x.S,0,none⟩)) rfl rfl (by decide) (fun _=>rfl) hke (fun a W' h=>by have e0:a.tmps.getD 0 undef=.pointer (some ⟨x.S,0,none⟩):=(h 0).trans (by simp[upF,slot0]);clear h;rw[hP];go_simp<;>omega) (fun a W' h e he=>by have hm:=mem_listed he;have e0:a.tmps.getD 0 undef=.pointer (some ⟨x.S,0,none⟩):=(h 0).trans (by simp[upF,slot0]);clear h;rw[hP]at hm;simp[go_sem,Act.eval,e0,-Array.getD_eq_getD_getElem?]at hm) fun a hs'=>?_
 replace hs:=hs'
 clear hs'
 refine path_slot hH hs (.pointer (some ⟨x.S,0,none⟩)) rfl rfl (by decide) (fun _=>rfl) hke (fun a W' h=>by have e0:a.tmps.getD 0 undef=.pointer (some ⟨x.S,0,none⟩):=(h 0).trans (by simp[upF,slot0]);clear h;rw[hP];go_simp<;>omega) (fun a W' h e he=>by have hm:=mem_listed he;have e0:a.tmps.getD 0 undef=.pointer (some ⟨x.S,0,none⟩):=(h 0).trans (by simp[upF,slot0]);clear h;rw[hP]at hm;simp[go_sem,Act.eval,e0,-Array.getD_eq_getD_getElem?]at hm) fun a hs'=>?_
 replace hs:=hs'
 clear hs'
 refine path_slot hH hs (.pointer (some ⟨x.S,0,none⟩)) rfl rfl (by decide) (fun _=>rfl) hke (fun a W' h=>by have e0:a.tmps.getD 11 undef=.pointer (some ⟨x.S,0,none⟩):=(h 11).trans (by simp[upF,slot0]);clear h;rw[hP];go_simp<;>omega) (fun a W' h e he=>by have hm:=mem_listed he;have e0:a.tmps.getD 11 undef=.pointer (some ⟨x.S,0,none⟩):=(h 11).trans (by simp[upF,slot0]);clear h;rw[hP]at hm;simp[go_sem,Act.eval,e0,-Array.getD_eq_getD_getElem?]at hm) fun a hs'=>?_
 replace hs:=hs'
 clear hs'
 refine path_slot hH hs (.pointer (some ⟨x.S,2,none⟩)) rfl rfl (by decide) (fun _=>rfl) hke (fun a W' h=>by have e0:a.tmps.getD 12 undef=.pointer (some ⟨x.S,0,none⟩):=(h 12).trans (by simp[upF,slot0]);clear h;rw[hP];go_simp<;>omega) (fun a W' h e he=>by have hm:=mem_listed he;have e0:a.tmps.getD 12 undef=.pointer (some ⟨x.S,0,none⟩):=(h 12).trans (by simp[upF,slot0]);clear h;rw[hP]at hm;simp[go_sem,Act.eval,e0,-Array.getD_eq_getD_getElem?]at hm) fun a hs'=>?_
 replace hs:=hs'
 clear hs'
 refine path_slot_read hH hs (ad:=⟨x.S,2,none⟩) (.inl (.inl rfl)) (by rw[M.cs];rfl) rfl rfl (by decide) (fun _=>rfl) hke (fun a W' h hc=>by have e0:a.tmps.getD 13 undef=.pointer (some ⟨x.S,2,none⟩):=(h 13).trans (by simp[upF,slot0]);clear h;rw[hP];go_simp) (fun a W' h hc e he=>by have hm:=mem_listed he;have e0:a.tmps.getD 13 undef=.pointer (some ⟨x.S,2,none⟩):=(h 13).trans (by simp[upF,slot0]);clear h;rw[hP]at hm;simp[go_sem,Act.eval,e0,hc,-Array.getD_eq_getD_getElem?]at hm;exact hm) fun a hs'=>?_
 replace hs:=hs'
 clear hs'
 refine path_slot hH hs (.int .i64 (qN x.c x.i 0:Nat)) rfl rfl (by decide) (fun _=>rfl) hke (fun a W' h=>by have e0:a.tmps.getD 2 undef=.int .i64 (qN x.c x.i 0:Nat):=(h 2).trans (by simp[upF,slot0]);clear h;rw[hP];go_simp<;>omega) (fun a W' h e he=>by have hm:=mem_listed he;have e0:a.tmps.getD 2 undef=.int .i64 (qN x.c x.i 0:Nat):=(h 2).trans (by simp[upF,slot0]);clear h;rw[hP]at hm;simp[go_sem,Act.eval,e0,-Array.getD_eq_getD_getElem?]at hm) fun a hs'=>?_
 replace hs:=hs'
 clear hs'
 refine wk_pieceO hok M hL hH.knl (fun _ q=>q) (fun _ q=>q) hs (y:=qN x.c x.i 0) rfl rfl (by decide) (fun _=>rfl) hke rfl (by simp[upF,slot0]) (by simp[upF,slot0]) (by simp[upF,slot0]) (qN_lt hc1 _ _) fun W kn2 ow2 pv hA hpv a hs'=>?_
 obtain ⟨M,hL,hkl,hk2,ho2⟩:=hA
 have hH:=M.hereL hL
 replace hs:=hs'
 clear hs'
 refine wk_clone hok M hkl (fun B q=>hk2 B (.inl q)) (fun B q=>ho2 B (.inl q)) hs (y:=qN x.c x.i 0) rfl rfl (by decide) (fun _=>rfl) hke rfl (by simp[upF,slot0]) hpv (qN_lt hc1 _ _) fun W kn2 ow2 L v hA hoff a hs'=>?_
 obtain ⟨M,hL,hkl,hk2,ho2⟩:=hA
 have hH:=M.hereL hL
 replace hs:=hs'
 clear hs'
 rw[hX0]at hL
 refine path_slot_less hkl hk2 ho2 (x.olk L) hs (v) rfl rfl (by decide) (fun _=>rfl) hke (fun a W' h=>by have e0:a.tmps.getD 17 undef=v:=(h 17).trans (by simp[upF,slot0]);clear h;rw[hP];go_simp<;>omega) (fun a W' h e he=>by have hm:=mem_listed he;have e0:a.tmps.getD 17 undef=v:=(h 17).trans (by simp[upF,slot0]);clear h;rw[hP]at hm;simp[go_sem,Act.eval,e0,-Array.getD_eq_getD_getElem?]at hm) fun a hs'=>?_
 replace hs:=hs'
 clear hs'
 refine path_region_end hH ?_
 refine path_seq hH ?_
 refine path_seq hH ?_
 refine path_region hH rfl ?_
 refine path_slot hH hs (.pointer (some ⟨x.S,0,none⟩)) rfl rfl (by decide) (fun _=>rfl) hke (fun a W' h=>by have e0:a.tmps.getD 0 undef=.pointer (some ⟨x.S,0,none⟩):=(h 0).trans (by simp[upF,slot0]);clear h;rw[hP];go_simp<;>omega) (fun a W' h e he=>by have hm:=mem_listed he;have e0:a.tmps.getD 0 undef=.pointer (some ⟨x.S,0,none⟩):=(h 0).trans (by simp[upF,slot0]);clear h;rw[hP]at hm;simp[go_sem,Act.eval,e0,-Array.getD_eq_getD_getElem?]at hm) fun a hs'=>?_
 replace hs:=hs'
 clear hs'
 refine path_slot hH hs (.pointer (some ⟨x.S,0,none⟩)) rfl rfl (by decide) (fun _=>rfl) hke (fun a W' h=>by have e0:a.tmps.getD 18 undef=.pointer (some ⟨x.S,0,none⟩):=(h 18).trans (by simp[upF,slot0]);clear h;rw[hP];go_simp<;>omega) (fun a W' h e he=>by have hm:=mem_listed he;have e0:a.tmps.getD 18 undef=.pointer (some ⟨x.S,0,none⟩):=(h 18).trans (by simp[upF,slot0]);clear h;rw[hP]at hm;simp[go_sem,Act.eval,e0,-Array.getD_eq_getD_getElem?]at hm) fun a hs'=>?_
 replace hs:=hs'
 clear hs'
 refine path_slot hH hs (.pointer (some ⟨x.S,1,none⟩)) rfl rfl (by decide) (fun _=>rfl) hke (fun a W' h=>by have e0:a.tmps.getD 19 undef=.pointer (some ⟨x.S,0,none⟩):=(h 19).trans (by simp[upF,slot0]);clear h;rw[hP];go_simp<;>omega) (fun a W' h e he=>by have hm:=mem_listed he;have e0:a.tmps.getD 19 undef=.pointer (some ⟨x.S,0,none⟩):=(h 19).trans (by simp[upF,slot0]);clear h;rw[hP]at hm;simp[go_sem,Act.eval,e0,-Array.getD_eq_getD_getElem?]at hm) fun a hs'=>?_
 replace hs:=hs'
 clear hs'
 refine path_slot_read hH hs (ad:=⟨x.S,1,none⟩) (.inl (.inl rfl)) (by rw[M.cs];rfl) rfl rfl (by decide) (fun _=>rfl) hke (fun a W' h hc=>by have e0:a.tmps.getD 20 undef=.pointer (some ⟨x.S,1,none⟩):=(h 20).trans (by simp[upF,slot0]);clear h;rw[hP];go_simp) (fun a W' h hc e he=>by have hm:=mem_listed he;have e0:a.tmps.getD 20 undef=.pointer (some ⟨x.S,1,none⟩):=(h 20).trans (by simp[upF,slot0]);clear h;rw[hP]at hm;simp[go_sem,Act.eval,e0,hc,-Array.getD_eq_getD_getElem?]at hm;exact hm) fun a hs'=>?_
 replace hs:=hs'
 clear hs'
 refine path_slot hH hs (.int .i64 (K:Int)) rfl rfl (by decide) (fun _=>rfl) hke (fun a W' h=>by have e0:a.tmps.getD 21 undef=.int .i64 (x.c:Int):=(h 21).trans (by simp[upF,slot0]);clear h;rw[hP];go_simp<;>simp[hwK]) (fun a W' h e he=>by have hm:=mem_listed he;have e0:a.tmps.getD 21 undef=.int .i64 (x.c:Int):=(h 21).trans (by simp[upF,slot0]);clear h;rw[hP]at hm;simp[go_sem,Act.eval,e0,-Array.getD_eq_getD_getElem?]at hm) fun a hs'=>?_
 replace hs:=hs'
 clear hs'
 refine path_slot hH hs (.int .i64 ((0:Nat):Int)) rfl rfl (by decide) (fun _=>rfl) hke (fun a W' h=>by clear h;rw[hP];go_simp<;>omega) (fun a W' h e he=>by have hm:=mem_listed he;clear h;rw[hP]at hm;simp[go_sem,Act.eval,-Array.getD_eq_getD_getElem?]at hm) fun a hs'=>?_
 replace hs:=hs'
 clear hs'
 refine path_region_end hH ?_
 refine path_block hH ?_
 refine path_loop hH ?_
 obtain ⟨k,hk0⟩:∃k:Nat,k=0:=⟨_,rfl⟩
 obtain ⟨f,hs,f0,f2,f3,f22,f23⟩:∃f,Slots a 73 f∧f 0=.pointer (some ⟨x.S,0,none⟩)∧f 2=.int .i64 (qN x.c x.i k:Nat)∧f 3=v∧f 22=.int .i64 (K:Int)∧f 23=.int .i64 (k:Int):=⟨_,hs,by simp[upF,slot0],by simp[upF,slot0,hk0],by simp[upF,slot0],by simp[upF,slot0],by simp[upF,slot0,hk0]⟩
 replace hL:Lst W L v (X k):=by rw[hk0];exact hL
 obtain ⟨r,hr⟩:∃r,k+r=K:=⟨K,by omega⟩
 have esc:ringS x.to x.fr (2*(x.c - 1)) 0=ringS x.to x.fr (r+K) k:=by rw[hk0];congr 1;omega
 rw[esc]
 clear esc hk0 hkl hk2 ho2 kn2 ow2
 refine Path.up (N:=200) (by decide) ?_
 have pack:=And.intro hr (And.intro M (And.intro hL (And.intro hoff (And.intro hs (And.intro f0 (And.intro f2 (And.intro f3 (And.intro f22 f23))))))))
 generalize k=k at pack ⊢
 generalize r=r at pack ⊢
 generalize W=W at pack ⊢
 generalize L=L at pack ⊢
 generalize v=v at pack ⊢
 generalize a=a at pack ⊢
 generalize f=f at pack
 obtain ⟨hr,M,hL,hoff,hs,f0,f2,f3,f22,f23⟩:=pack
 induction r generalizing k a f W L v with
 |zero=>
  have hH:=M.hereL hL
  rw[show k=K by omega]at f2 f23 hL
  rw[show k=K by omega,Nat.zero_add]
  refine path_seq hH ?_
  refine path_region hH rfl ?_
  refine path_slot hH hs (.bool false) rfl rfl (by decide) (fun _=>rfl) hke (fun a W' h=>by have e0:a.tmps.getD 23 undef=.int .i64 (K:Int):=(h 23).trans (by simp[upF,slot0,f0,f2,f3,f22,f23]);have e1:a.tmps.getD 22 undef=.int .i64 (K:Int):=(h 22).trans (by simp[upF,slot0,f0,f2,f3,f22,f23]);clear h;rw[hP];go_simp<;>omega) (fun a W' h e he=>by have hm:=mem_listed he;have e0:a.tmps.getD 23 undef=.int .i64 (K:Int):=(h 23).trans (by simp[upF,slot0,f0,f2,f3,f22,f23]);have e1:a.tmps.getD 22 undef=.int .i64 (K:Int):=(h 22).trans (by simp[upF,slot0,f0,f2,f3,f22,f23]);clear h;rw[hP]at hm;simp[go_sem,Act.eval,e0,e1,-Array.getD_eq_getD_getElem?]at hm) fun a hs'=>?_
  replace hs:=hs'
  clear hs'
  refine path_region_end hH ?_
  refine path_seq hH ?_
  refine path_cond hH (t:=false) ((hs.at_ 24).trans (by simp[upF])) ?_
  refine path_exit hH rfl ?_
  refine path_seq hH ?_
  refine path_region hH rfl ?_
  refine path_slot hH hs (.pointer (some ⟨x.S,0,none⟩)) rfl rfl (by decide) (fun _=>rfl) hke (fun a W' h=>by have e0:a.tmps.getD 0 undef=.pointer (some ⟨x.S,0,none⟩):=(h 0).trans (by simp[upF,slot0,f0,f2,f3,f22,f23]);clear h;rw[hP];go_simp<;>omega) (fun a W' h e he=>by have hm:=mem_listed he;have e0:a.tmps.getD 0 undef=.pointer (some ⟨x.S,0,none⟩):=(h 0).trans (by simp[upF,slot0,f0,f2,f3,f22,f23]);clear h;rw[hP]at hm;simp[go_sem,Act.eval,e0,-Array.getD_eq_getD_getElem?]at hm) fun a hs'=>?_
  replace hs:=hs'
  clear hs'
  refine path_slot hH hs (.pointer (some ⟨x.S,0,none⟩)) rfl rfl (by decide) (fun _=>rfl) hke (fun a W' h=>by have e0:a.tmps.getD 0 undef=.pointer (some ⟨x.S,0,none⟩):=(h 0).trans (by simp[upF,slot0,f0,f2,f3,f22,f23]);clear h;rw[hP];go_simp<;>omega) (fun a W' h e he=>by have hm:=mem_listed he;have e0:a.tmps.getD 0 undef=.pointer (some ⟨x.S,0,none⟩):=(h 0).trans (by simp[upF,slot0,f0,f2,f3,f22,f23]);clear h;rw[hP]at hm;simp[go_sem,Act.eval,e0,-Array.getD_eq_getD_getElem?]at hm) fun a hs'=>?_
  replace hs:=hs'
  clear hs'
  refine path_slot hH hs (.pointer (some ⟨x.S,0,none⟩)) rfl rfl (by decide) (fun _=>rfl) hke (fun a W' h=>by have e0:a.tmps.getD 42 undef=.pointer (some ⟨x.S,0,none⟩):=(h 42).trans (by simp[upF,slot0,f0,f2,f3,f22,f23]);clear h;rw[hP];go_simp<;>omega) (fun a W' h e he=>by have hm:=mem_listed he;have e0:a.tmps.getD 42 undef=.pointer (some ⟨x.S,0,none⟩):=(h 42).trans (by simp[upF,slot0,f0,f2,f3,f22,f23]);clear h;rw[hP]at hm;simp[go_sem,Act.eval,e0,-Array.getD_eq_getD_getElem?]at hm) fun a hs'=>?_
  replace hs:=hs'
  clear hs'
  refine path_slot hH hs (.pointer (some ⟨x.S,3,none⟩)) rfl rfl (by decide) (fun _=>rfl) hke (fun a W' h=>by have e0:a.tmps.getD 43 undef=.pointer (some ⟨x.S,0,none⟩):=(h 43).trans (by simp[upF,slot0,f0,f2,f3,f22,f23]);clear h;rw[hP];go_simp<;>omega) (fun a W' h e he=>by have hm:=mem_listed he;have e0:a.tmps.getD 43 undef=.pointer (some ⟨x.S,0,none⟩):=(h 43).trans (by simp[upF,slot0,f0,f2,f3,f22,f23]);clear h;rw[hP]at hm;simp[go_sem,Act.eval,e0,-Array.getD_eq_getD_getElem?]at hm) fun a hs'=>?_
  replace hs:=hs'
  clear hs'
  refine path_slot_read hH hs (ad:=⟨x.S,3,none⟩) (.inl (.inl rfl)) (by rw[M.cs];rfl) rfl rfl (by decide) (fun _=>rfl) hke (fun a W' h hc=>by have e0:a.tmps.getD 44 undef=.pointer (some ⟨x.S,3,none⟩):=(h 44).trans (by simp[upF,slot0,f0,f2,f3,f22,f23]);clear h;rw[hP];go_simp) (fun a W' h hc e he=>by have hm:=mem_listed he;have e0:a.tmps.getD 44 undef=.pointer (some ⟨x.S,3,none⟩):=(h 44).trans (by simp[upF,slot0,f0,f2,f3,f22,f23]);clear h;rw[hP]at hm;simp[go_sem,Act.eval,e0,hc,-Array.getD_eq_getD_getElem?]at hm;exact hm) fun a hs'=>?_
  replace hs:=hs'
  clear hs'
  refine path_slot hH hs (.int .i64 (qN x.c x.i K:Nat)) rfl rfl (by decide) (fun _=>rfl) hke (fun a W' h=>by have e0:a.tmps.getD 2 undef=.int .i64 (qN x.c x.i K:Nat):=(h 2).trans (by simp[upF,slot0,f0,f2,f3,f22,f23]);clear h;rw[hP];go_simp<;>omega) (fun a W' h e he=>by have hm:=mem_listed he;have e0:a.tmps.getD 2 undef=.int .i64 (qN x.c x.i K:Nat):=(h 2).trans (by simp[upF,slot0,f0,f2,f3,f22,f23]);clear h;rw[hP]at hm;simp[go_sem,Act.eval,e0,-Array.getD_eq_getD_getElem?]at hm) fun a hs'=>?_
  replace hs:=hs'
  clear hs'
  refine wk_pieceT hok M hL hH.knl (fun _ q=>q) (fun _ q=>q) hs (y:=qN x.c x.i K) rfl rfl (by decide) (fun _=>rfl) hke rfl (by simp[upF,slot0,f0,f2,f3,f22,f23]) (by simp[upF,slot0,f0,f2,f3,f22,f23]) (by simp[upF,slot0,f0,f2,f3,f22,f23]) (qN_lt hc1 _ _) fun W kn2 ow2 hA a hs'=>?_
  obtain ⟨M,hL,hkl,hk2,ho2⟩:=hA
  have hH:=M.hereL hL
  replace hs:=hs'
  clear hs'
  refine path_slot_less hkl hk2 ho2 (x.olk L) hs (v) rfl rfl (by decide) (fun _=>rfl) hke (fun a W' h=>by have e0:a.tmps.getD 3 undef=v:=(h 3).trans (by simp[upF,slot0,f0,f2,f3,f22,f23]);clear h;rw[hP];go_simp<;>omega) (fun a W' h e he=>by have hm:=mem_listed he;have e0:a.tmps.getD 3 undef=v:=(h 3).trans (by simp[upF,slot0,f0,f2,f3,f22,f23]);clear h;rw[hP]at hm;simp[go_sem,Act.eval,e0,-Array.getD_eq_getD_getElem?]at hm) fun a hs'=>?_
  replace hs:=hs'
  clear hs'
  refine wk_copy hok M hL hoff hs (y:=qN x.c x.i K) rfl rfl (by decide) (fun _=>rfl) hke rfl (by kernel_rfl) (by simp[upF,slot0,f0,f2,f3,f22,f23]) (by simp[upF,slot0,f0,f2,f3,f22,f23]) (qN_lt hc1 _ _) (hX K) fun W u M hL a hs'=>?_
  have hH:=M.hereL hL
  replace hs:=hs'
  clear hs'
  refine path_region_end hH ?_
  have M:x.Mem W (tsJ x.n x.c x.i X ts 0):=by unfold tsJ;rw[←hK];exact M
  refine path_seq hH ?_
  refine path_region hH rfl ?_
  refine path_slot hH hs (.pointer (some ⟨x.S,0,none⟩)) rfl rfl (by decide) (fun _=>rfl) hke (fun a W' h=>by have e0:a.tmps.getD 0 undef=.pointer (some ⟨x.S,0,none⟩):=(h 0).trans (by simp[upF,slot0,f0,f2,f3,f22,f23]);clear h;rw[hP];go_simp<;>omega) (fun a W' h e he=>by have hm:=mem_listed he;have e0:a.tmps.getD 0 undef=.pointer (some ⟨x.S,0,none⟩):=(h 0).trans (by simp[upF,slot0,f0,f2,f3,f22,f23]);clear h;rw[hP]at hm;simp[go_sem,Act.eval,e0,-Array.getD_eq_getD_getElem?]at hm) fun a hs'=>?_
  replace hs:=hs'
  clear hs'
  refine path_slot hH hs (.pointer (some ⟨x.S,0,none⟩)) rfl rfl (by decide) (fun _=>rfl) hke (fun a W' h=>by have e0:a.tmps.getD 50 undef=.pointer (some ⟨x.S,0,none⟩):=(h 50).trans (by simp[upF,slot0,f0,f2,f3,f22,f23]);clear h;rw[hP];go_simp<;>omega) (fun a W' h e he=>by have hm:=mem_listed he;have e0:a.tmps.getD 50 undef=.pointer (some ⟨x.S,0,none⟩):=(h 50).trans (by simp[upF,slot0,f0,f2,f3,f22,f23]);clear h;rw[hP]at hm;simp[go_sem,Act.eval,e0,-Array.getD_eq_getD_getElem?]at hm) fun a hs'=>?_
  replace hs:=hs'
  clear hs'
  refine path_slot hH hs (.pointer (some ⟨x.S,1,none⟩)) rfl rfl (by decide) (fun _=>rfl) hke (fun a W' h=>by have e0:a.tmps.getD 51 undef=.pointer (some ⟨x.S,0,none⟩):=(h 51).trans (by simp[upF,slot0,f0,f2,f3,f22,f23]);clear h;rw[hP];go_simp<;>omega) (fun a W' h e he=>by have hm:=mem_listed he;have e0:a.tmps.getD 51 undef=.pointer (some ⟨x.S,0,none⟩):=(h 51).trans (by simp[upF,slot0,f0,f2,f3,f22,f23]);clear h;rw[hP]at hm;simp[go_sem,Act.eval,e0,-Array.getD_eq_getD_getElem?]at hm) fun a hs'=>?_
  replace hs:=hs'
  clear hs'
  refine path_slot_read hH hs (ad:=⟨x.S,1,none⟩) (.inl (.inl rfl)) (by rw[M.cs];rfl) rfl rfl (by decide) (fun _=>rfl) hke (fun a W' h hc=>by have e0:a.tmps.getD 52 undef=.pointer (some ⟨x.S,1,none⟩):=(h 52).trans (by simp[upF,slot0,f0,f2,f3,f22,f23]);clear h;rw[hP];go_simp) (fun a W' h hc e he=>by have hm:=mem_listed he;have e0:a.tmps.getD 52 undef=.pointer (some ⟨x.S,1,none⟩):=(h 52).trans (by simp[upF,slot0,f0,f2,f3,f22,f23]);clear h;rw[hP]at hm;simp[go_sem,Act.eval,e0,hc,-Array.getD_eq_getD_getElem?]at hm;exact hm) fun a hs'=>?_
  replace hs:=hs'
  clear hs'
  refine path_slot hH hs (.int .i64 (K:Int)) rfl rfl (by decide) (fun _=>rfl) hke (fun a W' h=>by have e0:a.tmps.getD 53 undef=.int .i64 (x.c:Int):=(h 53).trans (by simp[upF,slot0,f0,f2,f3,f22,f23]);clear h;rw[hP];go_simp<;>simp[hwK]) (fun a W' h e he=>by have hm:=mem_listed he;have e0:a.tmps.getD 53 undef=.int .i64 (x.c:Int):=(h 53).trans (by simp[upF,slot0,f0,f2,f3,f22,f23]);clear h;rw[hP]at hm;simp[go_sem,Act.eval,e0,-Array.getD_eq_getD_getElem?]at hm) fun a hs'=>?_
  replace hs:=hs'
  clear hs'
  refine path_slot hH hs (.int .i64 ((0:Nat):Int)) rfl rfl (by decide) (fun _=>rfl) hke (fun a W' h=>by clear h;rw[hP];go_simp<;>omega) (fun a W' h e he=>by have hm:=mem_listed he;clear h;rw[hP]at hm;simp[go_sem,Act.eval,-Array.getD_eq_getD_getElem?]at hm) fun a hs'=>?_
  replace hs:=hs'
  clear hs'
  refine path_region_end hH ?_
  refine path_block hH ?_
  refine path_loop hH ?_
  obtain ⟨j,hj0⟩:∃j:Nat,j=0:=⟨_,rfl⟩
  obtain ⟨g,hs,g0,g2,g3,g54,g55⟩:∃f,Slots a 73 f∧f 0=.pointer (some ⟨x.S,0,none⟩)∧f 2=.int .i64 (qN x.c x.i (K+j):Nat)∧f 3=v∧f 54=.int .i64 (K:Int)∧f 55=.int .i64 (j:Int):=⟨_,hs,by simp[upF,slot0,f0,f2,f3,f22,f23],by simp[upF,slot0,f0,f2,f3,f22,f23,hj0],by simp[upF,slot0,f0,f2,f3,f22,f23],by simp[upF,slot0,f0,f2,f3,f22,f23],by simp[upF,slot0,f0,f2,f3,f22,f23,hj0]⟩
  clear f0 f2 f3 f22 f23 hr
  replace hL:Lst W L v (X (K+j)):=by rw[hj0];exact hL
  rw[←hj0]at M
  obtain ⟨s,hsj⟩:∃s,j+s=K:=⟨K,by omega⟩
  have esc:ringS x.to x.fr K K=ringS x.to x.fr s (K+j):=by rw[hj0];congr 1;omega
  rw[esc]
  clear esc hj0 hkl hk2 ho2 kn2 ow2
  refine Path.up (N:=90) (by decide) ?_
  have pack:=And.intro hsj (And.intro M (And.intro hL (And.intro hoff (And.intro hs (And.intro g0 (And.intro g2 (And.intro g3 (And.intro g54 g55))))))))
  generalize j=j at pack ⊢
  generalize s=s at pack ⊢
  generalize W=W at pack ⊢
  generalize L=L at pack ⊢
  generalize v=v at pack ⊢
  generalize a=a at pack ⊢
  generalize g=g at pack
  obtain ⟨hsj,M,hL,hoff,hs,g0,g2,g3,g54,g55⟩:=pack
  induction s generalizing j a g W L v with
  |zero=>
   have hH:=M.hereL hL
   rw[show j=K by omega]at g2 g55 hL M
   rw[show j=K by omega]
   refine path_seq hH ?_
   refine path_region hH rfl ?_
   refine path_slot hH hs (.bool false) rfl rfl (by decide) (fun _=>rfl) hke (fun a W' h=>by have e0:a.tmps.getD 55 undef=.int .i64 (K:Int):=(h 55).trans (by simp[upF,slot0,g0,g2,g3,g54,g55]);have e1:a.tmps.getD 54 undef=.int .i64 (K:Int):=(h 54).trans (by simp[upF,slot0,g0,g2,g3,g54,g55]);clear h;rw[hP];go_simp<;>omega) (fun a W' h e he=>by have hm:=mem_listed he;have e0:a.tmps.getD 55 undef=.int .i64 (K:Int):=(h 55).trans (by simp[upF,slot0,g0,g2,g3,g54,g55]);have e1:a.tmps.getD 54 undef=.int .i64 (K:Int):=(h 54).trans (by simp[upF,slot0,g0,g2,g3,g54,g55]);clear h;rw[hP]at hm;simp[go_sem,Act.eval,e0,e1,-Array.getD_eq_getD_getElem?]at hm) fun a hs'=>?_
   replace hs:=hs'
   clear hs'
   refine path_region_end hH ?_
   refine path_seq hH ?_
   refine path_cond hH (t:=false) ((hs.at_ 56).trans (by simp[upF])) ?_
   refine path_exit hH rfl ?_
   refine Path.up (N:=62) (by decide) ?_
   refine path_end (v:=.tuple #[]) hH rfl hs.defers Try.func17 (fun W2=>by simp[results,Try.results17,go_sem]) (fun W2=>by simp[results,Try.results17,go_sem]) ?_
   refine hp W L v (by rw[←hK];exact M) ?_ hoff
   rw[←hK,show 2*K=K+K by omega]
   exact hL
  |succ s ih=>
   have hH:=M.hereL hL
   have hlt:(j:Int)<(K:Int):=by omega
   have hwj:IntKind.i64.wrap ((j:Int)+1)=((j+1:Nat):Int):=by rw[IntKind.wrap_i64];omega
   have hq:(qN x.c x.i (K+j)+x.c - 1) % x.c=qN x.c x.i (K+(j+1)):=qN_next hc1 hc6 hic (by omega)
   have esc:ringS x.to x.fr (s+1) (K+j)=(true,x.to,K+j)::(false,x.fr,K+j)::ringS x.to x.fr s (K+(j+1)):=rfl
   rw[esc]
   refine path_seq hH ?_
   refine path_region hH rfl ?_
   refine path_slot hH hs (.bool true) rfl rfl (by decide) (fun _=>rfl) hke (fun a W' h=>by have e0:a.tmps.getD 55 undef=.int .i64 (j:Int):=(h 55).trans (by simp[upF,slot0,g0,g2,g3,g54,g55]);have e1:a.tmps.getD 54 undef=.int .i64 (K:Int):=(h 54).trans (by simp[upF,slot0,g0,g2,g3,g54,g55]);clear h;rw[hP];go_simp<;>omega) (fun a W' h e he=>by have hm:=mem_listed he;have e0:a.tmps.getD 55 undef=.int .i64 (j:Int):=(h 55).trans (by simp[upF,slot0,g0,g2,g3,g54,g55]);have e1:a.tmps.getD 54 undef=.int .i64 (K:Int):=(h 54).trans (by simp[upF,slot0,g0,g2,g3,g54,g55]);clear h;rw[hP]at hm;simp[go_sem,Act.eval,e0,e1,-Array.getD_eq_getD_getElem?]at hm) fun a hs'=>?_
   replace hs:=hs'
   clear hs'
   refine path_region_end hH ?_
   refine path_seq hH ?_
   refine path_cond hH (t:=true) ((hs.at_ 56).trans (by simp[upF])) ?_
   refine path_skip hH ?_
   refine path_seq hH ?_
   refine path_block hH ?_
   refine path_seq hH ?_
   refine path_region hH rfl ?_
   refine path_slot hH hs (.pointer (some ⟨x.S,0,none⟩)) rfl rfl (by decide) (fun _=>rfl) hke (fun a W' h=>by have e0:a.tmps.getD 0 undef=.pointer (some ⟨x.S,0,none⟩):=(h 0).trans (by simp[upF,slot0,g0,g2,g3,g54,g55]);clear h;rw[hP];go_simp<;>omega) (fun a W' h e he=>by have hm:=mem_listed he;have e0:a.tmps.getD 0 undef=.pointer (some ⟨x.S,0,none⟩):=(h 0).trans (by simp[upF,slot0,g0,g2,g3,g54,g55]);clear h;rw[hP]at hm;simp[go_sem,Act.eval,e0,-Array.getD_eq_getD_getElem?]at hm) fun a hs'=>?_
   replace hs:=hs'
   clear hs'
   refine path_slot hH hs (v) rfl rfl (by decide) (fun _=>rfl) hke (fun a W' h=>by have e0:a.tmps.getD 3 undef=v:=(h 3).trans (by simp[upF,slot0,g0,g2,g3,g54,g55]);clear h;rw[hP];go_simp<;>omega) (fun a W' h e he=>by have hm:=mem_listed he;have e0:a.tmps.getD 3 undef=v:=(h 3).trans (by simp[upF,slot0,g0,g2,g3,g54,g55]);clear h;rw[hP]at hm;simp[go_sem,Act.eval,e0,-Array.getD_eq_getD_getElem?]at hm) fun a hs'=>?_
   replace hs:=hs'
   clear hs'
   refine wk_hand hM M hL hoff hs rfl rfl (by decide) (fun _=>rfl) hke rfl (by simp[upF,slot0,g0,g2,g3,g54,g55]) (by simp[upF,slot0,g0,g2,g3,g54,g55]) (hsend _ _ _ _ (by omega) hL) (fun W v mb mo h=>hrecv _ _ _ _ _ (by omega) h) fun W L v M hL hoff a hs'=>?_
   have hH:=M.hereL hL
   replace hs:=hs'
   clear hs'
   rw[hpass _ (by omega) (by omega)]at hL
   refine ⟨300,?_⟩
   refine path_slot hH hs (v) rfl rfl (by decide) (fun _=>rfl) hke (fun a W' h=>by have e0:a.tmps.getD 59 undef=v:=(h 59).trans (by simp[upF,slot0,g0,g2,g3,g54,g55]);clear h;rw[hP];go_simp<;>omega) (fun a W' h e he=>by have hm:=mem_listed he;have e0:a.tmps.getD 59 undef=v:=(h 59).trans (by simp[upF,slot0,g0,g2,g3,g54,g55]);clear h;rw[hP]at hm;simp[go_sem,Act.eval,e0,-Array.getD_eq_getD_getElem?]at hm) fun a hs'=>?_
   replace hs:=hs'
   clear hs'
   refine path_region_end hH ?_
   refine path_seq hH ?_
   refine path_region hH rfl ?_
   refine path_slot hH hs (.pointer (some ⟨x.S,0,none⟩)) rfl rfl (by decide) (fun _=>rfl) hke (fun a W' h=>by have e0:a.tmps.getD 0 undef=.pointer (some ⟨x.S,0,none⟩):=(h 0).trans (by simp[upF,slot0,g0,g2,g3,g54,g55]);clear h;rw[hP];go_simp<;>omega) (fun a W' h e he=>by have hm:=mem_listed he;have e0:a.tmps.getD 0 undef=.pointer (some ⟨x.S,0,none⟩):=(h 0).trans (by simp[upF,slot0,g0,g2,g3,g54,g55]);clear h;rw[hP]at hm;simp[go_sem,Act.eval,e0,-Array.getD_eq_getD_getElem?]at hm) fun a hs'=>?_
   replace hs:=hs'
   clear hs'
   refine path_slot hH hs (.int .i64 (qN x.c x.i (K+j):Nat)) rfl rfl (by decide) (fun _=>rfl) hke (fun a W' h=>by have e0:a.tmps.getD 2 undef=.int .i64 (qN x.c x.i (K+j):Nat):=(h 2).trans (by simp[upF,slot0,g0,g2,g3,g54,g55]);clear h;rw[hP];go_simp<;>omega) (fun a W' h e he=>by have hm:=mem_listed he;have e0:a.tmps.getD 2 undef=.int .i64 (qN x.c x.i (K+j):Nat):=(h 2).trans (by simp[upF,slot0,g0,g2,g3,g54,g55]);clear h;rw[hP]at hm;simp[go_sem,Act.eval,e0,-Array.getD_eq_getD_getElem?]at hm) fun a hs'=>?_
   replace hs:=hs'
   clear hs'
   refine wk_ahead hok M hL (L:=L) hH.knl (fun _ q=>q) (fun _ q=>q) hs (y:=qN x.c x.i (K+j)) rfl rfl (by decide) (fun _=>rfl) hke rfl (by simp[upF,slot0,g0,g2,g3,g54,g55]) (by simp[upF,slot0,g0,g2,g3,g54,g55]) (qN_lt hc1 _ _) fun W kn2 ow2 hA a hs'=>?_
   obtain ⟨M,hL,hkl,hk2,ho2⟩:=hA
   have hH:=M.hereL hL
   replace hs:=hs'
   clear hs'
   rw[hq]at hs
   refine path_slot_less hkl hk2 ho2 (x.olk L) hs (.int .i64 (qN x.c x.i (K+(j+1)):Nat)) rfl rfl (by decide) (fun _=>rfl) hke (fun a W' h=>by have e0:a.tmps.getD 62 undef=.int .i64 (qN x.c x.i (K+(j+1)):Nat):=(h 62).trans (by simp[upF,slot0,g0,g2,g3,g54,g55]);clear h;rw[hP];go_simp<;>omega) (fun a W' h e he=>by have hm:=mem_listed he;have e0:a.tmps.getD 62 undef=.int .i64 (qN x.c x.i (K+(j+1)):Nat):=(h 62).trans (by simp[upF,slot0,g0,g2,g3,g54,g55]);clear h;rw[hP]at hm;simp[go_sem,Act.eval,e0,-Array.getD_eq_getD_getElem?]at hm) fun a hs'=>?_
   replace hs:=hs'
   clear hs'
   refine path_region_end hH ?_
   refine path_region hH rfl ?_
   refine path_slot hH hs (.pointer (some ⟨x.S,0,none⟩)) rfl rfl (by decide) (fun _=>rfl) hke (fun a W' h=>by have e0:a.tmps.getD 0 undef=.pointer (some ⟨x.S,0,none⟩):=(h 0).trans (by simp[upF,slot0,g0,g2,g3,g54,g55]);clear h;rw[hP];go_simp<;>omega) (fun a W' h e he=>by have hm:=mem_listed he;have e0:a.tmps.getD 0 undef=.pointer (some ⟨x.S,0,none⟩):=(h 0).trans (by simp[upF,slot0,g0,g2,g3,g54,g55]);clear h;rw[hP]at hm;simp[go_sem,Act.eval,e0,-Array.getD_eq_getD_getElem?]at hm) fun a hs'=>?_
   replace hs:=hs'
   clear hs'
   refine path_slot hH hs (.pointer (some ⟨x.S,0,none⟩)) rfl rfl (by decide) (fun _=>rfl) hke (fun a W' h=>by have e0:a.tmps.getD 0 undef=.pointer (some ⟨x.S,0,none⟩):=(h 0).trans (by simp[upF,slot0,g0,g2,g3,g54,g55]);clear h;rw[hP];go_simp<;>omega) (fun a W' h e he=>by have hm:=mem_listed he;have e0:a.tmps.getD 0 undef=.pointer (some ⟨x.S,0,none⟩):=(h 0).trans (by simp[upF,slot0,g0,g2,g3,g54,g55]);clear h;rw[hP]at hm;simp[go_sem,Act.eval,e0,-Array.getD_eq_getD_getElem?]at hm) fun a hs'=>?_
   replace hs:=hs'
   clear hs'
   refine path_slot hH hs (.pointer (some ⟨x.S,0,none⟩)) rfl rfl (by decide) (fun _=>rfl) hke (fun a W' h=>by have e0:a.tmps.getD 64 undef=.pointer (some ⟨x.S,0,none⟩):=(h 64).trans (by simp[upF,slot0,g0,g2,g3,g54,g55]);clear h;rw[hP];go_simp<;>omega) (fun a W' h e he=>by have hm:=mem_listed he;have e0:a.tmps.getD 64 undef=.pointer (some ⟨x.S,0,none⟩):=(h 64).trans (by simp[upF,slot0,g0,g2,g3,g54,g55]);clear h;rw[hP]at hm;simp[go_sem,Act.eval,e0,-Array.getD_eq_getD_getElem?]at hm) fun a hs'=>?_
   replace hs:=hs'
   clear hs'
   refine path_slot hH hs (.pointer (some ⟨x.S,3,none⟩)) rfl rfl (by decide) (fun _=>rfl) hke (fun a W' h=>by have e0:a.tmps.getD 65 undef=.pointer (some ⟨x.S,0,none⟩):=(h 65).trans (by simp[upF,slot0,g0,g2,g3,g54,g55]);clear h;rw[hP];go_simp<;>omega) (fun a W' h e he=>by have hm:=mem_listed he;have e0:a.tmps.getD 65 undef=.pointer (some ⟨x.S,0,none⟩):=(h 65).trans (by simp[upF,slot0,g0,g2,g3,g54,g55]);clear h;rw[hP]at hm;simp[go_sem,Act.eval,e0,-Array.getD_eq_getD_getElem?]at hm) fun a hs'=>?_
   replace hs:=hs'
   clear hs'
   refine path_slot_read hH hs (ad:=⟨x.S,3,none⟩) (.inl (.inl rfl)) (by rw[M.cs];rfl) rfl rfl (by decide) (fun _=>rfl) hke (fun a W' h hc=>by have e0:a.tmps.getD 66 undef=.pointer (some ⟨x.S,3,none⟩):=(h 66).trans (by simp[upF,slot0,g0,g2,g3,g54,g55]);clear h;rw[hP];go_simp) (fun a W' h hc e he=>by have hm:=mem_listed he;have e0:a.tmps.getD 66 undef=.pointer (some ⟨x.S,3,none⟩):=(h 66).trans (by simp[upF,slot0,g0,g2,g3,g54,g55]);clear h;rw[hP]at hm;simp[go_sem,Act.eval,e0,hc,-Array.getD_eq_getD_getElem?]at hm;exact hm) fun a hs'=>?_
   replace hs:=hs'
   clear hs'
   refine path_slot hH hs (.int .i64 (qN x.c x.i (K+(j+1)):Nat)) rfl rfl (by decide) (fun _=>rfl) hke (fun a W' h=>by have e0:a.tmps.getD 2 undef=.int .i64 (qN x.c x.i (K+(j+1)):Nat):=(h 2).trans (by simp[upF,slot0,g0,g2,g3,g54,g55]);clear h;rw[hP];go_simp<;>omega) (fun a W' h e he=>by have hm:=mem_listed he;have e0:a.tmps.getD 2 undef=.int .i64 (qN x.c x.i (K+(j+1)):Nat):=(h 2).trans (by simp[upF,slot0,g0,g2,g3,g54,g55]);clear h;rw[hP]at hm;simp[go_sem,Act.eval,e0,-Array.getD_eq_getD_getElem?]at hm) fun a hs'=>?_
   replace hs:=hs'
   clear hs'
   refine wk_pieceT hok M hL hH.knl (fun _ q=>q) (fun _ q=>q) hs (y:=qN x.c x.i (K+(j+1))) rfl rfl (by decide) (fun _=>rfl) hke rfl (by simp[upF,slot0,g0,g2,g3,g54,g55]) (by simp[upF,slot0,g0,g2,g3,g54,g55]) (by simp[upF,slot0,g0,g2,g3,g54,g55]) (qN_lt hc1 _ _) fun W kn2 ow2 hA a hs'=>?_
   obtain ⟨M,hL,hkl,hk2,ho2⟩:=hA
   have hH:=M.hereL hL
   replace hs:=hs'
   clear hs'
   refine path_slot_less hkl hk2 ho2 (x.olk L) hs (v) rfl rfl (by decide) (fun _=>rfl) hke (fun a W' h=>by have e0:a.tmps.getD 3 undef=v:=(h 3).trans (by simp[upF,slot0,g0,g2,g3,g54,g55]);clear h;rw[hP];go_simp<;>omega) (fun a W' h e he=>by have hm:=mem_listed he;have e0:a.tmps.getD 3 undef=v:=(h 3).trans (by simp[upF,slot0,g0,g2,g3,g54,g55]);clear h;rw[hP]at hm;simp[go_sem,Act.eval,e0,-Array.getD_eq_getD_getElem?]at hm) fun a hs'=>?_
   replace hs:=hs'
   clear hs'
   refine wk_copy hok M hL hoff hs (y:=qN x.c x.i (K+(j+1))) rfl rfl (by decide) (fun _=>rfl) hke rfl (by kernel_rfl) (by simp[upF,slot0,g0,g2,g3,g54,g55]) (by simp[upF,slot0,g0,g2,g3,g54,g55]) (qN_lt hc1 _ _) (hX _) fun W u M hL a hs'=>?_
   have hH:=M.hereL hL
   replace hs:=hs'
   clear hs'
   refine path_region_end hH ?_
   refine path_inBlock hH ?_
   refine path_region hH rfl ?_
   refine path_slot hH hs (.int .i64 ((j+1:Nat):Int)) rfl rfl (by decide) (fun _=>rfl) hke (fun a W' h=>by have e0:a.tmps.getD 55 undef=.int .i64 (j:Int):=(h 55).trans (by simp[upF,slot0,g0,g2,g3,g54,g55]);clear h;rw[hP];go_simp<;>simp[hwj]) (fun a W' h e he=>by have hm:=mem_listed he;have e0:a.tmps.getD 55 undef=.int .i64 (j:Int):=(h 55).trans (by simp[upF,slot0,g0,g2,g3,g54,g55]);clear h;rw[hP]at hm;simp[go_sem,Act.eval,e0,-Array.getD_eq_getD_getElem?]at hm) fun a hs'=>?_
   replace hs:=hs'
   clear hs'
   refine path_slot hH hs (.int .i64 ((j+1:Nat):Int)) rfl rfl (by decide) (fun _=>rfl) hke (fun a W' h=>by have e0:a.tmps.getD 72 undef=.int .i64 ((j+1:Nat):Int):=(h 72).trans (by simp[upF,slot0,g0,g2,g3,g54,g55]);clear h;rw[hP];go_simp<;>omega) (fun a W' h e he=>by have hm:=mem_listed he;have e0:a.tmps.getD 72 undef=.int .i64 ((j+1:Nat):Int):=(h 72).trans (by simp[upF,slot0,g0,g2,g3,g54,g55]);clear h;rw[hP]at hm;simp[go_sem,Act.eval,e0,-Array.getD_eq_getD_getElem?]at hm) fun a hs'=>?_
   replace hs:=hs'
   clear hs'
   refine path_region_end hH ?_
   refine path_inLoop hH ?_
   obtain ⟨g',hs,g0',g2',g3',g54',g55'⟩:∃f,Slots a 73 f∧f 0=.pointer (some ⟨x.S,0,none⟩)∧f 2=.int .i64 (qN x.c x.i (K+(j+1)):Nat)∧f 3=v∧f 54=.int .i64 (K:Int)∧f 55=.int .i64 ((j+1:Nat):Int):=⟨_,hs,by simp[upF,slot0,g0,g2,g3,g54,g55],by simp[upF,slot0,g0,g2,g3,g54,g55],by simp[upF,slot0,g0,g2,g3,g54,g55],by simp[upF,slot0,g0,g2,g3,g54,g55],by simp[upF,slot0,g0,g2,g3,g54,g55]⟩
   have M:x.Mem W (tsJ x.n x.c x.i X ts (j+1)):=by unfold tsJ;rw[←hK];exact M
   refine Path.up (N:=90) (by decide) ?_
   exact ih _ _ _ _ _ _ (by omega) M hL hoff hs g0' g2' g3' g54' g55'
 |succ r ih=>
  have hH:=M.hereL hL
  have hlt:(k:Int)<(K:Int):=by omega
  have hwk:IntKind.i64.wrap ((k:Int)+1)=((k+1:Nat):Int):=by rw[IntKind.wrap_i64];omega
  have hq:=qN_next hc1 hc6 hic (k:=k) (by omega)
  have esc:ringS x.to x.fr (r+1+K) k=(true,x.to,k)::(false,x.fr,k)::ringS x.to x.fr (r+K) (k+1):=by rw[show r+1+K=r+K+1 by omega];rfl
  rw[esc]
  refine path_seq hH ?_
  refine path_region hH rfl ?_
  refine path_slot hH hs (.bool true) rfl rfl (by decide) (fun _=>rfl) hke (fun a W' h=>by have e0:a.tmps.getD 23 undef=.int .i64 (k:Int):=(h 23).trans (by simp[upF,slot0,f0,f2,f3,f22,f23]);have e1:a.tmps.getD 22 undef=.int .i64 (K:Int):=(h 22).trans (by simp[upF,slot0,f0,f2,f3,f22,f23]);clear h;rw[hP];go_simp<;>omega) (fun a W' h e he=>by have hm:=mem_listed he;have e0:a.tmps.getD 23 undef=.int .i64 (k:Int):=(h 23).trans (by simp[upF,slot0,f0,f2,f3,f22,f23]);have e1:a.tmps.getD 22 undef=.int .i64 (K:Int):=(h 22).trans (by simp[upF,slot0,f0,f2,f3,f22,f23]);clear h;rw[hP]at hm;simp[go_sem,Act.eval,e0,e1,-Array.getD_eq_getD_getElem?]at hm) fun a hs'=>?_
  replace hs:=hs'
  clear hs'
  refine path_region_end hH ?_
  refine path_seq hH ?_
  refine path_cond hH (t:=true) ((hs.at_ 24).trans (by simp[upF])) ?_
  refine path_skip hH ?_
  refine path_seq hH ?_
  refine path_block hH ?_
  refine path_seq hH ?_
  refine path_region hH rfl ?_
  refine path_slot hH hs (.pointer (some ⟨x.S,0,none⟩)) rfl rfl (by decide) (fun _=>rfl) hke (fun a W' h=>by have e0:a.tmps.getD 0 undef=.pointer (some ⟨x.S,0,none⟩):=(h 0).trans (by simp[upF,slot0,f0,f2,f3,f22,f23]);clear h;rw[hP];go_simp<;>omega) (fun a W' h e he=>by have hm:=mem_listed he;have e0:a.tmps.getD 0 undef=.pointer (some ⟨x.S,0,none⟩):=(h 0).trans (by simp[upF,slot0,f0,f2,f3,f22,f23]);clear h;rw[hP]at hm;simp[go_sem,Act.eval,e0,-Array.getD_eq_getD_getElem?]at hm) fun a hs'=>?_
  replace hs:=hs'
  clear hs'
  refine path_slot hH hs (v) rfl rfl (by decide) (fun _=>rfl) hke (fun a W' h=>by have e0:a.tmps.getD 3 undef=v:=(h 3).trans (by simp[upF,slot0,f0,f2,f3,f22,f23]);clear h;rw[hP];go_simp<;>omega) (fun a W' h e he=>by have hm:=mem_listed he;have e0:a.tmps.getD 3 undef=v:=(h 3).trans (by simp[upF,slot0,f0,f2,f3,f22,f23]);clear h;rw[hP]at hm;simp[go_sem,Act.eval,e0,-Array.getD_eq_getD_getElem?]at hm) fun a hs'=>?_
  replace hs:=hs'
  clear hs'
  refine wk_hand hM M hL hoff hs rfl rfl (by decide) (fun _=>rfl) hke rfl (by simp[upF,slot0,f0,f2,f3,f22,f23]) (by simp[upF,slot0,f0,f2,f3,f22,f23]) (hsend _ _ _ _ (by omega) hL) (fun W v mb mo h=>hrecv _ _ _ _ _ (by omega) h) fun W L v M hL hoff a hs'=>?_
  have hH:=M.hereL hL
  replace hs:=hs'
  clear hs'
  obtain ⟨had1,had2⟩:=hadd k (by omega)
  refine ⟨300,?_⟩
  refine path_slot hH hs (v) rfl rfl (by decide) (fun _=>rfl) hke (fun a W' h=>by have e0:a.tmps.getD 27 undef=v:=(h 27).trans (by simp[upF,slot0,f0,f2,f3,f22,f23]);clear h;rw[hP];go_simp<;>omega) (fun a W' h e he=>by have hm:=mem_listed he;have e0:a.tmps.getD 27 undef=v:=(h 27).trans (by simp[upF,slot0,f0,f2,f3,f22,f23]);clear h;rw[hP]at hm;simp[go_sem,Act.eval,e0,-Array.getD_eq_getD_getElem?]at hm) fun a hs'=>?_
  replace hs:=hs'
  clear hs'
  refine path_region_end hH ?_
  refine path_seq hH ?_
  refine path_region hH rfl ?_
  refine path_slot hH hs (.pointer (some ⟨x.S,0,none⟩)) rfl rfl (by decide) (fun _=>rfl) hke (fun a W' h=>by have e0:a.tmps.getD 0 undef=.pointer (some ⟨x.S,0,none⟩):=(h 0).trans (by simp[upF,slot0,f0,f2,f3,f22,f23]);clear h;rw[hP];go_simp<;>omega) (fun a W' h e he=>by have hm:=mem_listed he;have e0:a.tmps.getD 0 undef=.pointer (some ⟨x.S,0,none⟩):=(h 0).trans (by simp[upF,slot0,f0,f2,f3,f22,f23]);clear h;rw[hP]at hm;simp[go_sem,Act.eval,e0,-Array.getD_eq_getD_getElem?]at hm) fun a hs'=>?_
  replace hs:=hs'
  clear hs'
  refine path_slot hH hs (.int .i64 (qN x.c x.i k:Nat)) rfl rfl (by decide) (fun _=>rfl) hke (fun a W' h=>by have e0:a.tmps.getD 2 undef=.int .i64 (qN x.c x.i k:Nat):=(h 2).trans (by simp[upF,slot0,f0,f2,f3,f22,f23]);clear h;rw[hP];go_simp<;>omega) (fun a W' h e he=>by have hm:=mem_listed he;have e0:a.tmps.getD 2 undef=.int .i64 (qN x.c x.i k:Nat):=(h 2).trans (by simp[upF,slot0,f0,f2,f3,f22,f23]);clear h;rw[hP]at hm;simp[go_sem,Act.eval,e0,-Array.getD_eq_getD_getElem?]at hm) fun a hs'=>?_
  replace hs:=hs'
  clear hs'
  refine wk_ahead hok M hL (L:=L) hH.knl (fun _ q=>q) (fun _ q=>q) hs (y:=qN x.c x.i k) rfl rfl (by decide) (fun _=>rfl) hke rfl (by simp[upF,slot0,f0,f2,f3,f22,f23]) (by simp[upF,slot0,f0,f2,f3,f22,f23]) (qN_lt hc1 _ _) fun W kn2 ow2 hA a hs'=>?_
  obtain ⟨M,hL,hkl,hk2,ho2⟩:=hA
  have hH:=M.hereL hL
  replace hs:=hs'
  clear hs'
  rw[hq]at hs
  refine path_slot_less hkl hk2 ho2 (x.olk L) hs (.int .i64 (qN x.c x.i (k+1):Nat)) rfl rfl (by decide) (fun _=>rfl) hke (fun a W' h=>by have e0:a.tmps.getD 30 undef=.int .i64 (qN x.c x.i (k+1):Nat):=(h 30).trans (by simp[upF,slot0,f0,f2,f3,f22,f23]);clear h;rw[hP];go_simp<;>omega) (fun a W' h e he=>by have hm:=mem_listed he;have e0:a.tmps.getD 30 undef=.int .i64 (qN x.c x.i (k+1):Nat):=(h 30).trans (by simp[upF,slot0,f0,f2,f3,f22,f23]);clear h;rw[hP]at hm;simp[go_sem,Act.eval,e0,-Array.getD_eq_getD_getElem?]at hm) fun a hs'=>?_
  replace hs:=hs'
  clear hs'
  refine path_region_end hH ?_
  refine path_region hH rfl ?_
  refine path_slot hH hs (v) rfl rfl (by decide) (fun _=>rfl) hke (fun a W' h=>by have e0:a.tmps.getD 3 undef=v:=(h 3).trans (by simp[upF,slot0,f0,f2,f3,f22,f23]);clear h;rw[hP];go_simp<;>omega) (fun a W' h e he=>by have hm:=mem_listed he;have e0:a.tmps.getD 3 undef=v:=(h 3).trans (by simp[upF,slot0,f0,f2,f3,f22,f23]);clear h;rw[hP]at hm;simp[go_sem,Act.eval,e0,-Array.getD_eq_getD_getElem?]at hm) fun a hs'=>?_
  replace hs:=hs'
  clear hs'
  refine path_slot hH hs (.pointer (some ⟨x.S,0,none⟩)) rfl rfl (by decide) (fun _=>rfl) hke (fun a W' h=>by have e0:a.tmps.getD 0 undef=.pointer (some ⟨x.S,0,none⟩):=(h 0).trans (by simp[upF,slot0,f0,f2,f3,f22,f23]);clear h;rw[hP];go_simp<;>omega) (fun a W' h e he=>by have hm:=mem_listed he;have e0:a.tmps.getD 0 undef=.pointer (some ⟨x.S,0,none⟩):=(h 0).trans (by simp[upF,slot0,f0,f2,f3,f22,f23]);clear h;rw[hP]at hm;simp[go_sem,Act.eval,e0,-Array.getD_eq_getD_getElem?]at hm) fun a hs'=>?_
  replace hs:=hs'
  clear hs'
  refine path_slot hH hs (.pointer (some ⟨x.S,0,none⟩)) rfl rfl (by decide) (fun _=>rfl) hke (fun a W' h=>by have e0:a.tmps.getD 0 undef=.pointer (some ⟨x.S,0,none⟩):=(h 0).trans (by simp[upF,slot0,f0,f2,f3,f22,f23]);clear h;rw[hP];go_simp<;>omega) (fun a W' h e he=>by have hm:=mem_listed he;have e0:a.tmps.getD 0 undef=.pointer (some ⟨x.S,0,none⟩):=(h 0).trans (by simp[upF,slot0,f0,f2,f3,f22,f23]);clear h;rw[hP]at hm;simp[go_sem,Act.eval,e0,-Array.getD_eq_getD_getElem?]at hm) fun a hs'=>?_
  replace hs:=hs'
  clear hs'
  refine path_slot hH hs (.pointer (some ⟨x.S,0,none⟩)) rfl rfl (by decide) (fun _=>rfl) hke (fun a W' h=>by have e0:a.tmps.getD 33 undef=.pointer (some ⟨x.S,0,none⟩):=(h 33).trans (by simp[upF,slot0,f0,f2,f3,f22,f23]);clear h;rw[hP];go_simp<;>omega) (fun a W' h e he=>by have hm:=mem_listed he;have e0:a.tmps.getD 33 undef=.pointer (some ⟨x.S,0,none⟩):=(h 33).trans (by simp[upF,slot0,f0,f2,f3,f22,f23]);clear h;rw[hP]at hm;simp[go_sem,Act.eval,e0,-Array.getD_eq_getD_getElem?]at hm) fun a hs'=>?_
  replace hs:=hs'
  clear hs'
  refine path_slot hH hs (.pointer (some ⟨x.S,2,none⟩)) rfl rfl (by decide) (fun _=>rfl) hke (fun a W' h=>by have e0:a.tmps.getD 34 undef=.pointer (some ⟨x.S,0,none⟩):=(h 34).trans (by simp[upF,slot0,f0,f2,f3,f22,f23]);clear h;rw[hP];go_simp<;>omega) (fun a W' h e he=>by have hm:=mem_listed he;have e0:a.tmps.getD 34 undef=.pointer (some ⟨x.S,0,none⟩):=(h 34).trans (by simp[upF,slot0,f0,f2,f3,f22,f23]);clear h;rw[hP]at hm;simp[go_sem,Act.eval,e0,-Array.getD_eq_getD_getElem?]at hm) fun a hs'=>?_
  replace hs:=hs'
  clear hs'
  refine path_slot_read hH hs (ad:=⟨x.S,2,none⟩) (.inl (.inl rfl)) (by rw[M.cs];rfl) rfl rfl (by decide) (fun _=>rfl) hke (fun a W' h hc=>by have e0:a.tmps.getD 35 undef=.pointer (some ⟨x.S,2,none⟩):=(h 35).trans (by simp[upF,slot0,f0,f2,f3,f22,f23]);clear h;rw[hP];go_simp) (fun a W' h hc e he=>by have hm:=mem_listed he;have e0:a.tmps.getD 35 undef=.pointer (some ⟨x.S,2,none⟩):=(h 35).trans (by simp[upF,slot0,f0,f2,f3,f22,f23]);clear h;rw[hP]at hm;simp[go_sem,Act.eval,e0,hc,-Array.getD_eq_getD_getElem?]at hm;exact hm) fun a hs'=>?_
  replace hs:=hs'
  clear hs'
  refine path_slot hH hs (.int .i64 (qN x.c x.i (k+1):Nat)) rfl rfl (by decide) (fun _=>rfl) hke (fun a W' h=>by have e0:a.tmps.getD 2 undef=.int .i64 (qN x.c x.i (k+1):Nat):=(h 2).trans (by simp[upF,slot0,f0,f2,f3,f22,f23]);clear h;rw[hP];go_simp<;>omega) (fun a W' h e he=>by have hm:=mem_listed he;have e0:a.tmps.getD 2 undef=.int .i64 (qN x.c x.i (k+1):Nat):=(h 2).trans (by simp[upF,slot0,f0,f2,f3,f22,f23]);clear h;rw[hP]at hm;simp[go_sem,Act.eval,e0,-Array.getD_eq_getD_getElem?]at hm) fun a hs'=>?_
  replace hs:=hs'
  clear hs'
  refine wk_pieceO hok M hL hH.knl (fun _ q=>q) (fun _ q=>q) hs (y:=qN x.c x.i (k+1)) rfl rfl (by decide) (fun _=>rfl) hke rfl (by simp[upF,slot0,f0,f2,f3,f22,f23]) (by simp[upF,slot0,f0,f2,f3,f22,f23]) (by simp[upF,slot0,f0,f2,f3,f22,f23]) (qN_lt hc1 _ _) fun W kn2 ow2 pv hA hpv a hs'=>?_
  obtain ⟨M,hL,hkl,hk2,ho2⟩:=hA
  have hH:=M.hereL hL
  replace hs:=hs'
  clear hs'
  refine wk_add hok M hL hoff hkl hk2 ho2 hs (y:=qN x.c x.i (k+1)) rfl rfl (by decide) (fun _=>rfl) hke rfl (by simp[upF,slot0,f0,f2,f3,f22,f23]) (by simp[upF,slot0,f0,f2,f3,f22,f23]) hpv (qN_lt hc1 _ _) had2 fun W kn2 ow2 hA a hs'=>?_
  obtain ⟨M,hL,hkl,hk2,ho2⟩:=hA
  have hH:=M.hereL hL
  replace hs:=hs'
  clear hs'
  rw[had1]at hL
  refine path_region_end_less hkl hk2 ho2 (x.olk L) ?_
  refine path_inBlock hH ?_
  refine path_region hH rfl ?_
  refine path_slot hH hs (.int .i64 ((k+1:Nat):Int)) rfl rfl (by decide) (fun _=>rfl) hke (fun a W' h=>by have e0:a.tmps.getD 23 undef=.int .i64 (k:Int):=(h 23).trans (by simp[upF,slot0,f0,f2,f3,f22,f23]);clear h;rw[hP];go_simp<;>simp[hwk]) (fun a W' h e he=>by have hm:=mem_listed he;have e0:a.tmps.getD 23 undef=.int .i64 (k:Int):=(h 23).trans (by simp[upF,slot0,f0,f2,f3,f22,f23]);clear h;rw[hP]at hm;simp[go_sem,Act.eval,e0,-Array.getD_eq_getD_getElem?]at hm) fun a hs'=>?_
  replace hs:=hs'
  clear hs'
  refine path_slot hH hs (.int .i64 ((k+1:Nat):Int)) rfl rfl (by decide) (fun _=>rfl) hke (fun a W' h=>by have e0:a.tmps.getD 40 undef=.int .i64 ((k+1:Nat):Int):=(h 40).trans (by simp[upF,slot0,f0,f2,f3,f22,f23]);clear h;rw[hP];go_simp<;>omega) (fun a W' h e he=>by have hm:=mem_listed he;have e0:a.tmps.getD 40 undef=.int .i64 ((k+1:Nat):Int):=(h 40).trans (by simp[upF,slot0,f0,f2,f3,f22,f23]);clear h;rw[hP]at hm;simp[go_sem,Act.eval,e0,-Array.getD_eq_getD_getElem?]at hm) fun a hs'=>?_
  replace hs:=hs'
  clear hs'
  refine path_region_end hH ?_
  refine path_inLoop hH ?_
  obtain ⟨f',hs,f0',f2',f3',f22',f23'⟩:∃f,Slots a 73 f∧f 0=.pointer (some ⟨x.S,0,none⟩)∧f 2=.int .i64 (qN x.c x.i (k+1):Nat)∧f 3=v∧f 22=.int .i64 (K:Int)∧f 23=.int .i64 ((k+1:Nat):Int):=⟨_,hs,by simp[upF,slot0,f0,f2,f3,f22,f23],by simp[upF,slot0,f0,f2,f3,f22,f23],by simp[upF,slot0,f0,f2,f3,f22,f23],by simp[upF,slot0,f0,f2,f3,f22,f23],by simp[upF,slot0,f0,f2,f3,f22,f23]⟩
  refine Path.up (N:=200) (by decide) ?_
  exact ih _ _ _ _ _ _ (by omega) M hL hoff hs f0' f2' f3' f22' f23'
end Go.Proofs.Ytniloklglpchfai
