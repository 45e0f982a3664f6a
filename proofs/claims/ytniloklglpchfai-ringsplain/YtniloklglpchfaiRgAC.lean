/- The law RingsPlain behind its first Sum: its answer is looked at. -/
import Derived.Test.YtniloklglpchfaiPkRgAB
namespace Go.Proofs.Ytniloklglpchfai
open Go Go.RowKit Go.Conc
theorem slot_bool{t:Array Value}{k:Nat}{v:Bool}(h:t[k]?.getD undef=.bool v):t[k]?=some (.bool v):=by
 cases hh:t[k]? with
 |none=>
  rw[hh]at h
  first
   |cases h
   |(simp[undef]at h;done)
   |exact absurd h (by decide)
 |some x=>rw[hh]at h;exact congrArg some h
set_option linter.unusedSimpArgs false in
set_option linter.unusedVariables false in
set_option maxRecDepth 100000 in
set_option maxHeartbeats 4000000 in
theorem rp_looked{Goal2:Stand}{W W2:World}{pv:Value}{kp:Nat→Prop}{Zb:Nat}{T:Nat→Nat}(SO:SumOut W W2 kp 2 [11,22,33] Zb T){U V:Code}(hU:IsRp U)(hV:V=sndC U){a:Act}{f:Nat→Value}(hs:Slots a 149 f)(f0:f 0=pv)(f3:f 3=.slice (some ⟨Zb,0,none⟩) 2 2)(f4:f 4=.nilIface){cs:List Frame}{nE:Nat}
  (hend:∀a f,Slots a 149 f→f 0=pv→∃ρ,Path (mkE Try.prog rgF rgF) Goal2 nE ρ (G ((base 3).at a [.code V]) cs) W2 (kS kp 2 Zb T) (oS 2 Zb T)):
  ∃ρ,Path (mkE Try.prog rgF rgF) Goal2 (nE+28) ρ (G ((base 3).at a [.code U]) cs) W2 (kS kp 2 Zb T) (oS 2 Zb T):=by
 have hP:(mkE Try.prog rgF rgF).P=Try.prog:=rfl
 have hke:(base 3).kind≠.early:=by decide
 have hH:Here W2 (kS kp 2 Zb T) (oS 2 Zb T):=⟨fun B q=>by
  rcases q with q|rfl|⟨i,hi,rfl⟩
  ·obtain ⟨_,_,_,_,-,h2,-⟩:=SO.still B q
   exact lt_of_some h2
  ·obtain ⟨_,-,h2⟩:=SO.row
   exact lt_of_some h2
  ·obtain ⟨_,-,h2⟩:=SO.ts i hi
   exact lt_of_some h2,fun B q=>.inr q⟩
 have cz:W2.cell? ⟨Zb,1,none⟩=some (.slice (some ⟨T 1,0,none⟩) 3 3):=by obtain ⟨_,-,h⟩:=SO.row;rw[Joins.cell_of_block h];rfl
 have ct:W2.cell? ⟨T 1,2,none⟩=some (.int .i64 33):=by obtain ⟨_,-,h⟩:=SO.ts 1 (by omega);rw[Joins.cell_of_block h];rfl
 have kz:kS kp 2 Zb T Zb:=.inr (.inl rfl)
 have kt:kS kp 2 Zb T (T 1):=.inr (.inr ⟨1,by omega,rfl⟩)
 unfold IsRp at hU
 simp only[Try.f3,Option.getD_some,sndC]at hU
 subst hU
 refine Path.up (N:=nE+28) (by omega) ?_
 refine path_seq hH ?_
 simp only[sndC]at hV
 rw[←hV]
 clear hV
 refine path_seq hH ?_
 refine path_region hH rfl ?_
 refine path_slot hH hs (.nilIface) rfl rfl (by decide) (fun _=>rfl) hke (fun a W' h=>by have e0:a.tmps.getD 4 undef=.nilIface:=(h 4).trans (by simp[upF,f3,f4]);have q0:a.tmps[4]?.getD undef=.nilIface:=(by rw[←Array.getD_eq_getD_getElem?];exact e0);clear h;rw[hP];go_simp<;>omega) (fun a W' h e he=>by have hm:=mem_listed he;have e0:a.tmps.getD 4 undef=.nilIface:=(h 4).trans (by simp[upF,f3,f4]);have q0:a.tmps[4]?.getD undef=.nilIface:=(by rw[←Array.getD_eq_getD_getElem?];exact e0);clear h;rw[hP]at hm;simp[go_sem,Act.eval,e0,-Array.getD_eq_getD_getElem?]at hm) fun a hs'=>?_
 replace hs:=hs'
 clear hs'
 refine path_slot hH hs (.bool false) rfl rfl (by decide) (fun _=>rfl) hke (fun a W' h=>by have e0:a.tmps.getD 26 undef=.nilIface:=(h 26).trans (by simp[upF,f3,f4]);have q0:a.tmps[26]?.getD undef=.nilIface:=(by rw[←Array.getD_eq_getD_getElem?];exact e0);clear h;rw[hP];go_simp<;>omega) (fun a W' h e he=>by have hm:=mem_listed he;have e0:a.tmps.getD 26 undef=.nilIface:=(h 26).trans (by simp[upF,f3,f4]);have q0:a.tmps[26]?.getD undef=.nilIface:=(by rw[←Array.getD_eq_getD_getElem?];exact e0);clear h;rw[hP]at hm;simp[go_sem,Act.eval,e0,-Array.getD_eq_getD_getElem?]at hm;rw[show Sem.events Try.prog (binOp BinOp.neq 24 Value.nilIface Value.nilIface) W' #[]=#[] from by first|rfl|(simp[binOp,go_sem];done)]at hm;simp at hm) fun a hs'=>?_
 replace hs:=hs'
 clear hs'
 refine path_slot hH hs (.bool false) rfl rfl (by decide) (fun _=>rfl) hke (fun a W' h=>by have e0:a.tmps.getD 27 undef=.bool false:=(h 27).trans (by simp[upF,f3,f4]);have q0:a.tmps[27]?.getD undef=.bool false:=(by rw[←Array.getD_eq_getD_getElem?];exact e0);clear h;rw[hP];go_simp<;>omega) (fun a W' h e he=>by have hm:=mem_listed he;have e0:a.tmps.getD 27 undef=.bool false:=(h 27).trans (by simp[upF,f3,f4]);have q0:a.tmps[27]?.getD undef=.bool false:=(by rw[←Array.getD_eq_getD_getElem?];exact e0);clear h;rw[hP]at hm;simp[go_sem,Act.eval,e0,-Array.getD_eq_getD_getElem?]at hm) fun a hs'=>?_
 replace hs:=hs'
 clear hs'
 refine path_slot_at hH hs (.slice (some ⟨Zb,0,none⟩) 2 2) rfl rfl (by decide) (fun a h=>by have e0:a.tmps.getD 28 undef=.bool false:=(h 28).trans (by simp[upF,f3,f4]);have q0:a.tmps[28]?.getD undef=.bool false:=(by rw[←Array.getD_eq_getD_getElem?];exact e0);have r0:=slot_bool q0;clear h;simp[Region.wanted,yielded,r0]) hke (fun a W' h=>by have e0:a.tmps.getD 3 undef=.slice (some ⟨Zb,0,none⟩) 2 2:=(h 3).trans (by simp[upF,f3,f4]);have q0:a.tmps[3]?.getD undef=.slice (some ⟨Zb,0,none⟩) 2 2:=(by rw[←Array.getD_eq_getD_getElem?];exact e0);clear h;rw[hP];go_simp<;>omega) (fun a W' h e he=>by have hm:=mem_listed he;have e0:a.tmps.getD 3 undef=.slice (some ⟨Zb,0,none⟩) 2 2:=(h 3).trans (by simp[upF,f3,f4]);have q0:a.tmps[3]?.getD undef=.slice (some ⟨Zb,0,none⟩) 2 2:=(by rw[←Array.getD_eq_getD_getElem?];exact e0);clear h;rw[hP]at hm;simp[go_sem,Act.eval,e0,-Array.getD_eq_getD_getElem?]at hm) fun a hs'=>?_
 replace hs:=hs'
 clear hs'
 refine path_slot_at hH hs (.int .i64 2) rfl rfl (by decide) (fun a h=>by have e0:a.tmps.getD 28 undef=.bool false:=(h 28).trans (by simp[upF,f3,f4]);have q0:a.tmps[28]?.getD undef=.bool false:=(by rw[←Array.getD_eq_getD_getElem?];exact e0);have r0:=slot_bool q0;clear h;simp[Region.wanted,yielded,r0]) hke (fun a W' h=>by have e0:a.tmps.getD 29 undef=.slice (some ⟨Zb,0,none⟩) 2 2:=(h 29).trans (by simp[upF,f3,f4]);have q0:a.tmps[29]?.getD undef=.slice (some ⟨Zb,0,none⟩) 2 2:=(by rw[←Array.getD_eq_getD_getElem?];exact e0);clear h;rw[hP];go_simp<;>omega) (fun a W' h e he=>by have hm:=mem_listed he;have e0:a.tmps.getD 29 undef=.slice (some ⟨Zb,0,none⟩) 2 2:=(h 29).trans (by simp[upF,f3,f4]);have q0:a.tmps[29]?.getD undef=.slice (some ⟨Zb,0,none⟩) 2 2:=(by rw[←Array.getD_eq_getD_getElem?];exact e0);clear h;rw[hP]at hm;simp[go_sem,Act.eval,e0,-Array.getD_eq_getD_getElem?]at hm) fun a hs'=>?_
 replace hs:=hs'
 clear hs'
 refine path_slot_at hH hs (.bool false) rfl rfl (by decide) (fun a h=>by have e0:a.tmps.getD 28 undef=.bool false:=(h 28).trans (by simp[upF,f3,f4]);have q0:a.tmps[28]?.getD undef=.bool false:=(by rw[←Array.getD_eq_getD_getElem?];exact e0);have r0:=slot_bool q0;clear h;simp[Region.wanted,yielded,r0]) hke (fun a W' h=>by have e0:a.tmps.getD 30 undef=.int .i64 2:=(h 30).trans (by simp[upF,f3,f4]);have q0:a.tmps[30]?.getD undef=.int .i64 2:=(by rw[←Array.getD_eq_getD_getElem?];exact e0);clear h;rw[hP];go_simp<;>omega) (fun a W' h e he=>by have hm:=mem_listed he;have e0:a.tmps.getD 30 undef=.int .i64 2:=(h 30).trans (by simp[upF,f3,f4]);have q0:a.tmps[30]?.getD undef=.int .i64 2:=(by rw[←Array.getD_eq_getD_getElem?];exact e0);clear h;rw[hP]at hm;simp[go_sem,Act.eval,e0,-Array.getD_eq_getD_getElem?]at hm) fun a hs'=>?_
 replace hs:=hs'
 clear hs'
 refine path_slot hH hs (.bool false) rfl rfl (by decide) (fun _=>rfl) hke (fun a W' h=>by have e0:a.tmps.getD 28 undef=.bool false:=(h 28).trans (by simp[upF,f3,f4]);have q0:a.tmps[28]?.getD undef=.bool false:=(by rw[←Array.getD_eq_getD_getElem?];exact e0);have e1:a.tmps.getD 31 undef=.bool false:=(h 31).trans (by simp[upF,f3,f4]);have q1:a.tmps[31]?.getD undef=.bool false:=(by rw[←Array.getD_eq_getD_getElem?];exact e1);clear h;rw[hP];go_simp<;>omega) (fun a W' h e he=>by have hm:=mem_listed he;have e0:a.tmps.getD 28 undef=.bool false:=(h 28).trans (by simp[upF,f3,f4]);have q0:a.tmps[28]?.getD undef=.bool false:=(by rw[←Array.getD_eq_getD_getElem?];exact e0);have e1:a.tmps.getD 31 undef=.bool false:=(h 31).trans (by simp[upF,f3,f4]);have q1:a.tmps[31]?.getD undef=.bool false:=(by rw[←Array.getD_eq_getD_getElem?];exact e1);clear h;rw[hP]at hm;simp[go_sem,Act.eval,e0,e1,-Array.getD_eq_getD_getElem?]at hm) fun a hs'=>?_
 replace hs:=hs'
 clear hs'
 refine path_slot hH hs (.bool false) rfl rfl (by decide) (fun _=>rfl) hke (fun a W' h=>by have e0:a.tmps.getD 32 undef=.bool false:=(h 32).trans (by simp[upF,f3,f4]);have q0:a.tmps[32]?.getD undef=.bool false:=(by rw[←Array.getD_eq_getD_getElem?];exact e0);clear h;rw[hP];go_simp<;>omega) (fun a W' h e he=>by have hm:=mem_listed he;have e0:a.tmps.getD 32 undef=.bool false:=(h 32).trans (by simp[upF,f3,f4]);have q0:a.tmps[32]?.getD undef=.bool false:=(by rw[←Array.getD_eq_getD_getElem?];exact e0);clear h;rw[hP]at hm;simp[go_sem,Act.eval,e0,-Array.getD_eq_getD_getElem?]at hm) fun a hs'=>?_
 replace hs:=hs'
 clear hs'
 refine path_slot_at hH hs (.slice (some ⟨Zb,0,none⟩) 2 2) rfl rfl (by decide) (fun a h=>by have e0:a.tmps.getD 33 undef=.bool false:=(h 33).trans (by simp[upF,f3,f4]);have q0:a.tmps[33]?.getD undef=.bool false:=(by rw[←Array.getD_eq_getD_getElem?];exact e0);have r0:=slot_bool q0;clear h;simp[Region.wanted,yielded,r0]) hke (fun a W' h=>by have e0:a.tmps.getD 3 undef=.slice (some ⟨Zb,0,none⟩) 2 2:=(h 3).trans (by simp[upF,f3,f4]);have q0:a.tmps[3]?.getD undef=.slice (some ⟨Zb,0,none⟩) 2 2:=(by rw[←Array.getD_eq_getD_getElem?];exact e0);clear h;rw[hP];go_simp<;>omega) (fun a W' h e he=>by have hm:=mem_listed he;have e0:a.tmps.getD 3 undef=.slice (some ⟨Zb,0,none⟩) 2 2:=(h 3).trans (by simp[upF,f3,f4]);have q0:a.tmps[3]?.getD undef=.slice (some ⟨Zb,0,none⟩) 2 2:=(by rw[←Array.getD_eq_getD_getElem?];exact e0);clear h;rw[hP]at hm;simp[go_sem,Act.eval,e0,-Array.getD_eq_getD_getElem?]at hm) fun a hs'=>?_
 replace hs:=hs'
 clear hs'
 refine path_slot_at hH hs (.pointer (some ⟨Zb,1,none⟩)) rfl rfl (by decide) (fun a h=>by have e0:a.tmps.getD 33 undef=.bool false:=(h 33).trans (by simp[upF,f3,f4]);have q0:a.tmps[33]?.getD undef=.bool false:=(by rw[←Array.getD_eq_getD_getElem?];exact e0);have r0:=slot_bool q0;clear h;simp[Region.wanted,yielded,r0]) hke (fun a W' h=>by have e0:a.tmps.getD 34 undef=.slice (some ⟨Zb,0,none⟩) 2 2:=(h 34).trans (by simp[upF,f3,f4]);have q0:a.tmps[34]?.getD undef=.slice (some ⟨Zb,0,none⟩) 2 2:=(by rw[←Array.getD_eq_getD_getElem?];exact e0);clear h;rw[hP];go_simp<;>omega) (fun a W' h e he=>by have hm:=mem_listed he;have e0:a.tmps.getD 34 undef=.slice (some ⟨Zb,0,none⟩) 2 2:=(h 34).trans (by simp[upF,f3,f4]);have q0:a.tmps[34]?.getD undef=.slice (some ⟨Zb,0,none⟩) 2 2:=(by rw[←Array.getD_eq_getD_getElem?];exact e0);clear h;rw[hP]at hm;simp[go_sem,Act.eval,e0,-Array.getD_eq_getD_getElem?]at hm) fun a hs'=>?_
 replace hs:=hs'
 clear hs'
 refine path_slot_read_at hH hs (ad:=⟨Zb,1,none⟩) (kz) (cz) rfl rfl (by decide) (fun a h=>by have e0:a.tmps.getD 33 undef=.bool false:=(h 33).trans (by simp[upF,f3,f4]);have q0:a.tmps[33]?.getD undef=.bool false:=(by rw[←Array.getD_eq_getD_getElem?];exact e0);have r0:=slot_bool q0;clear h;simp[Region.wanted,yielded,r0]) hke (fun a W' h hc=>by have e0:a.tmps.getD 35 undef=.pointer (some ⟨Zb,1,none⟩):=(h 35).trans (by simp[upF,f3,f4]);have q0:a.tmps[35]?.getD undef=.pointer (some ⟨Zb,1,none⟩):=(by rw[←Array.getD_eq_getD_getElem?];exact e0);clear h;rw[hP];go_simp) (fun a W' h hc e he=>by have hm:=mem_listed he;have e0:a.tmps.getD 35 undef=.pointer (some ⟨Zb,1,none⟩):=(h 35).trans (by simp[upF,f3,f4]);have q0:a.tmps[35]?.getD undef=.pointer (some ⟨Zb,1,none⟩):=(by rw[←Array.getD_eq_getD_getElem?];exact e0);clear h;rw[hP]at hm;simp[go_sem,Act.eval,e0,hc,-Array.getD_eq_getD_getElem?]at hm;exact hm) fun a hs'=>?_
 replace hs:=hs'
 clear hs'
 refine path_slot_at hH hs (.int .i64 3) rfl rfl (by decide) (fun a h=>by have e0:a.tmps.getD 33 undef=.bool false:=(h 33).trans (by simp[upF,f3,f4]);have q0:a.tmps[33]?.getD undef=.bool false:=(by rw[←Array.getD_eq_getD_getElem?];exact e0);have r0:=slot_bool q0;clear h;simp[Region.wanted,yielded,r0]) hke (fun a W' h=>by have e0:a.tmps.getD 36 undef=.slice (some ⟨T 1,0,none⟩) 3 3:=(h 36).trans (by simp[upF,f3,f4]);have q0:a.tmps[36]?.getD undef=.slice (some ⟨T 1,0,none⟩) 3 3:=(by rw[←Array.getD_eq_getD_getElem?];exact e0);clear h;rw[hP];go_simp<;>omega) (fun a W' h e he=>by have hm:=mem_listed he;have e0:a.tmps.getD 36 undef=.slice (some ⟨T 1,0,none⟩) 3 3:=(h 36).trans (by simp[upF,f3,f4]);have q0:a.tmps[36]?.getD undef=.slice (some ⟨T 1,0,none⟩) 3 3:=(by rw[←Array.getD_eq_getD_getElem?];exact e0);clear h;rw[hP]at hm;simp[go_sem,Act.eval,e0,-Array.getD_eq_getD_getElem?]at hm) fun a hs'=>?_
 replace hs:=hs'
 clear hs'
 refine path_slot_at hH hs (.bool false) rfl rfl (by decide) (fun a h=>by have e0:a.tmps.getD 33 undef=.bool false:=(h 33).trans (by simp[upF,f3,f4]);have q0:a.tmps[33]?.getD undef=.bool false:=(by rw[←Array.getD_eq_getD_getElem?];exact e0);have r0:=slot_bool q0;clear h;simp[Region.wanted,yielded,r0]) hke (fun a W' h=>by have e0:a.tmps.getD 37 undef=.int .i64 3:=(h 37).trans (by simp[upF,f3,f4]);have q0:a.tmps[37]?.getD undef=.int .i64 3:=(by rw[←Array.getD_eq_getD_getElem?];exact e0);clear h;rw[hP];go_simp<;>omega) (fun a W' h e he=>by have hm:=mem_listed he;have e0:a.tmps.getD 37 undef=.int .i64 3:=(h 37).trans (by simp[upF,f3,f4]);have q0:a.tmps[37]?.getD undef=.int .i64 3:=(by rw[←Array.getD_eq_getD_getElem?];exact e0);clear h;rw[hP]at hm;simp[go_sem,Act.eval,e0,-Array.getD_eq_getD_getElem?]at hm) fun a hs'=>?_
 replace hs:=hs'
 clear hs'
 refine path_slot hH hs (.bool false) rfl rfl (by decide) (fun _=>rfl) hke (fun a W' h=>by have e0:a.tmps.getD 33 undef=.bool false:=(h 33).trans (by simp[upF,f3,f4]);have q0:a.tmps[33]?.getD undef=.bool false:=(by rw[←Array.getD_eq_getD_getElem?];exact e0);have e1:a.tmps.getD 38 undef=.bool false:=(h 38).trans (by simp[upF,f3,f4]);have q1:a.tmps[38]?.getD undef=.bool false:=(by rw[←Array.getD_eq_getD_getElem?];exact e1);clear h;rw[hP];go_simp<;>omega) (fun a W' h e he=>by have hm:=mem_listed he;have e0:a.tmps.getD 33 undef=.bool false:=(h 33).trans (by simp[upF,f3,f4]);have q0:a.tmps[33]?.getD undef=.bool false:=(by rw[←Array.getD_eq_getD_getElem?];exact e0);have e1:a.tmps.getD 38 undef=.bool false:=(h 38).trans (by simp[upF,f3,f4]);have q1:a.tmps[38]?.getD undef=.bool false:=(by rw[←Array.getD_eq_getD_getElem?];exact e1);clear h;rw[hP]at hm;simp[go_sem,Act.eval,e0,e1,-Array.getD_eq_getD_getElem?]at hm) fun a hs'=>?_
 replace hs:=hs'
 clear hs'
 refine path_slot hH hs (.bool false) rfl rfl (by decide) (fun _=>rfl) hke (fun a W' h=>by have e0:a.tmps.getD 39 undef=.bool false:=(h 39).trans (by simp[upF,f3,f4]);have q0:a.tmps[39]?.getD undef=.bool false:=(by rw[←Array.getD_eq_getD_getElem?];exact e0);clear h;rw[hP];go_simp<;>omega) (fun a W' h e he=>by have hm:=mem_listed he;have e0:a.tmps.getD 39 undef=.bool false:=(h 39).trans (by simp[upF,f3,f4]);have q0:a.tmps[39]?.getD undef=.bool false:=(by rw[←Array.getD_eq_getD_getElem?];exact e0);clear h;rw[hP]at hm;simp[go_sem,Act.eval,e0,-Array.getD_eq_getD_getElem?]at hm) fun a hs'=>?_
 replace hs:=hs'
 clear hs'
 refine path_slot_at hH hs (.slice (some ⟨Zb,0,none⟩) 2 2) rfl rfl (by decide) (fun a h=>by have e0:a.tmps.getD 40 undef=.bool false:=(h 40).trans (by simp[upF,f3,f4]);have q0:a.tmps[40]?.getD undef=.bool false:=(by rw[←Array.getD_eq_getD_getElem?];exact e0);have r0:=slot_bool q0;clear h;simp[Region.wanted,yielded,r0]) hke (fun a W' h=>by have e0:a.tmps.getD 3 undef=.slice (some ⟨Zb,0,none⟩) 2 2:=(h 3).trans (by simp[upF,f3,f4]);have q0:a.tmps[3]?.getD undef=.slice (some ⟨Zb,0,none⟩) 2 2:=(by rw[←Array.getD_eq_getD_getElem?];exact e0);clear h;rw[hP];go_simp<;>omega) (fun a W' h e he=>by have hm:=mem_listed he;have e0:a.tmps.getD 3 undef=.slice (some ⟨Zb,0,none⟩) 2 2:=(h 3).trans (by simp[upF,f3,f4]);have q0:a.tmps[3]?.getD undef=.slice (some ⟨Zb,0,none⟩) 2 2:=(by rw[←Array.getD_eq_getD_getElem?];exact e0);clear h;rw[hP]at hm;simp[go_sem,Act.eval,e0,-Array.getD_eq_getD_getElem?]at hm) fun a hs'=>?_
 replace hs:=hs'
 clear hs'
 refine path_slot_at hH hs (.pointer (some ⟨Zb,1,none⟩)) rfl rfl (by decide) (fun a h=>by have e0:a.tmps.getD 40 undef=.bool false:=(h 40).trans (by simp[upF,f3,f4]);have q0:a.tmps[40]?.getD undef=.bool false:=(by rw[←Array.getD_eq_getD_getElem?];exact e0);have r0:=slot_bool q0;clear h;simp[Region.wanted,yielded,r0]) hke (fun a W' h=>by have e0:a.tmps.getD 41 undef=.slice (some ⟨Zb,0,none⟩) 2 2:=(h 41).trans (by simp[upF,f3,f4]);have q0:a.tmps[41]?.getD undef=.slice (some ⟨Zb,0,none⟩) 2 2:=(by rw[←Array.getD_eq_getD_getElem?];exact e0);clear h;rw[hP];go_simp<;>omega) (fun a W' h e he=>by have hm:=mem_listed he;have e0:a.tmps.getD 41 undef=.slice (some ⟨Zb,0,none⟩) 2 2:=(h 41).trans (by simp[upF,f3,f4]);have q0:a.tmps[41]?.getD undef=.slice (some ⟨Zb,0,none⟩) 2 2:=(by rw[←Array.getD_eq_getD_getElem?];exact e0);clear h;rw[hP]at hm;simp[go_sem,Act.eval,e0,-Array.getD_eq_getD_getElem?]at hm) fun a hs'=>?_
 replace hs:=hs'
 clear hs'
 refine path_slot_read_at hH hs (ad:=⟨Zb,1,none⟩) (kz) (cz) rfl rfl (by decide) (fun a h=>by have e0:a.tmps.getD 40 undef=.bool false:=(h 40).trans (by simp[upF,f3,f4]);have q0:a.tmps[40]?.getD undef=.bool false:=(by rw[←Array.getD_eq_getD_getElem?];exact e0);have r0:=slot_bool q0;clear h;simp[Region.wanted,yielded,r0]) hke (fun a W' h hc=>by have e0:a.tmps.getD 42 undef=.pointer (some ⟨Zb,1,none⟩):=(h 42).trans (by simp[upF,f3,f4]);have q0:a.tmps[42]?.getD undef=.pointer (some ⟨Zb,1,none⟩):=(by rw[←Array.getD_eq_getD_getElem?];exact e0);clear h;rw[hP];go_simp) (fun a W' h hc e he=>by have hm:=mem_listed he;have e0:a.tmps.getD 42 undef=.pointer (some ⟨Zb,1,none⟩):=(h 42).trans (by simp[upF,f3,f4]);have q0:a.tmps[42]?.getD undef=.pointer (some ⟨Zb,1,none⟩):=(by rw[←Array.getD_eq_getD_getElem?];exact e0);clear h;rw[hP]at hm;simp[go_sem,Act.eval,e0,hc,-Array.getD_eq_getD_getElem?]at hm;exact hm) fun a hs'=>?_
 replace hs:=hs'
 clear hs'
 refine path_slot_at hH hs (.pointer (some ⟨T 1,2,none⟩)) rfl rfl (by decide) (fun a h=>by have e0:a.tmps.getD 40 undef=.bool false:=(h 40).trans (by simp[upF,f3,f4]);have q0:a.tmps[40]?.getD undef=.bool false:=(by rw[←Array.getD_eq_getD_getElem?];exact e0);have r0:=slot_bool q0;clear h;simp[Region.wanted,yielded,r0]) hke (fun a W' h=>by have e0:a.tmps.getD 43 undef=.slice (some ⟨T 1,0,none⟩) 3 3:=(h 43).trans (by simp[upF,f3,f4]);have q0:a.tmps[43]?.getD undef=.slice (some ⟨T 1,0,none⟩) 3 3:=(by rw[←Array.getD_eq_getD_getElem?];exact e0);clear h;rw[hP];go_simp<;>omega) (fun a W' h e he=>by have hm:=mem_listed he;have e0:a.tmps.getD 43 undef=.slice (some ⟨T 1,0,none⟩) 3 3:=(h 43).trans (by simp[upF,f3,f4]);have q0:a.tmps[43]?.getD undef=.slice (some ⟨T 1,0,none⟩) 3 3:=(by rw[←Array.getD_eq_getD_getElem?];exact e0);clear h;rw[hP]at hm;simp[go_sem,Act.eval,e0,-Array.getD_eq_getD_getElem?]at hm) fun a hs'=>?_
 replace hs:=hs'
 clear hs'
 refine path_slot_read_at hH hs (ad:=⟨T 1,2,none⟩) (kt) (ct) rfl rfl (by decide) (fun a h=>by have e0:a.tmps.getD 40 undef=.bool false:=(h 40).trans (by simp[upF,f3,f4]);have q0:a.tmps[40]?.getD undef=.bool false:=(by rw[←Array.getD_eq_getD_getElem?];exact e0);have r0:=slot_bool q0;clear h;simp[Region.wanted,yielded,r0]) hke (fun a W' h hc=>by have e0:a.tmps.getD 44 undef=.pointer (some ⟨T 1,2,none⟩):=(h 44).trans (by simp[upF,f3,f4]);have q0:a.tmps[44]?.getD undef=.pointer (some ⟨T 1,2,none⟩):=(by rw[←Array.getD_eq_getD_getElem?];exact e0);clear h;rw[hP];go_simp) (fun a W' h hc e he=>by have hm:=mem_listed he;have e0:a.tmps.getD 44 undef=.pointer (some ⟨T 1,2,none⟩):=(h 44).trans (by simp[upF,f3,f4]);have q0:a.tmps[44]?.getD undef=.pointer (some ⟨T 1,2,none⟩):=(by rw[←Array.getD_eq_getD_getElem?];exact e0);clear h;rw[hP]at hm;simp[go_sem,Act.eval,e0,hc,-Array.getD_eq_getD_getElem?]at hm;exact hm) fun a hs'=>?_
 replace hs:=hs'
 clear hs'
 refine path_slot_at hH hs (.bool false) rfl rfl (by decide) (fun a h=>by have e0:a.tmps.getD 40 undef=.bool false:=(h 40).trans (by simp[upF,f3,f4]);have q0:a.tmps[40]?.getD undef=.bool false:=(by rw[←Array.getD_eq_getD_getElem?];exact e0);have r0:=slot_bool q0;clear h;simp[Region.wanted,yielded,r0]) hke (fun a W' h=>by have e0:a.tmps.getD 45 undef=.int .i64 33:=(h 45).trans (by simp[upF,f3,f4]);have q0:a.tmps[45]?.getD undef=.int .i64 33:=(by rw[←Array.getD_eq_getD_getElem?];exact e0);clear h;rw[hP];go_simp<;>omega) (fun a W' h e he=>by have hm:=mem_listed he;have e0:a.tmps.getD 45 undef=.int .i64 33:=(h 45).trans (by simp[upF,f3,f4]);have q0:a.tmps[45]?.getD undef=.int .i64 33:=(by rw[←Array.getD_eq_getD_getElem?];exact e0);clear h;rw[hP]at hm;simp[go_sem,Act.eval,e0,-Array.getD_eq_getD_getElem?]at hm) fun a hs'=>?_
 replace hs:=hs'
 clear hs'
 refine path_slot hH hs (.bool false) rfl rfl (by decide) (fun _=>rfl) hke (fun a W' h=>by have e0:a.tmps.getD 40 undef=.bool false:=(h 40).trans (by simp[upF,f3,f4]);have q0:a.tmps[40]?.getD undef=.bool false:=(by rw[←Array.getD_eq_getD_getElem?];exact e0);have e1:a.tmps.getD 46 undef=.bool false:=(h 46).trans (by simp[upF,f3,f4]);have q1:a.tmps[46]?.getD undef=.bool false:=(by rw[←Array.getD_eq_getD_getElem?];exact e1);clear h;rw[hP];go_simp<;>omega) (fun a W' h e he=>by have hm:=mem_listed he;have e0:a.tmps.getD 40 undef=.bool false:=(h 40).trans (by simp[upF,f3,f4]);have q0:a.tmps[40]?.getD undef=.bool false:=(by rw[←Array.getD_eq_getD_getElem?];exact e0);have e1:a.tmps.getD 46 undef=.bool false:=(h 46).trans (by simp[upF,f3,f4]);have q1:a.tmps[46]?.getD undef=.bool false:=(by rw[←Array.getD_eq_getD_getElem?];exact e1);clear h;rw[hP]at hm;simp[go_sem,Act.eval,e0,e1,-Array.getD_eq_getD_getElem?]at hm) fun a hs'=>?_
 replace hs:=hs'
 clear hs'
 refine path_region_end hH ?_
 refine path_cond hH (t:=false) ((hs.at_ 47).trans (by simp[upF])) ?_
 refine path_skip hH ?_
 exact hend _ _ hs (by simp[upF,f0])
end Go.Proofs.Ytniloklglpchfai
