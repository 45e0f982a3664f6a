/- The law RingsPlain behind its second Sum. -/
import Derived.Test.YtniloklglpchfaiRgBJ
namespace Go.Proofs.Ytniloklglpchfai
open Go Go.RowKit Go.Conc
def IsRd (c:Code):Prop:=c=List.foldl stepC ((Try.f3).body.getD .skip) [1,1,1,1,1,1,1,1,1,1,1,0]
def IsRg (c:Code):Prop:=c=List.foldl stepC ((Try.f3).body.getD .skip) [1,1,1,1,1,1,1,1,1,1,1,1]
theorem Parts.alone{W w0:World}{Pb po c n:Nat}{us:Nat→Value}{O:Nat→Option Nat}{ps:Nat→List Int}{K ow:Nat→Prop}(h:Parts W Pb po c n us O ps)(hk:∀B,kP Pb c O B→K B)(h0:Alone W K ow noP w0):(∀i,i<c→w0.cell? ⟨Pb,po+i,none⟩=some (us i))∧∀i,i<c→I_ w0 (us i) (ps i):=by
 obtain ⟨pc,pe,pz,hp1,hp2,hp3⟩:=h.row
 refine ⟨fun i hi=>h0.cell (by rw[Joins.cell_of_block hp1];exact hp3 i hi) ((h.kv hi (ch:=noP)).mono hk (fun _=>id)),fun i hi=>?_⟩
 have hl:=h.len i hi
 rcases h.own i hi with ⟨-,q,q2⟩|⟨B',off,cp,cs,e',z,q1,q2,q3,q4,q5,q6,q7,q8⟩
 ·rw[q,q2]
  exact I_.nil w0
 ·refine ⟨some ⟨B',off,none⟩,cp,by rw[q2,hl],by omega,q4,.inr ⟨B',off,rfl,fun j y hj=>h0.cell ?_ trivial⟩⟩
  rw[Joins.cell_of_block q5]
  exact q8 j y hj
theorem FrZ.there{W W' w w0 V:World}{K:Nat→Prop}{r:Nat→Nat}{fl gl:List Nat}(h:Over Try.prog fl gl W K noP noP r V w W')(h0:Alone W K noP noP w0)(hK:Lies W K)(hg0:G0≤W.heap.size)(hb:Below w0.heap.size w0 w){v:Value}{zs:List Int}(hz:FrZ w w0.heap.size v zs):
  ∃K':Nat→Prop,(∀B,K B→K' B)∧Lies W' K'∧(∀B,K B→StillB W B W'.heap[B]?)∧W.heap.size≤W'.heap.size∧(∀B,K' B→knB W W' K r B)∧I_ W' (rnV r v) zs∧KV K' noP (rnV r v):=by
 obtain ⟨hgr,hK1,hS1,hkn⟩:=h.kept h0 hK hg0 hb
 have hsz:=h0.size
 rcases hz.over h (by omega) with ⟨q1,q2,rfl⟩|⟨B,cap,more,z,q1,q2,q3,q4,q5,q6,q7,q8⟩
 ·rw[q2]
  exact ⟨K,fun B q=>q,hK1,hS1,hgr,hkn,I_.nil _,fun x hx=>by cases hx⟩
 ·rw[q2]
  refine ⟨fun b=>K b∨b=B,fun b q=>.inl q,fun b q=>?_,hS1,hgr,fun b q=>?_,⟨some ⟨B,0,none⟩,cap,rfl,by omega,q4,.inr ⟨B,0,rfl,fun j y hj=>?_⟩⟩,fun x hx=>by cases hx;exact ⟨.inr rfl,rfl⟩⟩
  ·rcases q with q|rfl
   ·exact hK1 b q
   ·exact ⟨_,_,z,q6,fun i a1 a2=>by omega,by omega⟩
  ·rcases q with q|rfl
   ·exact hkn b q
   ·exact q8
  ·rw[Joins.cell_of_block q6]
   exact ints_cells hj
theorem knB_here{W W':World}{K:Nat→Prop}{r:Nat→Nat}:Here W' (knB W W' K r) (knB W W' noP r):=⟨fun B q=>q.1,fun B q=>⟨q.1,by obtain ⟨-,b,q1,q2⟩:=q;exact ⟨b,q1.imp id (fun q=>q.elim),q2⟩⟩⟩
set_option linter.unusedSimpArgs false in
set_option linter.unusedVariables false in
set_option maxRecDepth 100000 in
set_option maxHeartbeats 8000000 in
theorem plain_any{D:Code}(hD:IsRd D){a0:Act}(hz:a0.tmps.size=149)(hd:a0.defers=[])(Pb cap c n:Nat)(us:Nat→Value)(ps:Nat→List Int)(w:World)(h6:a0.tmps.getD 6 undef=.slice (some ⟨Pb,0,none⟩) c cap)(h13:a0.tmps.getD 13 undef=.slice none 0 0)(hc1:1≤c)(hc6:c≤6)(hn:n≤60)(hr:∀i,i<c→w.cell? ⟨Pb,0+i,none⟩=some (us i))(hu:∀i,i<c→I_ w (us i) (ps i))(hl:∀i,i<c→(ps i).length=n)(hB:∀i,i<c→∀x,x∈ps i→-268435455≤x∧x≤268435455):
  D.wp Try.prog (fun e a' w'=>e=.normal∧∃v13,FrZ w' w.heap.size v13 (sumX n c ps)∧Below w.heap.size w w'∧a'.defers=[]∧a'.tmps.size=149∧a'.tmps[10]?=some (a0.tmps.getD 10 undef)∧a'.tmps[11]?=some (a0.tmps.getD 11 undef)∧a'.tmps[13]?=some v13) a0 w:=by
 have hs:Slots a0 149 (fun k=>a0.tmps.getD k undef):=⟨hz,fun _=>rfl,hd⟩
 obtain ⟨g,hg⟩:∃g:Nat→Value,g=fun k=>a0.tmps.getD k undef:=⟨_,rfl⟩
 have e10:a0.tmps.getD 10 undef=g 10:=by rw[hg]
 have e11:a0.tmps.getD 11 undef=g 11:=by rw[hg]
 have e6:g 6=.slice (some ⟨Pb,0,none⟩) c cap:=by rw[hg];exact h6
 have e13:g 13=.slice none 0 0:=by rw[hg];exact h13
 have ha:=hs.list
 rw[←hg]at ha
 rw[e10,e11]
 clear e10 e11 h6 h13 hs hz hd hg
 unfold IsRd at hD
 subst hD
 have e:((List.range 149).map g).toArray=#[g 0,g 1,g 2,g 3,g 4,g 5,.slice (some ⟨Pb,0,none⟩) c cap,g 7,g 8,g 9,g 10,g 11,g 12,.slice none 0 0,g 14,g 15,g 16,g 17,g 18,g 19,g 20,g 21,g 22,g 23,g 24,g 25,g 26,g 27,g 28,g 29,g 30,g 31,g 32,g 33,g 34,g 35,g 36,g 37,g 38,g 39,g 40,g 41,g 42,g 43,g 44,g 45,g 46,g 47,g 48,g 49,g 50,g 51,g 52,g 53,g 54,g 55,g 56,g 57,g 58,g 59,g 60,g 61,g 62,g 63,g 64,g 65,g 66,g 67,g 68,g 69,g 70,g 71,g 72,g 73,g 74,g 75,g 76,g 77,g 78,g 79,g 80,g 81,g 82,g 83,g 84,g 85,g 86,g 87,g 88,g 89,g 90,g 91,g 92,g 93,g 94,g 95,g 96,g 97,g 98,g 99,g 100,g 101,g 102,g 103,g 104,g 105,g 106,g 107,g 108,g 109,g 110,g 111,g 112,g 113,g 114,g 115,g 116,g 117,g 118,g 119,g 120,g 121,g 122,g 123,g 124,g 125,g 126,g 127,g 128,g 129,g 130,g 131,g 132,g 133,g 134,g 135,g 136,g 137,g 138,g 139,g 140,g 141,g 142,g 143,g 144,g 145,g 146,g 147,g 148]:=by
  rw[←e6,←e13]
  rfl
 rw[ha,e]
 refine plain_piece Pb cap c n us ps w _ hc1 hc6 hn hr hu hl hB ?_
 intro v13 v14 v15 v16 v105 v106 v107 v108 v109 v110 v111 v112 v113 v114 v115 v116 v117 v118 v119 v120 v121 v122 v123 v124 v125 v126 v127 v128 v129 v130 v131 wx ho hb
 exact ⟨rfl,v13,ho,hb,rfl,rfl,rfl,rfl,rfl⟩
set_option linter.unusedSimpArgs false in
set_option linter.unusedVariables false in
set_option maxRecDepth 100000 in
set_option maxHeartbeats 8000000 in
theorem rp_third{W0 W:World}{kp:Nat→Prop}{pv:Value}{Qb cap c n:Nat}{us:Nat→Value}{O:Nat→Option Nat}{qs:Nat→List Int}{Zb:Nat}{T:Nat→Nat}(St:RpSt W0 W kp Qb c n us O qs Zb T)(hc1:1≤c)(hc6:c≤6)(hn:n≤60)(hcc:c≤cap)(hcm:cap≤maxLen)(hB:∀i,i<c→∀x,x∈qs i→-268435455≤x∧x≤268435455)(hpv:∃a0 k0,pv=.slice a0 c k0){U:Code}(hU:IsRt U){a:Act}{f:Nat→Value}(hs:Slots a 149 f)(f0:f 0=pv)(f6:f 6=.slice (some ⟨Qb,0,none⟩) c cap)(f10:f 10=.slice (some ⟨Zb,0,none⟩) c c)(f4:f 4=.nilIface):
  ∃ρ,Path (mkE Try.prog rgF rgF) (FinT W0 kp) 400 ρ (G ((base 3).at a [.code U]) []) W (kS (fun B=>kp B∨kP Qb c O B) c Zb T) (oS c Zb T):=by
 have hP:(mkE Try.prog rgF rgF).P=Try.prog:=rfl
 have hke:(base 3).kind≠.early:=by decide
 obtain ⟨pa,pk,rfl⟩:=hpv
 obtain ⟨K5,hK5⟩:=gM (kS (fun B=>kp B∨kP Qb c O B) c Zb T)
 have hL5:Lies W K5:=by rw[hK5];exact St.lies
 have hkQ:∀B,kP Qb c O B→K5 B:=fun B q=>by rw[hK5];exact .inl (.inr q)
 have hkp5:∀B,kp B→K5 B:=fun B q=>by rw[hK5];exact .inl (.inl q)
 have hkz:K5 Zb:=by rw[hK5];exact .inr (.inl rfl)
 have hkt:∀i,i<c→K5 (T i):=fun i hi=>by rw[hK5];exact .inr (.inr ⟨i,hi,rfl⟩)
 rw[←hK5]
 have hH:Here W K5 (oS c Zb T):=⟨fun B q=>hL5.lt q,fun B q=>by
  rcases q with rfl|⟨i,hi,rfl⟩
  ·exact hkz
  ·exact hkt i hi⟩
 have hg0:=St.g0
 have hr0:∀i,i<c→W.cell? ⟨Zb,i,none⟩=some (.slice (some ⟨T i,0,none⟩) n n):=fun i hi=>by
  obtain ⟨z,h⟩:=St.row
  rw[Joins.cell_of_block h]
  simp[List.getElem?_map,List.getElem?_range hi]
 have hSl:(sumX n c qs).length=n:=sumX_len
 have hts:∀i,i<c→I_ W (.slice (some ⟨T i,0,none⟩) n n) (sumX n c qs):=fun i hi=>by
  obtain ⟨z,h⟩:=St.ts i hi
  refine ⟨some ⟨T i,0,none⟩,n,by rw[hSl],by omega,by unfold maxLen;omega,.inr ⟨T i,0,rfl,fun j x hx=>?_⟩⟩
  rw[Joins.cell_of_block h]
  simp[hx]
 have hfin:hvX 3 c qs=sumX n c qs:=hvX_plain 3 c qs hc1 (by omega) hc6 St.parts.len hB
 obtain ⟨X,hX⟩:=gM (sumX n c qs)
 rw[←hX]at hts hfin hSl
 obtain ⟨D,hD⟩:∃D,IsRd D:=⟨_,rfl⟩
 obtain ⟨Y,hY⟩:∃Y,IsRg Y:=⟨_,rfl⟩
 have hD':=hD
 have hY':=hY
 unfold IsRt at hU
 unfold IsRd at hD'
 unfold IsRg at hY'
 simp only[Try.f3,Option.getD_some,List.foldl,stepC]at hU hD' hY'
 subst hU
 refine path_seq hH ?_
 refine path_region hH rfl ?_
 refine path_slot hH hs (.slice (some ⟨Qb,0,none⟩) c cap) rfl rfl (by decide) (fun _=>rfl) hke (fun a W' h=>by have e0:a.tmps.getD 6 undef=.slice (some ⟨Qb,0,none⟩) c cap:=(h 6).trans (by simp[upF,f6]);have q0:a.tmps[6]?.getD undef=.slice (some ⟨Qb,0,none⟩) c cap:=(by rw[←Array.getD_eq_getD_getElem?];exact e0);clear h;rw[hP];go_simp<;>omega) (fun a W' h e he=>by have hm:=mem_listed he;have e0:a.tmps.getD 6 undef=.slice (some ⟨Qb,0,none⟩) c cap:=(h 6).trans (by simp[upF,f6]);have q0:a.tmps[6]?.getD undef=.slice (some ⟨Qb,0,none⟩) c cap:=(by rw[←Array.getD_eq_getD_getElem?];exact e0);clear h;rw[hP]at hm;simp[go_sem,Act.eval,e0,-Array.getD_eq_getD_getElem?]at hm) fun a hs'=>?_
 replace hs:=hs'
 clear hs'
 refine path_call rg_env hH.knl (fun B q=>q) (fun B q=>q.elim) (hL5.geo hg0) hL5.rdy hs #[.slice (some ⟨Qb,0,none⟩) c cap] rfl rfl (by decide) (fun _=>rfl) hke rfl (by decide) Try.func6 rfl rfl (fun a h=>?_) (fun v hv=>?_) (R:=fun v w=>∃w0 s,Alone W K5 noP noP w0∧v=.tuple #[s,.nilIface]∧FrZ w w0.heap.size s X∧Below w0.heap.size w0 w) (fun w0 h0=>?_) fun r V W1 w v hov hv hR a hs'=>?_
 ·have e0:a.tmps.getD 88 undef=.slice (some ⟨Qb,0,none⟩) c cap:=(h 88).trans (by simp[upF])
  simp[Act.eval,e0,-Array.getD_eq_getD_getElem?]
 ·simp only[List.mem_toArray,List.mem_cons,List.not_mem_nil,or_false]at hv
  subst hv
  exact fun x hx=>by cases hx;exact ⟨hkQ _ (.inl rfl),rfl⟩
 ·obtain ⟨q1,q2⟩:=St.parts.alone hkQ h0
  refine (tree_any Qb 0 cap c n us qs w0 hc1 hc6 hn hcc hcm q1 (fun i hi=>⟨q2 i hi,St.nok i hi⟩) St.parts.len (fun i hi x hx=>by have:=hB i hi x hx;omega)).mono ?_
  rintro e w' ⟨s,rfl,h1,h2⟩
  rw[hfin]at h1
  exact ⟨_,rfl,w0,s,h0,rfl,h1,h2⟩
 obtain ⟨w0,s,h0,rfl,hz,hb⟩:=hR
 obtain ⟨K6,hK56,hL6,hS6,hgr6,hkn6,hti,htk⟩:=hz.there hov h0 hL5 hg0 hb
 obtain ⟨tv,htv⟩:=gM (rnV r s)
 rw[←htv]at hti htk
 have e9:rnV r (.tuple #[s,.nilIface])=.tuple #[tv,.nilIface]:=by rw[htv];simp[rnV]
 rw[e9]at hs'
 replace hs:=hs'
 clear hs' hH e9
 have hH:Here W1 (knB W W1 K5 r) (knB W W1 noP r):=knB_here
 refine path_slot hH hs (.tuple #[tv,.nilIface]) rfl rfl (by decide) (fun _=>rfl) hke (fun a W' h=>by have e0:a.tmps.getD 89 undef=.tuple #[tv,.nilIface]:=(h 89).trans (by simp[upF]);have q0:a.tmps[89]?.getD undef=.tuple #[tv,.nilIface]:=(by rw[←Array.getD_eq_getD_getElem?];exact e0);clear h;rw[hP];go_simp<;>omega) (fun a W' h e he=>by have hm:=mem_listed he;have e0:a.tmps.getD 89 undef=.tuple #[tv,.nilIface]:=(h 89).trans (by simp[upF]);have q0:a.tmps[89]?.getD undef=.tuple #[tv,.nilIface]:=(by rw[←Array.getD_eq_getD_getElem?];exact e0);clear h;rw[hP]at hm;simp[go_sem,Act.eval,e0,-Array.getD_eq_getD_getElem?]at hm) fun a hs'=>?_
 replace hs:=hs'
 clear hs'
 refine path_slot hH hs (tv) rfl rfl (by decide) (fun _=>rfl) hke (fun a W' h=>by have e0:a.tmps.getD 87 undef=.tuple #[tv,.nilIface]:=(h 87).trans (by simp[upF]);have q0:a.tmps[87]?.getD undef=.tuple #[tv,.nilIface]:=(by rw[←Array.getD_eq_getD_getElem?];exact e0);clear h;rw[hP];go_simp<;>omega) (fun a W' h e he=>by have hm:=mem_listed he;have e0:a.tmps.getD 87 undef=.tuple #[tv,.nilIface]:=(h 87).trans (by simp[upF]);have q0:a.tmps[87]?.getD undef=.tuple #[tv,.nilIface]:=(by rw[←Array.getD_eq_getD_getElem?];exact e0);clear h;rw[hP]at hm;simp[go_sem,Act.eval,e0,-Array.getD_eq_getD_getElem?]at hm) fun a hs'=>?_
 replace hs:=hs'
 clear hs'
 refine path_slot hH hs (.nilIface) rfl rfl (by decide) (fun _=>rfl) hke (fun a W' h=>by have e0:a.tmps.getD 87 undef=.tuple #[tv,.nilIface]:=(h 87).trans (by simp[upF]);have q0:a.tmps[87]?.getD undef=.tuple #[tv,.nilIface]:=(by rw[←Array.getD_eq_getD_getElem?];exact e0);clear h;rw[hP];go_simp<;>omega) (fun a W' h e he=>by have hm:=mem_listed he;have e0:a.tmps.getD 87 undef=.tuple #[tv,.nilIface]:=(h 87).trans (by simp[upF]);have q0:a.tmps[87]?.getD undef=.tuple #[tv,.nilIface]:=(by rw[←Array.getD_eq_getD_getElem?];exact e0);clear h;rw[hP]at hm;simp[go_sem,Act.eval,e0,-Array.getD_eq_getD_getElem?]at hm) fun a hs'=>?_
 replace hs:=hs'
 clear hs'
 refine path_slot hH hs (tv) rfl rfl (by decide) (fun _=>rfl) hke (fun a W' h=>by have e0:a.tmps.getD 90 undef=tv:=(h 90).trans (by simp[upF]);have q0:a.tmps[90]?.getD undef=tv:=(by rw[←Array.getD_eq_getD_getElem?];exact e0);clear h;rw[hP];go_simp<;>omega) (fun a W' h e he=>by have hm:=mem_listed he;have e0:a.tmps.getD 90 undef=tv:=(h 90).trans (by simp[upF]);have q0:a.tmps[90]?.getD undef=tv:=(by rw[←Array.getD_eq_getD_getElem?];exact e0);clear h;rw[hP]at hm;simp[go_sem,Act.eval,e0,-Array.getD_eq_getD_getElem?]at hm) fun a hs'=>?_
 replace hs:=hs'
 clear hs'
 refine path_slot hH hs (.nilIface) rfl rfl (by decide) (fun _=>rfl) hke (fun a W' h=>by have e0:a.tmps.getD 91 undef=.nilIface:=(h 91).trans (by simp[upF]);have q0:a.tmps[91]?.getD undef=.nilIface:=(by rw[←Array.getD_eq_getD_getElem?];exact e0);clear h;rw[hP];go_simp<;>omega) (fun a W' h e he=>by have hm:=mem_listed he;have e0:a.tmps.getD 91 undef=.nilIface:=(h 91).trans (by simp[upF]);have q0:a.tmps[91]?.getD undef=.nilIface:=(by rw[←Array.getD_eq_getD_getElem?];exact e0);clear h;rw[hP]at hm;simp[go_sem,Act.eval,e0,-Array.getD_eq_getD_getElem?]at hm) fun a hs'=>?_
 replace hs:=hs'
 clear hs'
 refine path_region_end hH ?_
 refine path_seq hH ?_
 refine path_seq hH ?_
 refine path_region hH rfl ?_
 refine path_slot hH hs (.nilIface) rfl rfl (by decide) (fun _=>rfl) hke (fun a W' h=>by have e0:a.tmps.getD 4 undef=.nilIface:=(h 4).trans (by simp[upF,f4]);have q0:a.tmps[4]?.getD undef=.nilIface:=(by rw[←Array.getD_eq_getD_getElem?];exact e0);clear h;rw[hP];go_simp<;>omega) (fun a W' h e he=>by have hm:=mem_listed he;have e0:a.tmps.getD 4 undef=.nilIface:=(h 4).trans (by simp[upF,f4]);have q0:a.tmps[4]?.getD undef=.nilIface:=(by rw[←Array.getD_eq_getD_getElem?];exact e0);clear h;rw[hP]at hm;simp[go_sem,Act.eval,e0,-Array.getD_eq_getD_getElem?]at hm) fun a hs'=>?_
 replace hs:=hs'
 clear hs'
 refine path_slot hH hs (.bool false) rfl rfl (by decide) (fun _=>rfl) hke (fun a W' h=>by have e0:a.tmps.getD 92 undef=.nilIface:=(h 92).trans (by simp[upF]);have q0:a.tmps[92]?.getD undef=.nilIface:=(by rw[←Array.getD_eq_getD_getElem?];exact e0);clear h;rw[hP];go_simp<;>omega) (fun a W' h e he=>by have hm:=mem_listed he;have e0:a.tmps.getD 92 undef=.nilIface:=(h 92).trans (by simp[upF]);have q0:a.tmps[92]?.getD undef=.nilIface:=(by rw[←Array.getD_eq_getD_getElem?];exact e0);clear h;rw[hP]at hm;simp[go_sem,Act.eval,e0,-Array.getD_eq_getD_getElem?]at hm;rw[show Sem.events Try.prog (binOp BinOp.neq 24 Value.nilIface Value.nilIface) W' #[]=#[] from by first|rfl|(simp[binOp,go_sem];done)]at hm;simp at hm) fun a hs'=>?_
 replace hs:=hs'
 clear hs'
 refine path_slot hH hs (.bool false) rfl rfl (by decide) (fun _=>rfl) hke (fun a W' h=>by have e0:a.tmps.getD 93 undef=.bool false:=(h 93).trans (by simp[upF]);have q0:a.tmps[93]?.getD undef=.bool false:=(by rw[←Array.getD_eq_getD_getElem?];exact e0);clear h;rw[hP];go_simp<;>omega) (fun a W' h e he=>by have hm:=mem_listed he;have e0:a.tmps.getD 93 undef=.bool false:=(h 93).trans (by simp[upF]);have q0:a.tmps[93]?.getD undef=.bool false:=(by rw[←Array.getD_eq_getD_getElem?];exact e0);clear h;rw[hP]at hm;simp[go_sem,Act.eval,e0,-Array.getD_eq_getD_getElem?]at hm) fun a hs'=>?_
 replace hs:=hs'
 clear hs'
 refine path_slot_at hH hs (.nilIface) rfl rfl (by decide) (fun a h=>by have e0:a.tmps.getD 94 undef=.bool false:=(h 94).trans (by simp[upF]);have q0:a.tmps[94]?.getD undef=.bool false:=(by rw[←Array.getD_eq_getD_getElem?];exact e0);have r0:=slot_bool q0;clear h;simp[Region.wanted,yielded,r0]) hke (fun a W' h=>by have e0:a.tmps.getD 12 undef=.nilIface:=(h 12).trans (by simp[upF]);have q0:a.tmps[12]?.getD undef=.nilIface:=(by rw[←Array.getD_eq_getD_getElem?];exact e0);clear h;rw[hP];go_simp<;>omega) (fun a W' h e he=>by have hm:=mem_listed he;have e0:a.tmps.getD 12 undef=.nilIface:=(h 12).trans (by simp[upF]);have q0:a.tmps[12]?.getD undef=.nilIface:=(by rw[←Array.getD_eq_getD_getElem?];exact e0);clear h;rw[hP]at hm;simp[go_sem,Act.eval,e0,-Array.getD_eq_getD_getElem?]at hm) fun a hs'=>?_
 replace hs:=hs'
 clear hs'
 refine path_slot_at hH hs (.bool false) rfl rfl (by decide) (fun a h=>by have e0:a.tmps.getD 94 undef=.bool false:=(h 94).trans (by simp[upF]);have q0:a.tmps[94]?.getD undef=.bool false:=(by rw[←Array.getD_eq_getD_getElem?];exact e0);have r0:=slot_bool q0;clear h;simp[Region.wanted,yielded,r0]) hke (fun a W' h=>by have e0:a.tmps.getD 95 undef=.nilIface:=(h 95).trans (by simp[upF]);have q0:a.tmps[95]?.getD undef=.nilIface:=(by rw[←Array.getD_eq_getD_getElem?];exact e0);clear h;rw[hP];go_simp<;>omega) (fun a W' h e he=>by have hm:=mem_listed he;have e0:a.tmps.getD 95 undef=.nilIface:=(h 95).trans (by simp[upF]);have q0:a.tmps[95]?.getD undef=.nilIface:=(by rw[←Array.getD_eq_getD_getElem?];exact e0);clear h;rw[hP]at hm;simp[go_sem,Act.eval,e0,-Array.getD_eq_getD_getElem?]at hm;rw[show Sem.events Try.prog (binOp BinOp.neq 24 Value.nilIface Value.nilIface) W' #[]=#[] from by first|rfl|(simp[binOp,go_sem];done)]at hm;simp at hm) fun a hs'=>?_
 replace hs:=hs'
 clear hs'
 refine path_slot hH hs (.bool false) rfl rfl (by decide) (fun _=>rfl) hke (fun a W' h=>by have e0:a.tmps.getD 94 undef=.bool false:=(h 94).trans (by simp[upF]);have q0:a.tmps[94]?.getD undef=.bool false:=(by rw[←Array.getD_eq_getD_getElem?];exact e0);have e1:a.tmps.getD 96 undef=.bool false:=(h 96).trans (by simp[upF]);have q1:a.tmps[96]?.getD undef=.bool false:=(by rw[←Array.getD_eq_getD_getElem?];exact e1);clear h;rw[hP];go_simp<;>omega) (fun a W' h e he=>by have hm:=mem_listed he;have e0:a.tmps.getD 94 undef=.bool false:=(h 94).trans (by simp[upF]);have q0:a.tmps[94]?.getD undef=.bool false:=(by rw[←Array.getD_eq_getD_getElem?];exact e0);have e1:a.tmps.getD 96 undef=.bool false:=(h 96).trans (by simp[upF]);have q1:a.tmps[96]?.getD undef=.bool false:=(by rw[←Array.getD_eq_getD_getElem?];exact e1);clear h;rw[hP]at hm;simp[go_sem,Act.eval,e0,e1,-Array.getD_eq_getD_getElem?]at hm) fun a hs'=>?_
 replace hs:=hs'
 clear hs'
 refine path_slot hH hs (.bool false) rfl rfl (by decide) (fun _=>rfl) hke (fun a W' h=>by have e0:a.tmps.getD 97 undef=.bool false:=(h 97).trans (by simp[upF]);have q0:a.tmps[97]?.getD undef=.bool false:=(by rw[←Array.getD_eq_getD_getElem?];exact e0);clear h;rw[hP];go_simp<;>omega) (fun a W' h e he=>by have hm:=mem_listed he;have e0:a.tmps.getD 97 undef=.bool false:=(h 97).trans (by simp[upF]);have q0:a.tmps[97]?.getD undef=.bool false:=(by rw[←Array.getD_eq_getD_getElem?];exact e0);clear h;rw[hP]at hm;simp[go_sem,Act.eval,e0,-Array.getD_eq_getD_getElem?]at hm) fun a hs'=>?_
 replace hs:=hs'
 clear hs'
 refine path_slot_at hH hs (.slice (some ⟨Zb,0,none⟩) c c) rfl rfl (by decide) (fun a h=>by have e0:a.tmps.getD 98 undef=.bool false:=(h 98).trans (by simp[upF,f10]);have q0:a.tmps[98]?.getD undef=.bool false:=(by rw[←Array.getD_eq_getD_getElem?];exact e0);have r0:=slot_bool q0;clear h;simp[Region.wanted,yielded,r0]) hke (fun a W' h=>by have e0:a.tmps.getD 10 undef=.slice (some ⟨Zb,0,none⟩) c c:=(h 10).trans (by simp[upF,f10]);have q0:a.tmps[10]?.getD undef=.slice (some ⟨Zb,0,none⟩) c c:=(by rw[←Array.getD_eq_getD_getElem?];exact e0);clear h;rw[hP];go_simp<;>omega) (fun a W' h e he=>by have hm:=mem_listed he;have e0:a.tmps.getD 10 undef=.slice (some ⟨Zb,0,none⟩) c c:=(h 10).trans (by simp[upF,f10]);have q0:a.tmps[10]?.getD undef=.slice (some ⟨Zb,0,none⟩) c c:=(by rw[←Array.getD_eq_getD_getElem?];exact e0);clear h;rw[hP]at hm;simp[go_sem,Act.eval,e0,-Array.getD_eq_getD_getElem?]at hm) fun a hs'=>?_
 replace hs:=hs'
 clear hs'
 refine path_slot_at hH hs (.int .i64 (c:Int)) rfl rfl (by decide) (fun a h=>by have e0:a.tmps.getD 98 undef=.bool false:=(h 98).trans (by simp[upF]);have q0:a.tmps[98]?.getD undef=.bool false:=(by rw[←Array.getD_eq_getD_getElem?];exact e0);have r0:=slot_bool q0;clear h;simp[Region.wanted,yielded,r0]) hke (fun a W' h=>by have e0:a.tmps.getD 99 undef=.slice (some ⟨Zb,0,none⟩) c c:=(h 99).trans (by simp[upF]);have q0:a.tmps[99]?.getD undef=.slice (some ⟨Zb,0,none⟩) c c:=(by rw[←Array.getD_eq_getD_getElem?];exact e0);clear h;rw[hP];go_simp<;>omega) (fun a W' h e he=>by have hm:=mem_listed he;have e0:a.tmps.getD 99 undef=.slice (some ⟨Zb,0,none⟩) c c:=(h 99).trans (by simp[upF]);have q0:a.tmps[99]?.getD undef=.slice (some ⟨Zb,0,none⟩) c c:=(by rw[←Array.getD_eq_getD_getElem?];exact e0);clear h;rw[hP]at hm;simp[go_sem,Act.eval,e0,-Array.getD_eq_getD_getElem?]at hm) fun a hs'=>?_
 replace hs:=hs'
 clear hs'
 refine path_slot_at hH hs (.slice pa c pk) rfl rfl (by decide) (fun a h=>by have e0:a.tmps.getD 98 undef=.bool false:=(h 98).trans (by simp[upF,f0]);have q0:a.tmps[98]?.getD undef=.bool false:=(by rw[←Array.getD_eq_getD_getElem?];exact e0);have r0:=slot_bool q0;clear h;simp[Region.wanted,yielded,r0]) hke (fun a W' h=>by have e0:a.tmps.getD 0 undef=.slice pa c pk:=(h 0).trans (by simp[upF,f0]);have q0:a.tmps[0]?.getD undef=.slice pa c pk:=(by rw[←Array.getD_eq_getD_getElem?];exact e0);clear h;rw[hP];go_simp<;>omega) (fun a W' h e he=>by have hm:=mem_listed he;have e0:a.tmps.getD 0 undef=.slice pa c pk:=(h 0).trans (by simp[upF,f0]);have q0:a.tmps[0]?.getD undef=.slice pa c pk:=(by rw[←Array.getD_eq_getD_getElem?];exact e0);clear h;rw[hP]at hm;simp[go_sem,Act.eval,e0,-Array.getD_eq_getD_getElem?]at hm) fun a hs'=>?_
 replace hs:=hs'
 clear hs'
 refine path_slot_at hH hs (.int .i64 (c:Int)) rfl rfl (by decide) (fun a h=>by have e0:a.tmps.getD 98 undef=.bool false:=(h 98).trans (by simp[upF]);have q0:a.tmps[98]?.getD undef=.bool false:=(by rw[←Array.getD_eq_getD_getElem?];exact e0);have r0:=slot_bool q0;clear h;simp[Region.wanted,yielded,r0]) hke (fun a W' h=>by have e0:a.tmps.getD 101 undef=.slice pa c pk:=(h 101).trans (by simp[upF]);have q0:a.tmps[101]?.getD undef=.slice pa c pk:=(by rw[←Array.getD_eq_getD_getElem?];exact e0);clear h;rw[hP];go_simp<;>omega) (fun a W' h e he=>by have hm:=mem_listed he;have e0:a.tmps.getD 101 undef=.slice pa c pk:=(h 101).trans (by simp[upF]);have q0:a.tmps[101]?.getD undef=.slice pa c pk:=(by rw[←Array.getD_eq_getD_getElem?];exact e0);clear h;rw[hP]at hm;simp[go_sem,Act.eval,e0,-Array.getD_eq_getD_getElem?]at hm) fun a hs'=>?_
 replace hs:=hs'
 clear hs'
 refine path_slot_at hH hs (.bool false) rfl rfl (by decide) (fun a h=>by have e0:a.tmps.getD 98 undef=.bool false:=(h 98).trans (by simp[upF]);have q0:a.tmps[98]?.getD undef=.bool false:=(by rw[←Array.getD_eq_getD_getElem?];exact e0);have r0:=slot_bool q0;clear h;simp[Region.wanted,yielded,r0]) hke (fun a W' h=>by have e0:a.tmps.getD 100 undef=.int .i64 (c:Int):=(h 100).trans (by simp[upF]);have q0:a.tmps[100]?.getD undef=.int .i64 (c:Int):=(by rw[←Array.getD_eq_getD_getElem?];exact e0);have e1:a.tmps.getD 102 undef=.int .i64 (c:Int):=(h 102).trans (by simp[upF]);have q1:a.tmps[102]?.getD undef=.int .i64 (c:Int):=(by rw[←Array.getD_eq_getD_getElem?];exact e1);clear h;rw[hP];go_simp<;>(first|omega|(simp;done))) (fun a W' h e he=>by have hm:=mem_listed he;have e0:a.tmps.getD 100 undef=.int .i64 (c:Int):=(h 100).trans (by simp[upF]);have q0:a.tmps[100]?.getD undef=.int .i64 (c:Int):=(by rw[←Array.getD_eq_getD_getElem?];exact e0);have e1:a.tmps.getD 102 undef=.int .i64 (c:Int):=(h 102).trans (by simp[upF]);have q1:a.tmps[102]?.getD undef=.int .i64 (c:Int):=(by rw[←Array.getD_eq_getD_getElem?];exact e1);clear h;rw[hP]at hm;simp[go_sem,Act.eval,e0,e1,-Array.getD_eq_getD_getElem?]at hm) fun a hs'=>?_
 replace hs:=hs'
 clear hs'
 refine path_slot hH hs (.bool false) rfl rfl (by decide) (fun _=>rfl) hke (fun a W' h=>by have e0:a.tmps.getD 98 undef=.bool false:=(h 98).trans (by simp[upF]);have q0:a.tmps[98]?.getD undef=.bool false:=(by rw[←Array.getD_eq_getD_getElem?];exact e0);have e1:a.tmps.getD 103 undef=.bool false:=(h 103).trans (by simp[upF]);have q1:a.tmps[103]?.getD undef=.bool false:=(by rw[←Array.getD_eq_getD_getElem?];exact e1);clear h;rw[hP];go_simp<;>omega) (fun a W' h e he=>by have hm:=mem_listed he;have e0:a.tmps.getD 98 undef=.bool false:=(h 98).trans (by simp[upF]);have q0:a.tmps[98]?.getD undef=.bool false:=(by rw[←Array.getD_eq_getD_getElem?];exact e0);have e1:a.tmps.getD 103 undef=.bool false:=(h 103).trans (by simp[upF]);have q1:a.tmps[103]?.getD undef=.bool false:=(by rw[←Array.getD_eq_getD_getElem?];exact e1);clear h;rw[hP]at hm;simp[go_sem,Act.eval,e0,e1,-Array.getD_eq_getD_getElem?]at hm) fun a hs'=>?_
 replace hs:=hs'
 clear hs'
 refine path_region_end hH ?_
 refine path_cond hH (t:=false) ((hs.at_ 104).trans (by simp[upF])) ?_
 refine path_skip hH ?_
 refine path_seq hH ?_
 refine path_region hH rfl ?_
 refine path_slot hH hs (.slice none 0 0) rfl rfl (by decide) (fun _=>rfl) hke (fun a W' h=>by clear h;rw[hP];go_simp<;>omega) (fun a W' h e he=>by have hm:=mem_listed he;clear h;rw[hP]at hm;simp[go_sem,Act.eval,-Array.getD_eq_getD_getElem?]at hm) fun a hs'=>?_
 replace hs:=hs'
 clear hs'
 have hg1:G0≤W1.heap.size:=Nat.le_trans hg0 hgr6
 refine path_region_end_less (kn1:=K6) (ow1:=noP) hH.knl hkn6 (fun B q=>q.elim) (fun B q=>q.elim) ?_
 refine path_seq (⟨fun B q=>hL6.lt q,fun B q=>q.elim⟩:Here W1 K6 noP) ?_
 rw[←hD',←hY']
 clear hD' hY'
 obtain ⟨f1,hf1⟩:∃f1:Nat→Value,Slots _ 149 f1∧f1 6=.slice (some ⟨Qb,0,none⟩) c cap∧f1 10=.slice (some ⟨Zb,0,none⟩) c c∧f1 11=tv∧f1 13=.slice none 0 0:=⟨_,hs,by simp[upF,f6],by simp[upF,f10],by simp[upF],by simp[upF]⟩
 obtain ⟨hs1,g6,g10,g11,g13⟩:=hf1
 clear hs
 have hP1:Parts W1 Qb 0 c n us O qs:=St.parts.holdg hg1 fun B q=>(hS6 B (hkQ B q)).hold
 refine Path.up (N:=298+1) (by omega) ?_
 refine path_piece (P:=Try.prog) (fl:=[]) (gl:=[3]) rfl (by kernel_rfl) (hL6.geo hg1) (Rdy.of fun B hB=>?_) (by decide) rfl ?_ ⟨Y,rfl,?_⟩ hs1 (N:=fun a1 w=>∃w0 v13,Alone W1 K6 noP noP w0∧FrZ w w0.heap.size v13 X∧Below w0.heap.size w0 w∧a1.defers=[]∧a1.tmps.size=149∧a1.tmps[10]?=some (.slice (some ⟨Zb,0,none⟩) c c)∧a1.tmps[11]?=some tv∧a1.tmps[13]?=some v13) (fun w0 a0 h0 hd hz hat=>?_) fun r2 V2 W2 w2 a2 a' hov2 hN ht hdf=>?_
 ·obtain ⟨a,e,z,h1,h2,-⟩:=hL6 B hB
  exact ⟨a,e,z,h1,.inr ⟨id,h2⟩⟩
 ·unfold IsRd at hD
  subst hD
  kernel_rfl
 ·unfold IsRg at hY
  subst hY
  kernel_rfl
 ·have e6:=hat 6 (by rw[g6];exact (show KV K6 noP (.slice (some ⟨Qb,0,none⟩) c cap) from fun x hx=>by cases hx;exact ⟨hK56 _ (hkQ _ (.inl rfl)),rfl⟩).sv)
  have e10:=hat 10 (by rw[g10];exact (show KV K6 noP (.slice (some ⟨Zb,0,none⟩) c c) from fun x hx=>by cases hx;exact ⟨hK56 _ hkz,rfl⟩).sv)
  have e11:=hat 11 (by rw[g11];exact htk.sv)
  have e13:=hat 13 (by rw[g13];exact (show KV K6 noP (.slice none 0 0) from fun x hx=>by cases hx).sv)
  obtain ⟨q1,q2⟩:=hP1.alone (fun B q=>hK56 B (hkQ B q)) h0
  refine Code.wp_mono ?_ (plain_any hD hz hd Qb cap c n us qs w0 (e6.trans g6) (e13.trans g13) hc1 hc6 hn q1 q2 St.parts.len hB)
  rintro e a' w' ⟨rfl,v13,h1,h2,h3,h4,h5,h6,h7⟩
  rw[e10,g10]at h5
  rw[e11,g11]at h6
  rw[←hX]at h1
  exact ⟨rfl,w0,v13,h0,h1,h2,h3,h4,h5,h6,h7⟩
 obtain ⟨w3,v13,h3,hz3,hb3,hd3,hz4,s10,s11,s13⟩:=hN
 obtain ⟨K7,hK67,hL7,hS7,hgr7,hkn7,hwi,hwk⟩:=hz3.there hov2 h3 hL6 hg1 hb3
 have hs2:=slots_fin ht (hdf hd3) hz4
 obtain ⟨f2,hf2⟩:∃f2:Nat→Value,f2=fun k=>a'.tmps.getD k undef:=⟨_,rfl⟩
 rw[←hf2]at hs2
 have p10:f2 10=.slice (some ⟨Zb,0,none⟩) c c:=by
  rw[hf2]
  show a'.tmps.getD 10 undef=_
  rw[ht,Array.getD_eq_getD_getElem?,Array.getElem?_map,s10]
  exact hov2.same (fun B q=>hL6.lt q) (fun B q=>q.elim) (v:=.slice (some ⟨Zb,0,none⟩) c c) (fun x hx=>by cases hx;exact ⟨hK56 _ hkz,rfl⟩)
 have p11:f2 11=tv:=by
  rw[hf2]
  show a'.tmps.getD 11 undef=_
  rw[ht,Array.getD_eq_getD_getElem?,Array.getElem?_map,s11]
  exact hov2.same (fun B q=>hL6.lt q) (fun B q=>q.elim) htk
 have p13:f2 13=rnV r2 v13:=by
  rw[hf2]
  show a'.tmps.getD 13 undef=_
  rw[ht,Array.getD_eq_getD_getElem?,Array.getElem?_map,s13]
  rfl
 obtain ⟨E,hE⟩:∃E,IsRe E:=⟨_,rfl⟩
 obtain ⟨Fc,hF⟩:∃F,IsRf F:=⟨_,rfl⟩
 have hE':=hE
 have hF':=hF
 unfold IsRe at hE'
 unfold IsRf at hF'
 unfold IsRg at hY
 simp only[Try.f3,Option.getD_some,List.foldl,stepC]at hY hE' hF'
 subst hY
 have hH2:Here W2 (knB W1 W2 K6 r2) (knB W1 W2 noP r2):=knB_here
 have R:RpT W0 W2 kp K7 c n X Zb T tv (rnV r2 v13):=by
  have hS57:∀B,K5 B→StillB W B W2.heap[B]?:=fun B q=>(hS6 B q).trans (hS7 B (hK56 B q))
  exact ⟨Nat.le_trans hg1 hgr7,hL7,fun B q=>hK67 B (hK56 B (hkp5 B q)),fun B q=>(St.still B q).trans (hS57 B (hkp5 B q)),fun i hi=>still_cell (hS57 Zb hkz) (hr0 i hi),hK67 _ (hK56 _ hkz),fun i hi=>hK67 _ (hK56 _ (hkt i hi)),fun i hi=>ints_still (hts i hi) (fun x hx=>by cases hx;exact ⟨hkt i hi,rfl⟩) hS57,ints_still hti htk hS7,htk.mono hK67 (fun _ q=>q),hwi,hwk⟩
 refine path_seq hH2 ?_
 rw[←hE',←hF']
 refine Path.up (N:=290) (by omega) ?_
 exact rp_loop hc6 R hH2.knl hH2.owk hkn7 hE hF hs2 p10 p11 p13
end Go.Proofs.Ytniloklglpchfai
