/- The law RingsPlain from PartsFault up to its quotients. -/
import Derived.Test.YtniloklglpchfaiPkRgBD
namespace Go.Proofs.Ytniloklglpchfai
open Go Go.RowKit Go.Conc
def IsRv (c:Code):Prop:=c=sndC (sndC (sndC ((Try.f3).body.getD .skip)))
def IsRq (c:Code):Prop:=c=List.foldl stepC ((Try.f3).body.getD .skip) [1,1,1,1,1,1,0]
def IsRs (c:Code):Prop:=c=List.foldl stepC ((Try.f3).body.getD .skip) [1,1,1,1,1,1,1]
structure PVal (kp:Nat→Prop) (pv:Value) (Pb po c:Nat):Prop where
 kv:KV kp noP pv
 sh:(c=0∧∃a cap,pv=.slice a 0 cap)∨(1≤c∧c≤maxLen∧∃cap,pv=.slice (some ⟨Pb,po,none⟩) c cap)
def Fine (c:Nat) (ps:Nat→List Int):Prop:=1≤c∧c≤6∧∀i,i<c→(ps i).length=(ps 0).length∧(ps i).length≤60∧∀x∈ps i,-2147483647≤x∧x≤2147483647
theorem pf_calls{w:World}{kp:Nat→Prop}{pv:Value}{Pb po c:Nat}{us:Nat→Value}{ps:Nat→List Int}(hv:PVal kp pv Pb po c)(hr:∀i,i<c→w.cell? ⟨Pb,po+i,none⟩=some (us i))(hu:∀i,i<c→I_ w (us i) (ps i)):
  Calls Try.prog 5 #[pv] w fun e w'=>∃v,e=.returned v∧KV kp noP v∧(∃E:Int,v=.int .i64 E∧(E=0→Fine c ps))∧∃q,w'=w.drewN q:=by
 rcases hv.sh with ⟨rfl,a,cap,rfl⟩|⟨h1,h2,cap,rfl⟩
 ·refine (pf_none a cap w).mono ?_
  rintro e w' ⟨rfl,rfl⟩
  exact ⟨_,rfl,trivial,⟨1,rfl,fun e=>by cases e⟩,0,rfl⟩
 ·refine (pf_any Pb po cap c us ps w h1 h2 hr hu).mono ?_
  rintro e w' ⟨E,rfl,h3,q,rfl⟩
  exact ⟨_,rfl,trivial,⟨E,rfl,fun e=>⟨h1,(h3 e).1,(h3 e).2⟩⟩,q,rfl⟩
set_option linter.unusedSimpArgs false in
set_option linter.unusedVariables false in
set_option maxRecDepth 100000 in
set_option maxHeartbeats 4000000 in
theorem rp_parts{Goal2:Stand}{W0 W:World}{kp kn ow:Nat→Prop}{pv:Value}{Pb po c:Nat}{us:Nat→Value}{ps:Nat→List Int}(hv:PVal kp pv Pb po c)(hp:PIn W kp Pb po c us ps)(hg0:G0≤W.heap.size)(hK:Lies W kp)(hS0:∀B,kp B→StillB W0 B W.heap[B]?)(hl:∀B,kn B→B<W.heap.size)(how:∀B,ow B→kn B)(hkn:∀B,kp B→kn B){V:Code}(hV:IsRv V){a:Act}{f:Nat→Value}(hs:Slots a 149 f)(f0:f 0=pv){nE:Nat}(hnE:10≤nE)
  (hfin:∀g W kn ow,FinT W0 kp g W kn ow→Goal2 g W kn ow)
  (hend:∀W1 Z S a f,G0≤W1.heap.size→Lies W1 kp→(∀B,kp B→StillB W B W1.heap[B]?)→Fine c ps→IsRq Z→IsRs S→Slots a 149 f→f 0=pv→f 6=.slice none 0 0→∃ρ,Path (mkE Try.prog rgF rgF) Goal2 nE ρ (G ((base 3).at a [.code Z,.code S]) []) W1 kp noP):
  ∃ρ,Path (mkE Try.prog rgF rgF) Goal2 (nE+20) ρ (G ((base 3).at a [.code V]) []) W kn ow:=by
 have hP:(mkE Try.prog rgF rgF).P=Try.prog:=rfl
 have hke:(base 3).kind≠.early:=by decide
 have hH:Here W kn ow:=⟨hl,how⟩
 obtain ⟨Z,hZ⟩:∃Z,IsRq Z:=⟨_,rfl⟩
 obtain ⟨S,hSq⟩:∃S,IsRs S:=⟨_,rfl⟩
 have hZ':=hZ
 have hS':=hSq
 unfold IsRv at hV
 unfold IsRq at hZ'
 unfold IsRs at hS'
 simp only[Try.f3,Option.getD_some,sndC]at hV
 simp only[Try.f3,Option.getD_some,List.foldl,stepC]at hZ' hS'
 subst hV
 refine Path.up (N:=nE+20) (by omega) ?_
 refine path_seq hH ?_
 refine path_region hH rfl ?_
 refine path_slot hH hs (pv) rfl rfl (by decide) (fun _=>rfl) hke (fun a W' h=>by have e0:a.tmps.getD 0 undef=pv:=(h 0).trans (by simp[upF,f0]);have q0:a.tmps[0]?.getD undef=pv:=(by rw[←Array.getD_eq_getD_getElem?];exact e0);clear h;rw[hP];go_simp<;>omega) (fun a W' h e he=>by have hm:=mem_listed he;have e0:a.tmps.getD 0 undef=pv:=(h 0).trans (by simp[upF,f0]);have q0:a.tmps[0]?.getD undef=pv:=(by rw[←Array.getD_eq_getD_getElem?];exact e0);clear h;rw[hP]at hm;simp[go_sem,Act.eval,e0,-Array.getD_eq_getD_getElem?]at hm) fun a hs'=>?_
 replace hs:=hs'
 clear hs'
 refine path_quiet hg0 hK hl hkn hs #[pv] rfl rfl (by decide) (fun _=>rfl) hke rfl (by decide) Try.func5 rfl rfl (fun a h=>?_) (fun v hv'=>?_) (Q:=fun v=>∃E:Int,v=.int .i64 E∧(E=0→Fine c ps)) (fun w0 h0=>(by obtain ⟨vs,q1,q2⟩:=hp.alone (fun _ q=>q) h0;exact pf_calls hv q1 q2)) fun v W1 kn1 ow1 hQ hK1 hS1 hgr hkn1 how1 hl1 a hs'=>?_
 ·have e0:a.tmps.getD 48 undef=pv:=(h 48).trans (by simp[upF])
  simp[Act.eval,e0,-Array.getD_eq_getD_getElem?]
 ·simp only[List.mem_toArray,List.mem_cons,List.not_mem_nil,or_false]at hv'
  subst hv'
  exact hv.kv
 obtain ⟨E,rfl,hE⟩:=hQ
 replace hs:=hs'
 clear hs' hH
 have hH:Here W1 kn1 ow1:=⟨hl1,how1⟩
 refine path_slot hH hs (.int .i64 E) rfl rfl (by decide) (fun _=>rfl) hke (fun a W' h=>by have e0:a.tmps.getD 49 undef=.int .i64 E:=(h 49).trans (by simp[upF]);have q0:a.tmps[49]?.getD undef=.int .i64 E:=(by rw[←Array.getD_eq_getD_getElem?];exact e0);clear h;rw[hP];go_simp<;>omega) (fun a W' h e he=>by have hm:=mem_listed he;have e0:a.tmps.getD 49 undef=.int .i64 E:=(h 49).trans (by simp[upF]);have q0:a.tmps[49]?.getD undef=.int .i64 E:=(by rw[←Array.getD_eq_getD_getElem?];exact e0);clear h;rw[hP]at hm;simp[go_sem,Act.eval,e0,-Array.getD_eq_getD_getElem?]at hm) fun a hs'=>?_
 replace hs:=hs'
 clear hs'
 refine path_region_end hH ?_
 refine path_seq hH ?_
 refine path_seq hH ?_
 refine path_region hH rfl ?_
 refine path_slot hH hs (.int .i64 E) rfl rfl (by decide) (fun _=>rfl) hke (fun a W' h=>by have e0:a.tmps.getD 5 undef=.int .i64 E:=(h 5).trans (by simp[upF]);have q0:a.tmps[5]?.getD undef=.int .i64 E:=(by rw[←Array.getD_eq_getD_getElem?];exact e0);clear h;rw[hP];go_simp<;>omega) (fun a W' h e he=>by have hm:=mem_listed he;have e0:a.tmps.getD 5 undef=.int .i64 E:=(h 5).trans (by simp[upF]);have q0:a.tmps[5]?.getD undef=.int .i64 E:=(by rw[←Array.getD_eq_getD_getElem?];exact e0);clear h;rw[hP]at hm;simp[go_sem,Act.eval,e0,-Array.getD_eq_getD_getElem?]at hm) fun a hs'=>?_
 replace hs:=hs'
 clear hs'
 by_cases hE0:E=0
 ·subst hE0
  refine path_slot hH hs (.bool false) rfl rfl (by decide) (fun _=>rfl) hke (fun a W' h=>by have e0:a.tmps.getD 50 undef=.int .i64 0:=(h 50).trans (by simp[upF]);have q0:a.tmps[50]?.getD undef=.int .i64 0:=(by rw[←Array.getD_eq_getD_getElem?];exact e0);clear h;rw[hP];go_simp<;>omega) (fun a W' h e he=>by have hm:=mem_listed he;have e0:a.tmps.getD 50 undef=.int .i64 0:=(h 50).trans (by simp[upF]);have q0:a.tmps[50]?.getD undef=.int .i64 0:=(by rw[←Array.getD_eq_getD_getElem?];exact e0);clear h;rw[hP]at hm;simp[go_sem,Act.eval,e0,-Array.getD_eq_getD_getElem?]at hm) fun a hs'=>?_
  replace hs:=hs'
  clear hs'
  refine path_region_end hH ?_
  refine path_cond hH (t:=false) ((hs.at_ 51).trans (by simp[upF])) ?_
  refine path_skip hH ?_
  refine path_seq hH ?_
  refine path_region hH rfl ?_
  refine path_slot hH hs (.slice none 0 0) rfl rfl (by decide) (fun _=>rfl) hke (fun a W' h=>by clear h;rw[hP];go_simp<;>omega) (fun a W' h e he=>by have hm:=mem_listed he;clear h;rw[hP]at hm;simp[go_sem,Act.eval,-Array.getD_eq_getD_getElem?]at hm) fun a hs'=>?_
  replace hs:=hs'
  clear hs'
  refine path_region_end_less (kn1:=kp) (ow1:=noP) hl1 hkn1 (fun B q=>q.elim) (fun B q=>q.elim) ?_
  refine path_seq (⟨fun B q=>hK1.lt q,fun B q=>q.elim⟩:Here W1 kp noP) ?_
  refine Path.up (N:=nE) (by omega) ?_
  rw[←hZ',←hS']
  exact hend W1 Z S _ _ (Nat.le_trans hg0 hgr) hK1 hS1 (hE rfl) hZ hSq hs (by simp[upF,f0]) (by simp[upF])
 ·refine path_slot hH hs (.bool true) rfl rfl (by decide) (fun _=>rfl) hke (fun a W' h=>by have e0:a.tmps.getD 50 undef=.int .i64 E:=(h 50).trans (by simp[upF]);have q0:a.tmps[50]?.getD undef=.int .i64 E:=(by rw[←Array.getD_eq_getD_getElem?];exact e0);clear h;rw[hP];go_simp<;>(first|omega|(simp[hE0];done))) (fun a W' h e he=>by have hm:=mem_listed he;have e0:a.tmps.getD 50 undef=.int .i64 E:=(h 50).trans (by simp[upF]);have q0:a.tmps[50]?.getD undef=.int .i64 E:=(by rw[←Array.getD_eq_getD_getElem?];exact e0);clear h;rw[hP]at hm;simp[go_sem,Act.eval,e0,-Array.getD_eq_getD_getElem?]at hm) fun a hs'=>?_
  replace hs:=hs'
  clear hs'
  refine path_region_end hH ?_
  refine path_cond hH (t:=true) ((hs.at_ 51).trans (by simp[upF])) ?_
  refine path_seq hH ?_
  refine path_region hH rfl ?_
  refine path_slot hH hs (.bool true) rfl rfl (by decide) (fun _=>rfl) hke (fun a W' h=>by clear h;rw[hP];go_simp<;>omega) (fun a W' h e he=>by have hm:=mem_listed he;clear h;rw[hP]at hm;simp[go_sem,Act.eval,-Array.getD_eq_getD_getElem?]at hm) fun a hs'=>?_
  replace hs:=hs'
  clear hs'
  refine path_region_end hH ?_
  refine Path.up (N:=1) (by omega) ?_
  refine path_true hH 3 Try.func3 rfl (by kernel_rfl) hs (by simp[upF]) (by decide) hkn1 (fun B hB=>StillB.trans (hS0 B hB) (hS1 B hB)) hfin
def blkO (r:Nat→Nat):Value→Option Nat
 |.slice (some a) _ _=>some (r a.block)
 |_=>none
section
variable {W W' w w0 V:World} {kp:Nat→Prop} {r:Nat→Nat} {fl gl:List Nat}
theorem Over.new(h:Over Try.prog fl gl W kp noP noP r V w W'){b:Nat}(hb:W.heap.size≤b):W.heap.size≤r b:=by
 rcases Nat.lt_or_ge (r b) W.heap.size with q|q
 ·have:=h.rl.inj (r b) b (h.old _ q)
  omega
 ·exact q
theorem Over.kept(h:Over Try.prog fl gl W kp noP noP r V w W')(h0:Alone W kp noP noP w0)(hK:Lies W kp)(hg0:G0≤W.heap.size)(hb:Below w0.heap.size w0 w):W.heap.size≤W'.heap.size∧Lies W' kp∧(∀B,kp B→StillB W B W'.heap[B]?)∧∀B,kp B→knB W W' kp r B:=by
 have hsz:=h0.size
 have hle:=hb.size
 have hold:∀B,kp B→HoldB False W W' B:=fun B hB=>h.hold (hK.geo hg0) h0 hB (fun q=>q.elim) (hb.block B (by have:=hK.lt hB;omega))
 refine ⟨h.grew (by omega),fun B hB=>?_,fun B hB=>?_,fun B hB=>h.known hB (hK.lt hB) (by have:=hK.lt hB;omega)⟩
 ·obtain ⟨a,e,z,h1,h2,h3⟩:=hK B hB
  obtain ⟨z',g1,-,g2⟩:=hold B hB a e z h1
  exact ⟨a,e,z',g1,g2 id,h3⟩
 ·obtain ⟨a,e,z,h1,h2,h3⟩:=hK B hB
  obtain ⟨z',g1,-,g2⟩:=hold B hB a e z h1
  exact ⟨a,e,z,z',h1,g1,g2 id⟩
theorem FrZ.over(h:Over Try.prog fl gl W kp noP noP r V w W'){v:Value}{zs:List Int}{N:Nat}(hN:W.heap.size≤N)(hz:FrZ w N v zs):(blkO r v=none∧rnV r v=.slice none 0 0∧zs=[])∨∃(B cap:Nat) (more:List Int) (z:Nat×Nat),blkO r v=some B∧rnV r v=.slice (some ⟨B,0,none⟩) zs.length cap∧cap=zs.length+more.length∧cap≤maxLen∧z.2≤z.1∧W'.heap[B]?=some (.cells ((zs++more).map (Value.int .i64)).toArray 3 z)∧W.heap.size≤B∧knB W W' kp r B:=by
 rcases hz with ⟨rfl,rfl⟩|⟨g,cap,more,z,rfl,h1,h2,h3,h4,h5⟩
 ·exact .inl ⟨rfl,by simp[rnS_none,rnV],rfl⟩
 ·obtain ⟨z',q1,q2⟩:=h.fresh (by omega) h5
  exact .inr ⟨r g,cap,more,z',rfl,by simp[rnS_at,rnV],h2,h3,rng_empty q2 h4,q1,h.new (by omega),h.knew (by omega) (lt_of_some h5)⟩
theorem ints_cells{zs more:List Int}{j:Nat}{y:Int}(h:zs[j]?=some y):((zs++more).map (Value.int .i64)).toArray[0+j]?=some (.int .i64 y):=by
 have hi:=(List.getElem?_eq_some_iff.1 h).1
 simp only[Nat.zero_add,List.getElem?_toArray,List.map_append]
 rw[List.getElem?_append_left (by simpa using hi)]
 simp[h]
theorem small_parts(h:Over Try.prog fl gl W kp noP noP r V w W')(h0:Alone W kp noP noP w0)(hg0:G0≤W.heap.size){v6:Value}{c n:Nat}{qs:Nat→List Int}(hO:OwnR w w0.heap.size v6 c qs)(hb:Below w0.heap.size w0 w)(hc1:1≤c)(hl:∀i,i<c→(qs i).length=n):
  ∃(Pb cap:Nat) (us:Nat→Value) (O:Nat→Option Nat),rnV r v6=.slice (some ⟨Pb,0,none⟩) c cap∧c≤cap∧cap≤maxLen∧Parts W' Pb 0 c n us O qs∧(∀i,i<c→NilOk (us i))∧∀B,kP Pb c O B→knB W W' kp r B∧G0≤B:=by
 have hsz:=h0.size
 have hle:=hb.size
 obtain ⟨xs,hx,ht⟩:=hO
 rcases hx.2 with ⟨-,e⟩|⟨g,cap,cur,rfl,hbg,hgb,hnc,hcm,hcs,htk⟩
 ·omega
 obtain ⟨t,ht⟩:∃t:Nat→Value,∀j,j<c→xs[j]?=some (t j)∧FrZ w w0.heap.size (t j) (qs j):=by
  refine ⟨fun j=>if h:j<c then Classical.choose (ht j h) else .nilIface,fun j hj=>?_⟩
  have:=Classical.choose_spec (ht j hj)
  simp only[dif_pos hj]
  exact ⟨this.1,this.2.1⟩
 obtain ⟨z',hb1,hz⟩:=h.block (.inl (by omega)) hgb
 have hov:∀i,i<c→_:=fun i hi=>(ht i hi).2.over h (by omega)
 have hgn:G0≤r g:=Nat.le_trans hg0 (h.new (by omega))
 refine ⟨r g,cap,fun j=>rnV r (t j),fun j=>blkO r (t j),by simp[rnS_at,rnV],hnc,hcm,⟨⟨_,_,z',hb1,fun i q1 q2=>?_,fun i hi=>?_⟩,fun i hi=>?_,hl,Nat.le_trans hg0 (h.grew (by omega)),hgn,fun i hi B e=>?_⟩,fun i hi=>?_,fun B q=>?_⟩
 ·have:=hz i q1 q2
  simp at this
 ·have h1:=(ht i hi).1
  have h2:cur[i]?=some (t i):=by
   rw[←htk,List.getElem?_take,if_pos (by omega)]at h1
   simpa using h1
  rw[Nat.zero_add,Array.getElem?_map,h2]
  rfl
 ·rcases hov i hi with ⟨q1,q2,q3⟩|⟨B,cp,more,z,q1,q2,q3,q4,q5,q6,q7,q8⟩
  ·exact .inl ⟨q1,q2,q3⟩
  ·have hn:=hl i hi
   refine .inr ⟨B,0,cp,_,_,z,q1,by rw[q2,hn],by omega,q4,q6,fun j a1 a2=>by omega,fun v hv=>?_,fun j y hj=>ints_cells hj⟩
   obtain ⟨x,-,rfl⟩:=List.mem_map.1 (List.mem_toArray.1 hv)
   exact ⟨x,rfl⟩
 ·rcases hov i hi with ⟨q1,-⟩|⟨B',cp,more,z,q1,-,-,-,-,-,q7,-⟩
  ·rw[q1]at e;cases e
  ·rw[q1]at e
   cases e
   omega
 ·intro n' k' e
  rcases hov i hi with ⟨-,q2,-⟩|⟨B',cp,more,z,-,q2,-⟩
  ·have e:rnV r (t i)=_:=e
   rw[q2]at e
   cases e
   exact ⟨rfl,rfl⟩
  ·have e:rnV r (t i)=_:=e
   rw[q2]at e
   cases e
 ·rcases q with rfl|⟨i,hi,q⟩
  ·exact ⟨h.knew (by omega) (lt_of_some hgb),hgn⟩
  ·have q:blkO r (t i)=some B:=q
   rcases hov i hi with ⟨q1,-⟩|⟨B',cp,more,z,q1,-,-,-,-,-,q7,q8⟩
   ·rw[q1]at q;cases q
   ·rw[q1]at q
    cases q
    exact ⟨q8,by omega⟩
end
end Go.Proofs.Ytniloklglpchfai
