/- What stands behind the join in a round: the list of all sums. -/
import Derived.Test.YtniloklglpchfaiPkRgZ
import Derived.Conc.AppendWalk
namespace Go.Proofs.Ytniloklglpchfai
open Go Go.RowKit Go.Conc
def Rng.tV (y:Rng) (i:Nat):Value:=.slice (some ⟨y.T i,0,none⟩) y.n y.n
def Rng.zC (y:Rng) (j:Nat):Array Value:=((List.range y.c).map fun i=>if i<j then y.tV i else .slice none 0 0).toArray
theorem Rng.zC_size{y:Rng}{j:Nat}:(y.zC j).size=y.c:=by simp[Rng.zC]
theorem Rng.zC_set{y:Rng}{j:Nat}:(y.zC j).setIfInBounds j (y.tV j)=y.zC (j+1):=by
 refine Array.ext (by simp[Rng.zC]) fun i h1 h2=>?_
 rw[Array.getElem_setIfInBounds (by simpa using h1)]
 simp only[Rng.zC,List.getElem_toArray,List.getElem_map,List.getElem_range]
 by_cases e:j=i
 ·subst e;rw[if_pos rfl,if_pos (Nat.lt_succ_self _)]
 ·rw[if_neg e]
  by_cases h:i<j
  ·rw[if_pos h,if_pos (by omega)]
  ·rw[if_neg h,if_neg (by omega)]
theorem Rng.tV_kv{y:Rng}{i:Nat}(hi:i<y.c):KV (y.oM 0) noP (y.tV i):=by
 show ∀x:Addr,some (⟨y.T i,0,none⟩:Addr)=some x→y.oM 0 x.block∧x.spot=none
 intro x hx
 cases hx
 exact ⟨⟨i,Nat.zero_le _,hi,rfl⟩,rfl⟩
theorem Rng.zC_kv{y:Rng}{j:Nat}:∀u∈y.zC j,KV (y.oM 0) noP u:=fun u hu=>by
 have h:u∈(List.range y.c).map fun i=>if i<j then y.tV i else .slice none 0 0:=by unfold Rng.zC at hu;exact List.mem_toArray.1 hu
 obtain ⟨i,hi,rfl⟩:=List.mem_map.1 h
 by_cases e:i<j
 ·simp only[if_pos e]
  exact Rng.tV_kv (List.mem_range.1 hi)
 ·simp only[if_neg e]
  intro x hx
  cases hx
theorem run_mkO(c:Nat)(hc:c≤6)(W:World):(Instr.makeSlice 22 (.int .i64 0) (.int .i64 (c:Int))).run Try.prog W=.ok (.slice (some ⟨W.heap.size,0,none⟩) 0 c) (W.alloc (.cells ((List.range c).map fun _=>Value.slice none 0 0).toArray 27)):=by
 have h:=run_mkZ 27 22 1 24 (.slice none 0 0) Try.underlying22 infoRow (c:Int) c rfl (by omega) (by omega) W
 rw[raw_row _ _ rfl]at h
 exact h
theorem ev_mkO(c:Nat)(hc:c≤6)(W:World):(Instr.makeSlice 22 (.int .i64 0) (.int .i64 (c:Int))).events Try.prog W #[]=#[]:=by
 obtain ⟨i0,hi0,hz0,hz1,hz2⟩:=info_parts infoRow
 exact events_make W _ _ i0 _ Try.underlying22 hi0 hz0 .i64 .i64 0 (c:Int) (Int.le_refl _) (by omega) (by rw[hz2];omega) (by omega) (by rw[hz2];omega) _
theorem exec_append{P:Program}{o:Oper}{a:Act}{w w':World}{v xv v':Value}(s x:Operand)(t:TypeId)(ho:o.op=.call { callee:=.builtin .append,args:=#[s,x],argTypes:=#[t,t] })(hs:a.eval s=v)(hx:a.eval x=xv)
  (hr:(Builtin.append_ #[t,t] o.type #[v,xv]).run P w=.ok v' w'):(execOp a.eval o).run P w=.ok (.value v') w':=by
 unfold execOp
 simp only[ho,resolve,invoke,builtin,Sem.run_bind,Sem.run_pure,Result.andThen_ok,List.map_toArray,List.map_cons,List.map_nil,hs,hx,hr]
structure Rng.Bh (y:Rng) (Wb:Nat) (k0:Nat→Prop) (Zb:Nat) (W:World) (j:Nat):Prop where
 M:y.Mn Wb k0 W y.c
 S:y.Sums W
 z:∃z:Nat×Nat,z.2≤z.1∧W.heap[Zb]?=some (.cells (y.zC j) 27 z)
def Rng.kZ (y:Rng) (Wb:Nat) (k0:Nat→Prop) (Zb:Nat):Nat→Prop:=fun B=>y.kE Wb k0 B∨B=Zb
def Rng.oZ (y:Rng) (Zb:Nat):Nat→Prop:=fun B=>y.oM 0 B∨B=Zb
section
variable {y:Rng} {Wb:Nat} {k0:Nat→Prop} {Zb j:Nat} {W W':World}
theorem Rng.Sums.t_lt(h:y.Sums W){i:Nat}(hi:i<y.c):y.T i<W.heap.size:=by obtain ⟨z,ts,-,h1,-⟩:=h i hi;exact lt_of_some h1
theorem Rng.Sums.keep(h:y.Sums W)(hk:∀i,i<y.c→W'.heap[y.T i]?=W.heap[y.T i]?):y.Sums W':=fun i hi=>by
 obtain ⟨z,ts,h1,h2,h3⟩:=h i hi
 exact ⟨z,ts,h1,(hk i hi).trans h2,h3⟩
theorem Rng.hereE(M:y.Mn Wb k0 W y.c)(S:y.Sums W):Here W (y.kE Wb k0) (y.oM 0):=by
 refine ⟨fun B q=>?_,fun B q=>.inr q⟩
 rcases q with q|⟨i,-,hi,rfl⟩
 ·exact M.here.knl B q
 ·exact S.t_lt hi
theorem Rng.Bh.here(h:y.Bh Wb k0 Zb W j):Here W (y.kZ Wb k0 Zb) (y.oZ Zb):=by
 refine ⟨fun B q=>?_,fun B q=>q.imp (fun q=>.inr q) id⟩
 rcases q with q|rfl
 ·exact (Rng.hereE h.M h.S).knl B q
 ·obtain ⟨z,-,h1⟩:=h.z;exact lt_of_some h1
theorem Rng.Bh.keep(h:y.Bh Wb k0 Zb W j)(A:y.Apart Wb k0)(hs:W.heap.size≤W'.heap.size)(hk:∀B,y.kZ Wb k0 Zb B→W'.heap[B]?=W.heap[B]?):y.Bh Wb k0 Zb W' j:=by
 refine ⟨h.M.keep A hs fun B q=>hk B (.inl (.inl q)),h.S.keep fun i hi=>hk _ (.inl (.inr ⟨i,Nat.zero_le _,hi,rfl⟩)),?_⟩
 obtain ⟨z,h1,h2⟩:=h.z
 exact ⟨z,h1,(hk Zb (.inr rfl)).trans h2⟩
theorem Rng.Bh.ext(h:y.Bh Wb k0 Zb W j)(A:y.Apart Wb k0){kn:Nat→Prop}(hx:Ext kn W W')(hk:∀B,y.kZ Wb k0 Zb B→kn B):y.Bh Wb k0 Zb W' j:=h.keep A hx.size fun B q=>hx.keep B (hk B q) (h.here.knl B q)
set_option linter.unusedSimpArgs false in
set_option linter.unusedVariables false in
set_option maxRecDepth 100000 in
set_option maxHeartbeats 8000000 in
theorem round_behind(K:y.Ok)(A:y.Apart Wb k0){c0:Frame}{cs:List Frame}{U:Code}(hU:IsU U){Goal2:Stand}{ops0:Array Oper}{nE:Nat}
  (hend:∀Zb W,G0≤Zb→¬y.kE Wb k0 Zb→y.Bh Wb k0 Zb W y.c→∃ρ,Path (mkE Try.prog rgF rgF) Goal2 nE ρ (G (c0.finish (.slice (some ⟨Zb,0,none⟩) y.c y.c)) cs) W (y.kZ Wb k0 Zb) (y.oZ Zb))
  {a:Act} {f:Nat→Value} (hs:Slots a 40 f) (f3:f 3=wslV Wb y.c) (M:y.Mn Wb k0 W y.c) (S:y.Sums W):
  ∃ρ,Path (mkE Try.prog rgF rgF) Goal2 (nE+600) ρ (G (bRound.at a [.inRegion ops0 [],.code U]) (c0::cs)) W (y.kE Wb k0) (y.oM 0):=by
 have hc1:=K.c1
 have hc6:=K.c6
 obtain ⟨d,hd,hU⟩:=hU
 unfold IsT at hd
 subst hd
 simp only[Try.f9,Option.getD_some,sndC]at hU
 subst hU
 have hP:(mkE Try.prog rgF rgF).P=Try.prog:=rfl
 have hke:bRound.kind≠.early:=by decide
 have hH:=Rng.hereE M S
 have hmk:=run_mkO y.c hc6
 refine path_region_end hH ?_
 refine path_seq hH ?_
 refine path_region hH rfl ?_
 refine path_slot hH hs (wslV Wb y.c) rfl rfl (by decide) (fun _=>rfl) hke (fun a W' h=>by have e0:a.tmps.getD 3 undef=wslV Wb y.c:=(h 3).trans (by simp[upF,f3]);clear h;rw[hP];go_simp<;>omega) (fun a W' h e he=>by have hm:=mem_listed he;have e0:a.tmps.getD 3 undef=wslV Wb y.c:=(h 3).trans (by simp[upF,f3]);clear h;rw[hP]at hm;simp[go_sem,Act.eval,e0,-Array.getD_eq_getD_getElem?]at hm) fun a hs'=>?_
 replace hs:=hs'
 clear hs'
 refine path_slot hH hs (.int .i64 (y.c:Int)) rfl rfl (by decide) (fun _=>rfl) hke (fun a W' h=>by have e0:a.tmps.getD 22 undef=wslV Wb y.c:=(h 22).trans (by simp[upF,f3]);clear h;rw[hP];go_simp<;>omega) (fun a W' h e he=>by have hm:=mem_listed he;have e0:a.tmps.getD 22 undef=wslV Wb y.c:=(h 22).trans (by simp[upF,f3]);clear h;rw[hP]at hm;simp[go_sem,Act.eval,e0,-Array.getD_eq_getD_getElem?]at hm) fun a hs'=>?_
 replace hs:=hs'
 clear hs'
 refine path_slot_make hH hs (fun B=>.slice (some ⟨B,0,none⟩) 0 y.c) (.cells ((List.range y.c).map fun _=>Value.slice none 0 0).toArray 27) rfl rfl (by decide) (fun _=>rfl) hke (fun a W' h hx=>by have e0:a.tmps.getD 23 undef=.int .i64 (y.c:Int):=(h 23).trans (by simp[upF,f3]);have hm:=hmk W';clear h;rw[hP];go_simp) (fun a W' h e he=>by have hm:=mem_listed he;have e0:a.tmps.getD 23 undef=.int .i64 (y.c:Int):=(h 23).trans (by simp[upF,f3]);clear h;rw[hP]at hm;simp[go_sem,Act.eval,e0,-Array.getD_eq_getD_getElem?]at hm;rw[ev_mkO y.c hc6 W']at hm;simp at hm) fun W1 a hx1 hs'=>?_
 replace hs:=hs'
 clear hs'
 obtain ⟨Zb,hZb⟩:=gM (W1.heap.size)
 have hM1:=M.ext A hx1 fun B q=>.inl q
 have hS1:y.Sums W1:=S.keep fun i hi=>hx1.keep _ (.inr ⟨i,Nat.zero_le _,hi,rfl⟩) (S.t_lt hi)
 have hH1:=Rng.hereE hM1 hS1
 have hZn:¬y.kE Wb k0 Zb:=fun q=>by have:=hH1.knl _ q;omega
 have hZg:G0≤Zb:=by have:=hM1.g0;omega
 have BB:y.Bh Wb k0 Zb (W1.alloc (.cells ((List.range y.c).map fun _=>Value.slice none 0 0).toArray 27)) 0:=by
  refine ⟨hM1.keep A (by simp) fun B q=>heap_alloc_old _ _ (hH1.knl B (.inl q)),hS1.keep fun i hi=>heap_alloc_old _ _ (hS1.t_lt hi),(0,0),Nat.le_refl _,?_⟩
  rw[hZb]
  exact heap_alloc_new _ _
 rw[←hZb]at hs ⊢
 generalize W1.alloc (.cells ((List.range y.c).map fun _=>Value.slice none 0 0).toArray 27)=W2 at BB ⊢
 rw[show orP (y.kE Wb k0) (fun B=>B=Zb)=y.kZ Wb k0 Zb from rfl,show orP (y.oM 0) (fun B=>B=Zb)=y.oZ Zb from rfl]
 clear hH hmk hM1 hS1 hH1 hx1 hZb M S
 have hH:=BB.here
 refine path_slot hH hs (.slice (some ⟨Zb,0,none⟩) 0 y.c) rfl rfl (by decide) (fun _=>rfl) hke (fun a W' h=>by have e0:a.tmps.getD 24 undef=.slice (some ⟨Zb,0,none⟩) 0 y.c:=(h 24).trans (by simp[upF,f3]);clear h;rw[hP];go_simp<;>omega) (fun a W' h e he=>by have hm:=mem_listed he;have e0:a.tmps.getD 24 undef=.slice (some ⟨Zb,0,none⟩) 0 y.c:=(h 24).trans (by simp[upF,f3]);clear h;rw[hP]at hm;simp[go_sem,Act.eval,e0,-Array.getD_eq_getD_getElem?]at hm) fun a hs'=>?_
 replace hs:=hs'
 clear hs'
 refine path_region_end hH ?_
 refine path_seq hH ?_
 refine path_seq hH ?_
 refine path_region hH rfl ?_
 refine path_slot hH hs (wslV Wb y.c) rfl rfl (by decide) (fun _=>rfl) hke (fun a W' h=>by have e0:a.tmps.getD 3 undef=wslV Wb y.c:=(h 3).trans (by simp[upF,f3]);clear h;rw[hP];go_simp<;>omega) (fun a W' h e he=>by have hm:=mem_listed he;have e0:a.tmps.getD 3 undef=wslV Wb y.c:=(h 3).trans (by simp[upF,f3]);clear h;rw[hP]at hm;simp[go_sem,Act.eval,e0,-Array.getD_eq_getD_getElem?]at hm) fun a hs'=>?_
 replace hs:=hs'
 clear hs'
 refine path_slot hH hs (.int .i64 (y.c:Int)) rfl rfl (by decide) (fun _=>rfl) hke (fun a W' h=>by have e0:a.tmps.getD 25 undef=wslV Wb y.c:=(h 25).trans (by simp[upF,f3]);clear h;rw[hP];go_simp<;>omega) (fun a W' h e he=>by have hm:=mem_listed he;have e0:a.tmps.getD 25 undef=wslV Wb y.c:=(h 25).trans (by simp[upF,f3]);clear h;rw[hP]at hm;simp[go_sem,Act.eval,e0,-Array.getD_eq_getD_getElem?]at hm) fun a hs'=>?_
 replace hs:=hs'
 clear hs'
 refine path_slot hH hs (.int .i64 ((0:Nat):Int)) rfl rfl (by decide) (fun _=>rfl) hke (fun a W' h=>by clear h;rw[hP];go_simp<;>omega) (fun a W' h e he=>by have hm:=mem_listed he;clear h;rw[hP]at hm;simp[go_sem,Act.eval,-Array.getD_eq_getD_getElem?]at hm) fun a hs'=>?_
 replace hs:=hs'
 clear hs'
 refine path_region_end hH ?_
 refine path_block hH ?_
 refine path_loop hH ?_
 obtain ⟨w,hw0⟩:∃w:Nat,w=0:=⟨_,rfl⟩
 obtain ⟨g,hs,g3,g7,g25,g26,g27⟩:∃f,Slots a 40 f∧f 3=wslV Wb y.c∧f 7=.slice (some ⟨Zb,0,none⟩) w y.c∧f 25=wslV Wb y.c∧f 26=.int .i64 (y.c:Int)∧f 27=.int .i64 (w:Int):=⟨_,hs,by simp[upF,f3],by simp[upF,hw0],by simp[upF,f3],by simp[upF],by simp[upF,hw0]⟩
 clear f3 hH
 obtain ⟨r,hr⟩:∃r,w+r=y.c:=⟨y.c,by omega⟩
 replace BB:y.Bh Wb k0 Zb W2 w:=by rw[hw0];exact BB
 clear hw0
 refine Path.up (N:=nE+60*r+30) (by omega) ?_
 have pack:=And.intro hr (And.intro BB (And.intro hs (And.intro g3 (And.intro g7 (And.intro g25 (And.intro g26 g27))))))
 generalize w=w at pack ⊢
 generalize r=r at pack ⊢
 generalize W2=W2 at pack ⊢
 generalize a=a at pack ⊢
 generalize g=g at pack
 obtain ⟨hr,BB,hs,g3,g7,g25,g26,g27⟩:=pack
 induction r generalizing w a g W2 with
 |zero=>
  have hw:w=y.c:=by omega
  subst hw
  have hH:=BB.here
  refine Path.up (N:=nE+29) (by omega) ?_
  refine path_seq hH ?_
  refine path_region hH rfl ?_
  refine path_slot hH hs (.bool false) rfl rfl (by decide) (fun _=>rfl) hke (fun a W' h=>by have e0:a.tmps.getD 27 undef=.int .i64 (y.c:Int):=(h 27).trans (by simp[upF,g3,g7,g25,g26,g27]);have e1:a.tmps.getD 26 undef=.int .i64 (y.c:Int):=(h 26).trans (by simp[upF,g3,g7,g25,g26,g27]);clear h;rw[hP];go_simp<;>omega) (fun a W' h e he=>by have hm:=mem_listed he;have e0:a.tmps.getD 27 undef=.int .i64 (y.c:Int):=(h 27).trans (by simp[upF,g3,g7,g25,g26,g27]);have e1:a.tmps.getD 26 undef=.int .i64 (y.c:Int):=(h 26).trans (by simp[upF,g3,g7,g25,g26,g27]);clear h;rw[hP]at hm;simp[go_sem,Act.eval,e0,e1,-Array.getD_eq_getD_getElem?]at hm) fun a hs'=>?_
  replace hs:=hs'
  clear hs'
  refine path_region_end hH ?_
  refine path_seq hH ?_
  refine path_cond hH (t:=false) ((hs.at_ 28).trans (by simp[upF])) ?_
  refine path_exit hH rfl ?_
  refine path_seq hH ?_
  refine path_region hH rfl ?_
  refine path_slot hH hs (.slice (some ⟨Zb,0,none⟩) y.c y.c) rfl rfl (by decide) (fun _=>rfl) hke (fun a W' h=>by have e0:a.tmps.getD 7 undef=.slice (some ⟨Zb,0,none⟩) y.c y.c:=(h 7).trans (by simp[upF,g3,g7,g25,g26,g27]);clear h;rw[hP];go_simp<;>omega) (fun a W' h e he=>by have hm:=mem_listed he;have e0:a.tmps.getD 7 undef=.slice (some ⟨Zb,0,none⟩) y.c y.c:=(h 7).trans (by simp[upF,g3,g7,g25,g26,g27]);clear h;rw[hP]at hm;simp[go_sem,Act.eval,e0,-Array.getD_eq_getD_getElem?]at hm) fun a hs'=>?_
  replace hs:=hs'
  clear hs'
  refine path_slot hH hs (.slice (some ⟨Zb,0,none⟩) y.c y.c) rfl rfl (by decide) (fun _=>rfl) hke (fun a W' h=>by have e0:a.tmps.getD 39 undef=.slice (some ⟨Zb,0,none⟩) y.c y.c:=(h 39).trans (by simp[upF,g3,g7,g25,g26,g27]);clear h;rw[hP];go_simp<;>omega) (fun a W' h e he=>by have hm:=mem_listed he;have e0:a.tmps.getD 39 undef=.slice (some ⟨Zb,0,none⟩) y.c y.c:=(h 39).trans (by simp[upF,g3,g7,g25,g26,g27]);clear h;rw[hP]at hm;simp[go_sem,Act.eval,e0,-Array.getD_eq_getD_getElem?]at hm) fun a hs'=>?_
  replace hs:=hs'
  clear hs'
  refine path_region_end hH ?_
  refine Path.up (N:=nE+2) (by omega) ?_
  have e2:=(hs.at_ 2).trans (show _=.slice (some ⟨Zb,0,none⟩) y.c y.c by simp[upF])
  refine path_ret (v:=.slice (some ⟨Zb,0,none⟩) y.c y.c) hH rfl hs.defers (by rw[hP];exact Try.func9) (fun W3=>by simp[results,Try.results9,go_sem,e2,-Array.getD_eq_getD_getElem?]) (fun W3=>by simp[results,Try.results9,go_sem,e2,-Array.getD_eq_getD_getElem?]) ?_
  exact hend Zb W2 hZg hZn BB
 |succ r ih=>
  have hlt:w<y.c:=by omega
  have hlt':(w:Int)<(y.c:Int):=by omega
  have hww:IntKind.i64.wrap ((w:Int)+1)=((w+1:Nat):Int):=by rw[IntKind.wrap_i64];omega
  have hH:=BB.here
  refine Path.up (N:=nE+60*r+85) (by omega) ?_
  refine path_seq hH ?_
  refine path_region hH rfl ?_
  refine path_slot hH hs (.bool true) rfl rfl (by decide) (fun _=>rfl) hke (fun a W' h=>by have e0:a.tmps.getD 27 undef=.int .i64 (w:Int):=(h 27).trans (by simp[upF,g3,g7,g25,g26,g27]);have e1:a.tmps.getD 26 undef=.int .i64 (y.c:Int):=(h 26).trans (by simp[upF,g3,g7,g25,g26,g27]);clear h;rw[hP];go_simp<;>omega) (fun a W' h e he=>by have hm:=mem_listed he;have e0:a.tmps.getD 27 undef=.int .i64 (w:Int):=(h 27).trans (by simp[upF,g3,g7,g25,g26,g27]);have e1:a.tmps.getD 26 undef=.int .i64 (y.c:Int):=(h 26).trans (by simp[upF,g3,g7,g25,g26,g27]);clear h;rw[hP]at hm;simp[go_sem,Act.eval,e0,e1,-Array.getD_eq_getD_getElem?]at hm) fun a hs'=>?_
  replace hs:=hs'
  clear hs'
  refine path_region_end hH ?_
  refine path_seq hH ?_
  refine path_cond hH (t:=true) ((hs.at_ 28).trans (by simp[upF])) ?_
  refine path_skip hH ?_
  refine path_seq hH ?_
  refine path_block hH ?_
  refine path_seq hH ?_
  refine path_region hH rfl ?_
  refine path_slot hH hs (.pointer (some ⟨Wb,w,none⟩)) rfl rfl (by decide) (fun _=>rfl) hke (fun a W' h=>by have e0:a.tmps.getD 25 undef=wslV Wb y.c:=(h 25).trans (by simp[upF,g3,g7,g25,g26,g27]);have e1:a.tmps.getD 27 undef=.int .i64 (w:Int):=(h 27).trans (by simp[upF,g3,g7,g25,g26,g27]);clear h;rw[hP];go_simp<;>omega) (fun a W' h e he=>by have hm:=mem_listed he;have e0:a.tmps.getD 25 undef=wslV Wb y.c:=(h 25).trans (by simp[upF,g3,g7,g25,g26,g27]);have e1:a.tmps.getD 27 undef=.int .i64 (w:Int):=(h 27).trans (by simp[upF,g3,g7,g25,g26,g27]);clear h;rw[hP]at hm;simp[go_sem,Act.eval,e0,e1,-Array.getD_eq_getD_getElem?]at hm;rw[events_indexAt_slice _ _ _ _ _ _ elW ⟨by omega,hlt'⟩]at hm;simp at hm) fun a hs'=>?_
  replace hs:=hs'
  clear hs'
  have hcw:W2.cell? ⟨Wb,w,none⟩=some (.pointer (some ⟨y.S w,0,none⟩)):=by obtain ⟨z,hz⟩:=BB.M.row;rw[Joins.cell_of_block hz];exact Rng.wkV_at hlt
  refine path_slot_read hH hs (ad:=⟨Wb,w,none⟩) (.inl (.inl (.inr (.inl rfl)))) (hcw) rfl rfl (by decide) (fun _=>rfl) hke (fun a W' h hc=>by have e0:a.tmps.getD 29 undef=.pointer (some ⟨Wb,w,none⟩):=(h 29).trans (by simp[upF,g3,g7,g25,g26,g27]);clear h;rw[hP];go_simp) (fun a W' h hc e he=>by have hm:=mem_listed he;have e0:a.tmps.getD 29 undef=.pointer (some ⟨Wb,w,none⟩):=(h 29).trans (by simp[upF,g3,g7,g25,g26,g27]);clear h;rw[hP]at hm;simp[go_sem,Act.eval,e0,hc,-Array.getD_eq_getD_getElem?]at hm;exact hm) fun a hs'=>?_
  replace hs:=hs'
  clear hs'
  refine path_slot hH hs (.pointer (some ⟨y.S w,0,none⟩)) rfl rfl (by decide) (fun _=>rfl) hke (fun a W' h=>by have e0:a.tmps.getD 30 undef=.pointer (some ⟨y.S w,0,none⟩):=(h 30).trans (by simp[upF,g3,g7,g25,g26,g27]);clear h;rw[hP];go_simp<;>omega) (fun a W' h e he=>by have hm:=mem_listed he;have e0:a.tmps.getD 30 undef=.pointer (some ⟨y.S w,0,none⟩):=(h 30).trans (by simp[upF,g3,g7,g25,g26,g27]);clear h;rw[hP]at hm;simp[go_sem,Act.eval,e0,-Array.getD_eq_getD_getElem?]at hm) fun a hs'=>?_
  replace hs:=hs'
  clear hs'
  refine path_region_end hH ?_
  refine path_region hH rfl ?_
  refine path_slot hH hs (.slice (some ⟨Zb,0,none⟩) w y.c) rfl rfl (by decide) (fun _=>rfl) hke (fun a W' h=>by have e0:a.tmps.getD 7 undef=.slice (some ⟨Zb,0,none⟩) w y.c:=(h 7).trans (by simp[upF,g3,g7,g25,g26,g27]);clear h;rw[hP];go_simp<;>omega) (fun a W' h e he=>by have hm:=mem_listed he;have e0:a.tmps.getD 7 undef=.slice (some ⟨Zb,0,none⟩) w y.c:=(h 7).trans (by simp[upF,g3,g7,g25,g26,g27]);clear h;rw[hP]at hm;simp[go_sem,Act.eval,e0,-Array.getD_eq_getD_getElem?]at hm) fun a hs'=>?_
  replace hs:=hs'
  clear hs'
  refine path_slot hH hs (.pointer (some ⟨y.S w,0,none⟩)) rfl rfl (by decide) (fun _=>rfl) hke (fun a W' h=>by have e0:a.tmps.getD 9 undef=.pointer (some ⟨y.S w,0,none⟩):=(h 9).trans (by simp[upF,g3,g7,g25,g26,g27]);clear h;rw[hP];go_simp<;>omega) (fun a W' h e he=>by have hm:=mem_listed he;have e0:a.tmps.getD 9 undef=.pointer (some ⟨y.S w,0,none⟩):=(h 9).trans (by simp[upF,g3,g7,g25,g26,g27]);clear h;rw[hP]at hm;simp[go_sem,Act.eval,e0,-Array.getD_eq_getD_getElem?]at hm) fun a hs'=>?_
  replace hs:=hs'
  clear hs'
  refine path_slot hH hs (.pointer (some ⟨y.S w,0,none⟩)) rfl rfl (by decide) (fun _=>rfl) hke (fun a W' h=>by have e0:a.tmps.getD 32 undef=.pointer (some ⟨y.S w,0,none⟩):=(h 32).trans (by simp[upF,g3,g7,g25,g26,g27]);clear h;rw[hP];go_simp<;>omega) (fun a W' h e he=>by have hm:=mem_listed he;have e0:a.tmps.getD 32 undef=.pointer (some ⟨y.S w,0,none⟩):=(h 32).trans (by simp[upF,g3,g7,g25,g26,g27]);clear h;rw[hP]at hm;simp[go_sem,Act.eval,e0,-Array.getD_eq_getD_getElem?]at hm) fun a hs'=>?_
  replace hs:=hs'
  clear hs'
  refine path_slot hH hs (.pointer (some ⟨y.S w,3,none⟩)) rfl rfl (by decide) (fun _=>rfl) hke (fun a W' h=>by have e0:a.tmps.getD 33 undef=.pointer (some ⟨y.S w,0,none⟩):=(h 33).trans (by simp[upF,g3,g7,g25,g26,g27]);clear h;rw[hP];go_simp<;>omega) (fun a W' h e he=>by have hm:=mem_listed he;have e0:a.tmps.getD 33 undef=.pointer (some ⟨y.S w,0,none⟩):=(h 33).trans (by simp[upF,g3,g7,g25,g26,g27]);clear h;rw[hP]at hm;simp[go_sem,Act.eval,e0,-Array.getD_eq_getD_getElem?]at hm) fun a hs'=>?_
  replace hs:=hs'
  clear hs'
  refine path_slot_read hH hs (ad:=⟨y.S w,3,none⟩) (.inl (.inl (.inr (.inr (.inl ⟨w,hlt,rfl⟩))))) (BB.M.S w hlt) rfl rfl (by decide) (fun _=>rfl) hke (fun a W' h hc=>by have e0:a.tmps.getD 34 undef=.pointer (some ⟨y.S w,3,none⟩):=(h 34).trans (by simp[upF,g3,g7,g25,g26,g27]);clear h;rw[hP];go_simp) (fun a W' h hc e he=>by have hm:=mem_listed he;have e0:a.tmps.getD 34 undef=.pointer (some ⟨y.S w,3,none⟩):=(h 34).trans (by simp[upF,g3,g7,g25,g26,g27]);clear h;rw[hP]at hm;simp[go_sem,Act.eval,e0,hc,-Array.getD_eq_getD_getElem?]at hm;exact hm) fun a hs'=>?_
  replace hs:=hs'
  clear hs'
  refine path_slot_make hH hs (fun B=>.slice (some ⟨B,0,none⟩) 1 1) (.cells #[y.tV w] 27) rfl rfl (by decide) (fun _=>rfl) hke (fun a W' h hx=>by have e0:a.tmps.getD 35 undef=.slice (some ⟨y.T w,0,none⟩) y.n y.n:=(h 35).trans (by simp[upF,g3,g7,g25,g26,g27,Rng.tV]);have e1:a.tmps[35]?.getD undef=.slice (some ⟨y.T w,0,none⟩) y.n y.n:=(by rw[←Array.getD_eq_getD_getElem?];exact e0);clear h;unfold Rng.tV;rw[hP];go_simp) (fun a W' h e he=>by have hm:=mem_listed he;have e0:a.tmps.getD 35 undef=.slice (some ⟨y.T w,0,none⟩) y.n y.n:=(h 35).trans (by simp[upF,g3,g7,g25,g26,g27,Rng.tV]);clear h;rw[hP]at hm;simp[go_sem,Act.eval,e0,-Array.getD_eq_getD_getElem?]at hm) fun W1 a hx1 hs'=>?_
  replace hs:=hs'
  clear hs'
  replace BB:=BB.ext A hx1 fun _ q=>q
  replace hH:=BB.here
  clear hx1 hcw
  obtain ⟨Ob,hOb⟩:=gM (W1.heap.size)
  have hOk:∀B,y.kZ Wb k0 Zb B→B<Ob:=fun B q=>by rw[hOb];exact hH.knl B q
  have hOg:G0≤Ob:=by rw[hOb];exact BB.M.g0
  have hOc:(W1.alloc (.cells #[y.tV w] 27)).heap[Ob]?=some (.cells #[y.tV w] 27 (0,0)):=by rw[hOb];exact heap_alloc_new _ _
  replace BB:y.Bh Wb k0 Zb (W1.alloc (.cells #[y.tV w] 27)) w:=BB.keep A (by simp) fun B q=>heap_alloc_old _ _ (hH.knl B q)
  rw[←hOb]at hs ⊢
  generalize W1.alloc (.cells #[y.tV w] 27)=W3 at BB hOc ⊢
  clear hH hOb
  have hH:Here W3 (orP (y.kZ Wb k0 Zb) (fun B=>B=Ob)) (orP (y.oZ Zb) (fun B=>B=Ob)):=⟨fun B q=>q.elim (BB.here.knl B) (fun q=>by rw[q];exact lt_of_some hOc),fun B q=>q.imp (BB.here.owk B) id⟩
  obtain ⟨zz,hzz,hzc⟩:=BB.z
  have e31:=(hs.at_ 31).trans (show _=.slice (some ⟨Zb,0,none⟩) w y.c by simp[upF,g3,g7,g25,g26,g27])
  have e36:=(hs.at_ 36).trans (show _=.slice (some ⟨Ob,0,none⟩) 1 1 by simp[upF])
  have hT:∀i,i<y.c→y.kE Wb k0 (y.T i):=fun i hi=>.inr ⟨i,Nat.zero_le _,hi,rfl⟩
  refine path_app hH BB.M.g0 hs rfl rfl (by decide) (fun _=>rfl) hke rfl (p:=31) (q:=36) (Zb:=Zb) (Ob:=Ob) (j:=w) (cap:=y.c) (oc:=1) (zs:=y.zC w) (v:=y.tV w) (show _=_ by simp[upF,g3,g7,g25,g26,g27]) (show _=_ by simp[upF]) hlt Rng.zC_size rfl (.inl (.inr rfl)) (.inr rfl) (fun q=>by have:=hOk Zb (.inr rfl);omega) hZg hOg hzc hzz hOc (Nat.le_refl _) (kt:=y.oM 0) (fun B q=>?_) Rng.zC_kv (Rng.tV_kv hlt) (fun w0 x w1 hr=>exec_append _ _ _ rfl e31 e36 hr) fun V V' hxV hle hout hz a hs'=>?_
  ·obtain ⟨i,hi0,hi,rfl⟩:=q
   obtain ⟨z,ts,h1,h2,-⟩:=BB.S i hi
   exact ⟨.inl (.inl (hT i hi)),(K.wk i hi).gt,fun q=>hZn (q▸hT i hi),_,_,z,h2,fun k q1 q2=>by omega⟩
  ·replace hs:=hs'
   clear hs'
   have BV:y.Bh Wb k0 Zb V w:=BB.ext A hxV fun B q=>.inl q
   have hVk:=BV.here.knl
   have hne:∀B,y.kE Wb k0 B→B≠Zb:=fun B q e=>hZn (e▸q)
   replace BB:y.Bh Wb k0 Zb V' (w+1):=by
    obtain ⟨z1,q1,q2⟩:=hz
    refine ⟨BV.M.keep A hle fun B q=>hout B (hVk B (.inl (.inl q))) (hne B (.inl q)),BV.S.keep fun i hi=>hout _ (hVk _ (.inl (hT i hi))) (hne _ (hT i hi)),z1,q1,?_⟩
    rw[q2,Rng.zC_set]
   have hOV:Ob<V'.heap.size:=by
    have h1:=hxV.size
    have h2:=lt_of_some hOc
    omega
   clear hH hout hz hle hxV BV hVk e31 e36 hzc hzz
   have hH:Here V' (orP (y.kZ Wb k0 Zb) (fun B=>B=Ob)) (orP (y.oZ Zb) (fun B=>B=Ob)):=⟨fun B q=>q.elim (BB.here.knl B) (fun q=>by rw[q];exact hOV),fun B q=>q.imp (BB.here.owk B) id⟩
   refine path_slot hH hs (.slice (some ⟨Zb,0,none⟩) (w+1) y.c) rfl rfl (by decide) (fun _=>rfl) hke (fun a W' h=>by have e0:a.tmps.getD 37 undef=.slice (some ⟨Zb,0,none⟩) (w+1) y.c:=(h 37).trans (by simp[upF,g3,g7,g25,g26,g27]);clear h;rw[hP];go_simp<;>omega) (fun a W' h e he=>by have hm:=mem_listed he;have e0:a.tmps.getD 37 undef=.slice (some ⟨Zb,0,none⟩) (w+1) y.c:=(h 37).trans (by simp[upF,g3,g7,g25,g26,g27]);clear h;rw[hP]at hm;simp[go_sem,Act.eval,e0,-Array.getD_eq_getD_getElem?]at hm) fun a hs'=>?_
   replace hs:=hs'
   clear hs'
   refine path_region_end_less hH.knl (fun _ q=>.inl q) (fun _ q=>.inl q) BB.here.owk ?_
   clear hH hOV hOc hOg hOk
   have hH:=BB.here
   refine path_inBlock hH ?_
   refine path_region hH rfl ?_
   refine path_slot hH hs (.int .i64 ((w+1:Nat):Int)) rfl rfl (by decide) (fun _=>rfl) hke (fun a W' h=>by have e0:a.tmps.getD 27 undef=.int .i64 (w:Int):=(h 27).trans (by simp[upF,g3,g7,g25,g26,g27]);clear h;rw[hP];go_simp<;>simp[hww]) (fun a W' h e he=>by have hm:=mem_listed he;have e0:a.tmps.getD 27 undef=.int .i64 (w:Int):=(h 27).trans (by simp[upF,g3,g7,g25,g26,g27]);clear h;rw[hP]at hm;simp[go_sem,Act.eval,e0,-Array.getD_eq_getD_getElem?]at hm) fun a hs'=>?_
   replace hs:=hs'
   clear hs'
   refine path_slot hH hs (.int .i64 ((w+1:Nat):Int)) rfl rfl (by decide) (fun _=>rfl) hke (fun a W' h=>by have e0:a.tmps.getD 38 undef=.int .i64 ((w+1:Nat):Int):=(h 38).trans (by simp[upF,g3,g7,g25,g26,g27]);clear h;rw[hP];go_simp<;>omega) (fun a W' h e he=>by have hm:=mem_listed he;have e0:a.tmps.getD 38 undef=.int .i64 ((w+1:Nat):Int):=(h 38).trans (by simp[upF,g3,g7,g25,g26,g27]);clear h;rw[hP]at hm;simp[go_sem,Act.eval,e0,-Array.getD_eq_getD_getElem?]at hm) fun a hs'=>?_
   replace hs:=hs'
   clear hs'
   refine path_region_end hH ?_
   refine path_inLoop hH ?_
   obtain ⟨g',hs,h3,h7,h25,h26,h27⟩:∃f,Slots a 40 f∧f 3=wslV Wb y.c∧f 7=.slice (some ⟨Zb,0,none⟩) (w+1) y.c∧f 25=wslV Wb y.c∧f 26=.int .i64 (y.c:Int)∧f 27=.int .i64 ((w+1:Nat):Int):=⟨_,hs,by simp[upF,g3,g7,g25,g26,g27],by simp[upF],by simp[upF,g3,g7,g25,g26,g27],by simp[upF,g3,g7,g25,g26,g27],by simp[upF]⟩
   refine Path.up (N:=nE+60*r+30) (by omega) ?_
   exact ih _ _ _ _ (by omega) BB hs h3 h7 h25 h26 h27
end
end Go.Proofs.Ytniloklglpchfai
