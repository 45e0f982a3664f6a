/- A group's Wait, in whatever company, and whatever stands behind it: its steps up to the next place where the group is looked at. No program in sight. -/
import Derived.Test.YtniloklglpchfaiPkEqBk
namespace Go.Proofs.Ytniloklglpchfai
open Go Go.Conc Go.ConcN Go.RowKit Go.Conc.Lib Go.ConcR.Gen Go.ConcN.Gen
open Go.ConcR (KK WgAt stA smA rd wr mk DC0)
section
variable (P:Program) (ty:TypeId) (Wg:Nat) (back:Goroutine)
def StEnd:Goroutine→World→Prop:=StMk P ty Wg (mk .enable) (StMk P ty Wg (mk (.acquire (stA Wg))) fun g _=>g=back)
def StW4 (g:Goroutine) (w:World):Prop:=g.status=.running∧(WgAt ty Wg w 0 0→∃g',stepG P true g w=.go g' w #[rd (stA Wg)]∧∃m,Goes P true (RG ty Wg) DC0 (StEnd P ty Wg back) m g' w)
def StW3 (g:Goroutine) (w:World):Prop:=
 g.status=.running∧g.offers=none∧((∃st,WgAt ty Wg w st 0)→stepG P true g w=.go { g with status:=.blocked } w #[])∧
  (WgAt ty Wg w 0 1→∃g',stepG P true g w=.go g' (w.setCell (smA Wg) (.int .u32 0)) (semEvents (smA Wg))∧∃m,Goes P true (RG ty Wg) DC0 (StW4 P ty Wg back) m g' (w.setCell (smA Wg) (.int .u32 0)))
def StW2 (Anch:Goroutine→World→Prop) (vs:Nat) (g:Goroutine) (w:World):Prop:=
 g.status=.running∧∀v:Nat,v<2147483648→WgAt ty Wg w (v*KK) 0→
  (v=vs→∃g',stepG P true g w=.go g' (w.setCell (stA Wg) (.int .u64 (v*KK+1))) #[rd (stA Wg),wr (stA Wg)]∧∃m,Goes P true (RG ty Wg) DC0 (StMk P ty Wg ⟨.mark (.write ⟨Wg,1,none⟩),false,true⟩ (StW3 P ty Wg back)) m g' (w.setCell (stA Wg) (.int .u64 (v*KK+1))))∧
  (v≠vs→∃g',stepG P true g w=.go g' w #[rd (stA Wg)]∧∃m,Goes P true (RG ty Wg) DC0 Anch m g' w)
def StW1 (Anch:Goroutine→World→Prop) (g:Goroutine) (w:World):Prop:=
 g.status=.running∧∀v:Nat,v<2147483648→WgAt ty Wg w (v*KK) 0→∃g',stepG P true g w=.go g' w #[rd (stA Wg)]∧
  (v=0→∃m,Goes P true (RG ty Wg) DC0 (StEnd P ty Wg back) m g' w)∧(v≠0→∃m,Goes P true (RG ty Wg) DC0 (StW2 P ty Wg back Anch v) m g' w)
end
def Head (L:WgLink) (Wg:Nat) (c:Frame) (cs:List Frame) (g:Goroutine) (w:World):Prop:=
 ∃T:Array Value,g=G ((base L.wait).at ⟨T,[]⟩ [.code (L7 L),.inLoop (L7 L),.inBlock 0]) (c::cs)∧T.size=84∧T[0]?=some (.pointer (some ⟨Wg,0,none⟩))∧WgLive L.tWg Wg w
section
variable {L:WgLink} {Wg:Nat} {b₀:Frame} {a₀:Act} {ops₀:Array Oper} {i₀:Nat} {rest₀:List Nat} {k₀:List Item} {cs:List Frame}
set_option maxRecDepth 100000 in
set_option maxHeartbeats 8000000 in
theorem wait_head{P:Program}(H:WgLib P L)(g:Goroutine)(w:World)(h:Head L Wg (b₀.at a₀ (.inRegion ops₀ (i₀::rest₀)::k₀)) cs g w):
  ∃m,Goes P true (RG L.tWg Wg) DC0 (StW1 P L.tWg Wg (G (b₀.at (a₀.put ((ops₀[i₀]?).bind (·.dst)) (.tuple #[])) (.inRegion ops₀ rest₀::k₀)) cs) (Head L Wg (b₀.at a₀ (.inRegion ops₀ (i₀::rest₀)::k₀)) cs)) m g w:=by
 lib_facts
 obtain ⟨T,rfl,hT84,t0,hF⟩:=h
 obtain ⟨v0,v1,v2,v3,v4,v5,v6,v7,v8,v9,v10,v11,v12,v13,v14,v15,v16,v17,v18,v19,v20,v21,v22,v23,v24,v25,v26,v27,v28,v29,v30,v31,v32,v33,v34,v35,v36,v37,v38,v39,v40,v41,v42,v43,v44,v45,v46,v47,v48,v49,v50,v51,v52,v53,v54,v55,v56,v57,v58,v59,v60,v61,v62,v63,v64,v65,v66,v67,v68,v69,v70,v71,v72,v73,v74,v75,v76,v77,v78,v79,v80,v81,v82,v83,rfl⟩:=array84 T hT84
 simp only[List.getElem?_toArray,List.getElem?_cons_zero,Option.some.injEq]at t0
 subst t0
 refine ⟨30,?_⟩
 simp only[L7,body_wait,waitFn,Option.getD_some]
 u_c stepG_block rg_rely hF
 u_c stepG_seq rg_rely hF
 u_reg rg_rely hF
 iterate 3 (u_op rg_rely hF)
 u_call H.f_uLoad (nm_uLoad L) uLoadFn rg_rely hF
 u_c stepG_seq rg_rely hF
 u_reg rg_rely hF
 u_op rg_rely hF
 u_c stepG_region_end rg_rely hF
 u_c stepG_seq rg_rely hF
 u_reg rg_rely hF
 iterate 3 (u_op rg_rely hF)
 refine Goes.stop (fun w1 h1=>?_)
 replace hF:=rg_rely hF h1
 clear h1
 refine ⟨rfl,fun v hv hw=>?_⟩
 rcases Nat.eq_zero_or_pos v with rfl|hvp
 ·replace hw:WgAt L.tWg Wg w1 0 0:=by simpa using hw
  refine ⟨_,stepG_load_atomic (v:=0) rfl rfl (by k_ne) rfl H.f_loadU64 (x_loadU64_n L) (x_loadU64_b L) (x_loadU64_x L) .u64 (x_loadU64_f L) rfl hw.cellSt,fun _=>⟨50,?_⟩,fun h=>absurd rfl h⟩
  clear hw
  walk_nrm
  u_op rg_rely hF
  u_c stepG_region_end rg_rely hF
  u_c stepG_ret' rg_rely hF
  u_leave1 H.f_uLoad rg_rely hF
  u_op rg_rely hF
  u_c stepG_region_end rg_rely hF
  u_c stepG_seq rg_rely hF
  u_reg rg_rely hF
  iterate 4 (u_op rg_rely hF)
  u_c stepG_region_end rg_rely hF
  u_c stepG_seq rg_rely hF
  u_reg rg_rely hF
  iterate 4 (u_op rg_rely hF)
  u_c stepG_region_end rg_rely hF
  iterate 2 (u_c stepG_seq rg_rely hF)
  u_reg rg_rely hF
  iterate 2 (u_op rg_rely hF)
  u_c stepG_region_end rg_rely hF
  u_cond true rg_rely hF
  u_c stepG_seq rg_rely hF
  u_cond true rg_rely hF
  u_c stepG_seq rg_rely hF
  u_reg rg_rely hF
  refine Goes.stop (fun w5 h5=>?_)
  replace hF:=rg_rely hF h5
  clear h5
  refine ⟨rfl,_,stepG_mark0 .enable (by simp) rfl rfl (by k_ne) rfl H.f_enable (x_enable_n L) (x_enable_b L) (x_enable_x L) (x_enable_f L),12,?_⟩
  walk_nrm
  u_c stepG_region_end rg_rely hF
  u_reg rg_rely hF
  u_op rg_rely hF
  u_conv H.underlying_tWgP H.room_tWg (WgLive.cell0 hF).choose_spec rg_rely hF
  refine Goes.stop (fun w6 h6=>?_)
  replace hF:=rg_rely hF h6
  clear h6
  refine ⟨rfl,_,stepG_markAt .acquire (by simp) rfl rfl (by k_ne) rfl H.f_acquire (x_acquire_n L) (x_acquire_b L) (x_acquire_x L) (x_acquire_f L) (by simp[Act.eval,stA]),30,?_⟩
  walk_nrm
  u_c stepG_region_end rg_rely hF
  iterate 2 (u_c stepG_seq rg_rely hF)
  u_reg rg_rely hF
  iterate 8 (u_op rg_rely hF)
  iterate 2 (u_skip rg_rely hF)
  u_op rg_rely hF
  u_c stepG_region_end rg_rely hF
  u_cond false rg_rely hF
  u_c stepG_skip rg_rely hF
  u_c stepG_ret' rg_rely hF
  u_leave0 H.f_wait rg_rely hF
  exact Goes.stop fun _ _=>rfl
 ·obtain ⟨S,hS⟩:∃S:Int,(v:Int)*KK=S:=⟨_,rfl⟩
  have a1:S / 4294967296=(v:Int):=by rw[←hS];simp only[KK];omega
  have b1:bits .and .u64 S 2147483648=0:=by rw[←hS];have:=st_flag v 0 (by omega) (by omega);simpa [KK] using this
  have b2:bits .and .u64 S 2147483647=0:=by rw[←hS];have:=st_waiters v 0 (by omega) (by omega);simpa [KK] using this
  have c1:IntKind.i32.wrap (v:Int)=(v:Int):=by rw[IntKind.wrap_i32];omega
  have w1:IntKind.u64.wrap (S+1)=S+1:=by rw[IntKind.wrap_u64,←hS];simp only[KK];omega
  have q3:decide ((v:Int)<0)=false:=decide_eq_false (by omega)
  have q4:decide (0<(v:Int))=true:=decide_eq_true (by omega)
  have q5:((v:Int)==0)=false:=by simp;omega
  have q6:decide ((v:Int)=0)=false:=decide_eq_false (by omega)
  rw[hS]at hw
  refine ⟨_,stepG_load_atomic (v:=S) rfl rfl (by k_ne) rfl H.f_loadU64 (x_loadU64_n L) (x_loadU64_b L) (x_loadU64_x L) .u64 (x_loadU64_f L) rfl hw.cellSt,fun h0=>absurd h0 (by omega),fun _=>⟨60,?_⟩⟩
  clear hw
  walk_nrm
  u_op rg_rely hF
  u_c stepG_region_end rg_rely hF
  u_c stepG_ret' rg_rely hF
  u_leave1 H.f_uLoad rg_rely hF
  u_op rg_rely hF
  u_c stepG_region_end rg_rely hF
  u_c stepG_seq rg_rely hF
  u_reg rg_rely hF
  iterate 4 (u_op rg_rely hF)
  u_c stepG_region_end rg_rely hF
  u_c stepG_seq rg_rely hF
  u_reg rg_rely hF
  iterate 4 (u_op rg_rely hF)
  u_c stepG_region_end rg_rely hF
  iterate 2 (u_c stepG_seq rg_rely hF)
  u_reg rg_rely hF
  iterate 2 (u_op rg_rely hF)
  u_c stepG_region_end rg_rely hF
  u_cnd false rg_rely hF
  u_c stepG_skip rg_rely hF
  u_c stepG_seq rg_rely hF
  u_reg rg_rely hF
  iterate 6 (u_op rg_rely hF)
  u_call H.f_uCas (nm_uCas L) uCasFn rg_rely hF
  u_c stepG_seq rg_rely hF
  u_reg rg_rely hF
  u_op rg_rely hF
  u_c stepG_region_end rg_rely hF
  u_c stepG_seq rg_rely hF
  u_reg rg_rely hF
  iterate 5 (u_op rg_rely hF)
  refine Goes.stop (fun w2 h2=>?_)
  replace hF:=rg_rely hF h2
  clear h2
  refine ⟨rfl,fun v' hv' hw=>⟨fun e=>?_,fun e=>?_⟩⟩
  ·subst e
   rw[hS]at hw ⊢
   refine ⟨_,(stepG_cas_hit (v:=S) (n:=S+1) rfl rfl (by k_ne) rfl H.f_casU64 (x_casU64_n L) (x_casU64_b L) (x_casU64_x L) .u64 (x_casU64_f L) rfl rfl rfl hw.cellSt (hw.thaw 0)).trans (by rfl),70,?_⟩
   replace hF:WgLive L.tWg Wg (w2.setCell (stA Wg) (.int .u64 (S+1))):=⟨_,_,hw.setSt _⟩
   clear hw
   walk_nrm
   u_op rg_rely hF
   u_c stepG_region_end rg_rely hF
   u_c stepG_ret' rg_rely hF
   u_leave1 H.f_uCas rg_rely hF
   u_c stepG_region_end rg_rely hF
   u_cond true rg_rely hF
   iterate 2 (u_c stepG_seq rg_rely hF)
   u_reg rg_rely hF
   iterate 4 (u_op rg_rely hF)
   u_c stepG_region_end rg_rely hF
   u_cond true rg_rely hF
   u_reg rg_rely hF
   iterate 3 (u_op rg_rely hF)
   u_conv H.underlying_tPU32 H.room_tU32 (WgLive.cell1 hF).choose_spec rg_rely hF
   refine Goes.stop (fun w7 h7=>?_)
   replace hF:=rg_rely hF h7
   clear h7
   refine ⟨rfl,_,stepG_markAt .write (by simp) rfl rfl (by k_ne) rfl H.f_raceWrite (x_raceWrite_n L) (x_raceWrite_b L) (x_raceWrite_x L) (x_raceWrite_f L) (ad:=⟨Wg,1,none⟩) (by simp[Act.eval]),40,?_⟩
   walk_nrm
   u_c stepG_region_end rg_rely hF
   u_c stepG_seq rg_rely hF
   u_reg rg_rely hF
   u_op rg_rely hF
   u_c stepG_region_end rg_rely hF
   iterate 2 (u_c stepG_seq rg_rely hF)
   u_reg rg_rely hF
   iterate 4 (u_op rg_rely hF)
   u_skip rg_rely hF
   u_op rg_rely hF
   u_c stepG_region_end rg_rely hF
   u_cond false rg_rely hF
   u_c stepG_skip rg_rely hF
   u_c stepG_seq rg_rely hF
   u_reg rg_rely hF
   iterate 4 (u_op rg_rely hF)
   refine Goes.stop (fun w3 h3=>?_)
   replace hF:=rg_rely hF h3
   clear h3
   refine ⟨rfl,rfl,fun ⟨st,hw⟩=>stepG_semacquire_wait rfl rfl rfl H.f_semacquire (x_semacquire_n L) (x_semacquire_b L) (x_semacquire_x L) (x_semacquire_f L) (by simp[Act.eval,smA]) hw.cellSm,fun hf=>?_⟩
   refine ⟨_,(stepG_semacquire (n:=1) rfl rfl (by k_ne) rfl H.f_semacquire (x_semacquire_n L) (x_semacquire_b L) (x_semacquire_x L) (x_semacquire_f L) (by simp[Act.eval,smA]) hf.cellSm (by k_ne) (hf.thaw 1)).trans (by rfl),30,?_⟩
   replace hF:WgLive L.tWg Wg (w3.setCell (smA Wg) (.int .u32 0)):=⟨_,_,hf.setSm 0⟩
   clear hf
   walk_nrm
   u_c stepG_region_end rg_rely hF
   u_c stepG_seq rg_rely hF
   u_reg rg_rely hF
   iterate 3 (u_op rg_rely hF)
   u_call H.f_uLoad (nm_uLoad L) uLoadFn rg_rely hF
   u_c stepG_seq rg_rely hF
   u_reg rg_rely hF
   u_op rg_rely hF
   u_c stepG_region_end rg_rely hF
   u_c stepG_seq rg_rely hF
   u_reg rg_rely hF
   iterate 3 (u_op rg_rely hF)
   refine Goes.stop (fun w4 h4=>?_)
   replace hF:=rg_rely hF h4
   clear h4
   refine ⟨rfl,fun hw=>⟨_,stepG_load_atomic (v:=0) rfl rfl (by k_ne) rfl H.f_loadU64 (x_loadU64_n L) (x_loadU64_b L) (x_loadU64_x L) .u64 (x_loadU64_f L) rfl hw.cellSt,30,?_⟩⟩
   clear hw
   walk_nrm
   u_op rg_rely hF
   u_c stepG_region_end rg_rely hF
   u_c stepG_ret' rg_rely hF
   u_leave1 H.f_uLoad rg_rely hF
   iterate 2 (u_op rg_rely hF)
   u_c stepG_region_end rg_rely hF
   u_c stepG_seq rg_rely hF
   u_cond true rg_rely hF
   u_c stepG_seq rg_rely hF
   u_reg rg_rely hF
   refine Goes.stop (fun w5 h5=>?_)
   replace hF:=rg_rely hF h5
   clear h5
   refine ⟨rfl,_,stepG_mark0 .enable (by simp) rfl rfl (by k_ne) rfl H.f_enable (x_enable_n L) (x_enable_b L) (x_enable_x L) (x_enable_f L),12,?_⟩
   walk_nrm
   u_c stepG_region_end rg_rely hF
   u_reg rg_rely hF
   u_op rg_rely hF
   u_conv H.underlying_tWgP H.room_tWg (WgLive.cell0 hF).choose_spec rg_rely hF
   refine Goes.stop (fun w6 h6=>?_)
   replace hF:=rg_rely hF h6
   clear h6
   refine ⟨rfl,_,stepG_markAt .acquire (by simp) rfl rfl (by k_ne) rfl H.f_acquire (x_acquire_n L) (x_acquire_b L) (x_acquire_x L) (x_acquire_f L) (by simp[Act.eval,stA]),30,?_⟩
   walk_nrm
   u_c stepG_region_end rg_rely hF
   iterate 2 (u_c stepG_seq rg_rely hF)
   u_reg rg_rely hF
   u_op rg_rely hF
   u_c stepG_region_end rg_rely hF
   u_cond false rg_rely hF
   u_c stepG_skip rg_rely hF
   u_c stepG_ret' rg_rely hF
   u_leave0 H.f_wait rg_rely hF
   exact Goes.stop fun _ _=>rfl
  ·refine ⟨_,stepG_cas_miss (v:=(v':Int)*KK) (old:=S) (n:=S+1) rfl rfl (by k_ne) rfl H.f_casU64 (x_casU64_n L) (x_casU64_b L) (x_casU64_x L) .u64 (x_casU64_f L) rfl rfl rfl hw.cellSt (hw.thaw 0) (by rw[←hS];simp only[KK];omega),20,?_⟩
   clear hw
   walk_nrm
   u_op rg_rely hF
   u_c stepG_region_end rg_rely hF
   u_c stepG_ret' rg_rely hF
   u_leave1 H.f_uCas rg_rely hF
   u_c stepG_region_end rg_rely hF
   u_cond false rg_rely hF
   u_c stepG_skip rg_rely hF
   u_c stepG_inBlock rg_rely hF
   u_c stepG_inLoop rg_rely hF
   exact Goes.stop fun w3 h3=>⟨_,rfl,by simp,by simp,rg_rely hF h3⟩
set_option maxRecDepth 100000 in
theorem wait_start{P:Program}(H:WgLib P L)(w:World)(hF:WgLive L.tWg Wg w):
  Goes P true (RG L.tWg Wg) DC0 (StMk P L.tWg Wg (mk .disable) (Head L Wg (b₀.at a₀ (.inRegion ops₀ (i₀::rest₀)::k₀)) cs)) 3
   (G ((base L.wait).at ⟨#[.pointer (some ⟨Wg,0,none⟩),undef,undef,undef,undef,undef,undef,undef,undef,undef,undef,undef,undef,undef,undef,undef,undef,undef,undef,undef,undef,undef,undef,undef,undef,undef,undef,undef,undef,undef,undef,undef,undef,undef,undef,undef,undef,undef,undef,undef,undef,undef,undef,undef,undef,undef,undef,undef,undef,undef,undef,undef,undef,undef,undef,undef,undef,undef,undef,undef,undef,undef,undef,undef,undef,undef,undef,undef,undef,undef,undef,undef,undef,undef,undef,undef,undef,undef,undef,undef,undef,undef,undef,undef],[]⟩ [.code (body_wait L)]) ((b₀.at a₀ (.inRegion ops₀ (i₀::rest₀)::k₀))::cs)) w:=by
 lib_facts
 simp only[body_wait,waitFn,Option.getD_some]
 u_c stepG_seq rg_rely hF
 u_cond true rg_rely hF
 u_reg rg_rely hF
 refine Goes.stop (fun w1 h1=>?_)
 replace hF:=rg_rely hF h1
 clear h1
 refine ⟨rfl,_,stepG_mark0 .disable (by simp) rfl rfl (by k_ne) rfl H.f_disable (x_disable_n L) (x_disable_b L) (x_disable_x L) (x_disable_f L),4,?_⟩
 walk_nrm
 u_c stepG_region_end rg_rely hF
 u_c stepG_block rg_rely hF
 u_c stepG_loop rg_rely hF
 exact Goes.stop fun w3 h3=>⟨_,rfl,by simp,by simp,rg_rely hF h3⟩
end
end Go.Proofs.Ytniloklglpchfai
