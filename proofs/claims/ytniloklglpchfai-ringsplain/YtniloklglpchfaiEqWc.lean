/- A group's Done as a goroutine's last call, in whatever company. No program in sight. -/
import Derived.Test.YtniloklglpchfaiPkEqBk
namespace Go.Proofs.Ytniloklglpchfai
open Go Go.Conc Go.ConcN Go.RowKit Go.Conc.Lib Go.ConcR.Gen Go.ConcN.Gen
open Go.ConcR (KK WgAt stA smA rd wr mk DC0)
section
variable (P:Program) (ty:TypeId) (Wg:Nat)
def StD4 (g:Goroutine) (w:World):Prop:=
 g.status=.running∧mayWake P g=true∧(WgAt ty Wg w 0 0→∃g',stepG P false g w=.go g' (w.setCell (smA Wg) (.int .u32 1)) (semEvents (smA Wg))∧∃q,QuitsD P q 1 g')
def StD3 (g:Goroutine) (w:World):Prop:=
 g.status=.running∧(WgAt ty Wg w 1 0→∃g',stepG P false g w=.go g' (w.setCell (stA Wg) (.int .u64 0)) #[wr (stA Wg)]∧∃m,Goes P false (RG ty Wg) DC0 (StD4 P ty Wg) m g' (w.setCell (stA Wg) (.int .u64 0)))
def StD2 (g:Goroutine) (w:World):Prop:=
 g.status=.running∧(WgAt ty Wg w 1 0→∃g',stepG P false g w=.go g' w #[rd (stA Wg)]∧∃m,Goes P false (RG ty Wg) DC0 (StD3 P ty Wg) m g' w)
def StD1 (g:Goroutine) (w:World):Prop:=
 g.status=.running∧∀v wt:Nat,wt≤1→v<2147483647→WgAt ty Wg w ((v+1)*KK+wt) 0→
  ∃g',stepG P false g w=.go g' (w.setCell (stA Wg) (.int .u64 (v*KK+wt))) #[rd (stA Wg),wr (stA Wg)]∧
   ((v=0∧wt=1)→∃m,Goes P false (RG ty Wg) DC0 (StD2 P ty Wg) m g' (w.setCell (stA Wg) (.int .u64 (v*KK+wt))))∧(¬(v=0∧wt=1)→∃q,QuitsD P q 1 g')
def StK1 (g:Goroutine) (w:World):Prop:=g.status=.running∧∃g',stepG P false g w=.go g' w #[mk .disable]∧∃m,Goes P false (RG ty Wg) DC0 (StD1 P ty Wg) m g' w
def StR0 (g:Goroutine) (w:World):Prop:=g.status=.running∧∃g',stepG P false g w=.go g' w #[mk (.releaseMerge (stA Wg))]∧∃m,Goes P false (RG ty Wg) DC0 (StK1 P ty Wg) m g' w
end
section
variable {L:WgLink} {Wg:Nat}
set_option maxRecDepth 100000 in
set_option maxHeartbeats 8000000 in
theorem add_less{P:Program}(H:WgLib P L){b₀:Frame}{a₀:Act}{ops₀:Array Oper}{i₀:Nat}{rest₀:List Nat}{k₀:List Item}{cs:List Frame}{qt:Nat}(hT:QuitsD P qt 0 (G (b₀.at (a₀.put ((ops₀[i₀]?).bind (·.dst)) (.tuple #[])) (.inRegion ops₀ rest₀::k₀)) cs))(w:World)(hF:WgLive L.tWg Wg w):
  Goes P false (RG L.tWg Wg) DC0 (StR0 P L.tWg Wg) 20
   (G ((base L.add).at ⟨#[.pointer (some ⟨Wg,0,none⟩),.int .i64 (-1),undef,undef,undef,undef,undef,undef,undef,undef,undef,undef,undef,undef,undef,undef,undef,undef,undef,undef,undef,undef,undef,undef,undef,undef,undef,undef,undef,undef,undef,undef,undef,undef,undef,undef,undef,undef,undef,undef,undef,undef,undef,undef,undef,undef,undef,undef,undef,undef,undef,undef,undef,undef,undef,undef,undef,undef,undef,undef,undef,undef,undef,undef,undef,undef,undef,undef,undef,undef,undef,undef,undef,undef,undef,undef,undef,undef,undef,undef,undef,undef,undef,undef,undef,undef,undef,undef,undef,undef,undef,undef,undef,undef,undef,undef,undef,undef,undef,undef,undef,undef,undef,undef,undef,undef,undef,undef,undef,undef,undef,undef,undef,undef,undef,undef,undef],[]⟩ [.code (body_add L)]) (b₀.at a₀ (.inRegion ops₀ (i₀::rest₀)::k₀)::cs)) w:=by
 lib_facts
 simp only[body_add,addFn,Option.getD_some]
 u_c stepG_seq rg_rely hF
 u_cond true rg_rely hF
 iterate 2 (u_c stepG_seq rg_rely hF)
 u_reg rg_rely hF
 iterate 2 (u_op rg_rely hF)
 u_c stepG_region_end rg_rely hF
 u_cond true rg_rely hF
 u_reg rg_rely hF
 u_op rg_rely hF
 u_conv H.underlying_tWgP H.room_tWg (WgLive.cell0 hF).choose_spec rg_rely hF
 refine Goes.stop (fun w1 h1=>?_)
 replace hF:=rg_rely hF h1
 clear h1
 refine ⟨rfl,_,stepG_markAt .releaseMerge (by simp) rfl rfl (by k_ne) rfl H.f_relMerge (x_relMerge_n L) (x_relMerge_b L) (x_relMerge_x L) (x_relMerge_f L) (by simp[Act.eval,stA]),10,?_⟩
 walk_nrm
 u_c stepG_region_end rg_rely hF
 u_c stepG_seq rg_rely hF
 u_reg rg_rely hF
 refine Goes.stop (fun w2 h2=>?_)
 replace hF:=rg_rely hF h2
 clear h2
 refine ⟨rfl,_,stepG_mark0 .disable (by simp) rfl rfl (by k_ne) rfl H.f_disable (x_disable_n L) (x_disable_b L) (x_disable_x L) (x_disable_f L),50,?_⟩
 walk_nrm
 u_c stepG_region_end rg_rely hF
 u_reg rg_rely hF
 u_defer rg_rely hF
 u_c stepG_region_end rg_rely hF
 u_c stepG_seq rg_rely hF
 u_reg rg_rely hF
 u_op rg_rely hF
 u_c stepG_region_end rg_rely hF
 iterate 2 (u_c stepG_seq rg_rely hF)
 u_reg rg_rely hF
 u_bub rg_rely hF
 u_c stepG_region_end rg_rely hF
 u_cond false rg_rely hF
 u_c stepG_skip rg_rely hF
 u_c stepG_seq rg_rely hF
 u_reg rg_rely hF
 iterate 6 (u_op rg_rely hF)
 u_call H.f_uAdd (nm_uAdd L) uAddFn rg_rely hF
 u_c stepG_seq rg_rely hF
 u_reg rg_rely hF
 u_op rg_rely hF
 u_c stepG_region_end rg_rely hF
 u_c stepG_seq rg_rely hF
 u_reg rg_rely hF
 iterate 4 (u_op rg_rely hF)
 refine Goes.stop (fun w3 h3=>?_)
 clear h3 hF
 refine ⟨rfl,fun v wt hwt hv hw=>?_⟩
 have e0:IntKind.u64.wrap (KK+18446744069414584320)=0:=by decide
 have e1:IntKind.u64.wrap (KK+1+18446744069414584320)=1:=by decide
 rcases Nat.eq_zero_or_pos v with rfl|hvp<;>(obtain rfl|rfl:wt=0∨wt=1:=by omega)
 ·replace hw:WgAt L.tWg Wg w3 KK 0:=by simpa using hw
  have z:((0:Nat):Int)*KK+((0:Nat):Int)=0:=by simp
  rw[z]
  refine ⟨_,(stepG_add_atomic rfl rfl (by k_ne) rfl H.f_addU64 (x_addU64_n L) (x_addU64_b L) (x_addU64_x L) .u64 (x_addU64_f L) rfl rfl hw.cellSt (hw.thaw 0)).trans (by rw[e0];rfl),fun hl=>absurd hl.2 (by decide),fun _=>⟨qt+89,?_⟩⟩
  clear hw
  walk_nrm
  q_val (.int .u64 0)
  q_c stepG_region_end
  q_c stepG_ret'
  q_leave1 H.f_uAdd
  q_val (.int .u64 0)
  q_c stepG_region_end
  iterate 2 (q_c stepG_seq)
  q_reg
  q_val (.int .u64 0)
  q_val (.int .u64 0)
  q_val (.bool false)
  q_val (.bool false)
  iterate 2 (q_skip)
  q_val (.bool false)
  q_c stepG_region_end
  q_cond false
  q_c stepG_skip
  q_c stepG_seq
  q_reg
  q_val (.int .u64 0)
  q_val (.int .u64 0)
  q_val (.int .i32 0)
  q_val (.int .i32 0)
  q_c stepG_region_end
  q_c stepG_seq
  q_reg
  q_val (.int .u64 0)
  q_val (.int .u64 0)
  q_val (.int .u32 0)
  q_val (.int .u32 0)
  q_c stepG_region_end
  iterate 2 (q_c stepG_seq)
  q_reg
  q_val (.bool true)
  q_val (.int .i64 (-1))
  q_val (.bool false)
  q_val (.bool false)
  q_val (.bool false)
  iterate 4 (q_skip)
  q_val (.bool false)
  q_c stepG_region_end
  q_cond false
  q_c stepG_skip
  iterate 2 (q_c stepG_seq)
  q_reg
  q_val (.int .i32 0)
  q_val (.bool false)
  q_c stepG_region_end
  q_cond false
  q_c stepG_skip
  iterate 2 (q_c stepG_seq)
  q_reg
  q_val (.int .u32 0)
  q_val (.bool false)
  q_val (.bool false)
  iterate 2 (q_skip)
  q_val (.bool false)
  q_val (.bool false)
  iterate 4 (q_skip)
  q_val (.bool false)
  q_c stepG_region_end
  q_cond false
  q_c stepG_skip
  iterate 2 (q_c stepG_seq)
  q_reg
  q_val (.int .i32 0)
  q_val (.bool false)
  q_val (.bool false)
  q_val (.int .u32 0)
  q_val (.bool true)
  q_val (.bool true)
  q_c stepG_region_end
  q_cond true
  q_c stepG_ret'
  q_enable
  q_leave0 H.f_add
  exact hT
 ·replace hw:WgAt L.tWg Wg w3 (KK+1) 0:=by simpa using hw
  have z:((0:Nat):Int)*KK+((1:Nat):Int)=1:=by simp
  rw[z]
  refine ⟨_,(stepG_add_atomic rfl rfl (by k_ne) rfl H.f_addU64 (x_addU64_n L) (x_addU64_b L) (x_addU64_x L) .u64 (x_addU64_f L) rfl rfl hw.cellSt (hw.thaw 0)).trans (by rw[e1];rfl),fun _=>⟨120,?_⟩,fun hl=>absurd ⟨rfl,rfl⟩ hl⟩
  have hF:WgLive L.tWg Wg (w3.setCell (stA Wg) (.int .u64 1)):=⟨_,_,hw.setSt 1⟩
  clear hw
  walk_nrm
  u_op rg_rely hF
  u_c stepG_region_end rg_rely hF
  u_c stepG_ret' rg_rely hF
  u_leave1 H.f_uAdd rg_rely hF
  u_op rg_rely hF
  u_c stepG_region_end rg_rely hF
  iterate 2 (u_c stepG_seq rg_rely hF)
  u_reg rg_rely hF
  iterate 4 (u_op rg_rely hF)
  iterate 2 (u_skip rg_rely hF)
  u_op rg_rely hF
  u_c stepG_region_end rg_rely hF
  u_cond false rg_rely hF
  u_c stepG_skip rg_rely hF
  u_c stepG_seq rg_rely hF
  u_reg rg_rely hF
  iterate 4 (u_op rg_rely hF)
  u_c stepG_region_end rg_rely hF
  u_c stepG_seq rg_rely hF
  u_reg rg_rely hF
  iterate 4 (u_op rg_rely hF)
  u_c stepG_region_end rg_rely hF
  iterate 2 (u_c stepG_seq rg_rely hF)
  u_reg rg_rely hF
  iterate 5 (u_op rg_rely hF)
  iterate 4 (u_skip rg_rely hF)
  u_op rg_rely hF
  u_c stepG_region_end rg_rely hF
  u_cond false rg_rely hF
  u_c stepG_skip rg_rely hF
  iterate 2 (u_c stepG_seq rg_rely hF)
  u_reg rg_rely hF
  iterate 2 (u_op rg_rely hF)
  u_c stepG_region_end rg_rely hF
  u_cond false rg_rely hF
  u_c stepG_skip rg_rely hF
  iterate 2 (u_c stepG_seq rg_rely hF)
  u_reg rg_rely hF
  iterate 7 (u_op rg_rely hF)
  iterate 4 (u_skip rg_rely hF)
  u_op rg_rely hF
  u_c stepG_region_end rg_rely hF
  u_cond false rg_rely hF
  u_c stepG_skip rg_rely hF
  iterate 2 (u_c stepG_seq rg_rely hF)
  u_reg rg_rely hF
  iterate 6 (u_op rg_rely hF)
  u_c stepG_region_end rg_rely hF
  u_cond false rg_rely hF
  u_c stepG_skip rg_rely hF
  iterate 2 (u_c stepG_seq rg_rely hF)
  u_reg rg_rely hF
  iterate 3 (u_op rg_rely hF)
  u_call H.f_uLoad (nm_uLoad L) uLoadFn rg_rely hF
  u_c stepG_seq rg_rely hF
  u_reg rg_rely hF
  u_op rg_rely hF
  u_c stepG_region_end rg_rely hF
  u_c stepG_seq rg_rely hF
  u_reg rg_rely hF
  iterate 3 (u_op rg_rely hF)
  refine Goes.stop (fun w4 h4=>?_)
  clear h4 hF
  refine ⟨rfl,fun hw=>⟨_,stepG_load_atomic rfl rfl (by k_ne) rfl H.f_loadU64 (x_loadU64_n L) (x_loadU64_b L) (x_loadU64_x L) .u64 (x_loadU64_f L) rfl hw.cellSt,40,?_⟩⟩
  have hF:WgLive L.tWg Wg w4:=⟨_,_,hw⟩
  clear hw
  walk_nrm
  u_op rg_rely hF
  u_c stepG_region_end rg_rely hF
  u_c stepG_ret' rg_rely hF
  u_leave1 H.f_uLoad rg_rely hF
  iterate 2 (u_op rg_rely hF)
  u_c stepG_region_end rg_rely hF
  u_cond false rg_rely hF
  u_c stepG_skip rg_rely hF
  u_c stepG_seq rg_rely hF
  u_reg rg_rely hF
  iterate 3 (u_op rg_rely hF)
  u_call H.f_uStore (nm_uStore L) uStoreFn rg_rely hF
  u_reg rg_rely hF
  iterate 4 (u_op rg_rely hF)
  refine Goes.stop (fun w5 h5=>?_)
  clear h5 hF
  refine ⟨rfl,fun hw=>⟨_,stepG_store_atomic rfl rfl (by k_ne) rfl H.f_storeU64 (x_storeU64_n L) (x_storeU64_b L) (x_storeU64_x L) (x_storeU64_f L) rfl rfl hw.cellSt (hw.thaw 0),50,?_⟩⟩
  have hF:WgLive L.tWg Wg (w5.setCell (stA Wg) (.int .u64 0)):=⟨_,_,hw.setSt 0⟩
  clear hw
  walk_nrm
  u_c stepG_region_end rg_rely hF
  u_c stepG_end rg_rely hF
  u_leave0 H.f_uStore rg_rely hF
  u_c stepG_region_end rg_rely hF
  iterate 2 (u_c stepG_seq rg_rely hF)
  u_reg rg_rely hF
  u_op rg_rely hF
  u_c stepG_region_end rg_rely hF
  u_cond false rg_rely hF
  u_c stepG_skip rg_rely hF
  u_c stepG_block rg_rely hF
  u_c stepG_loop rg_rely hF
  iterate 2 (u_c stepG_seq rg_rely hF)
  u_reg rg_rely hF
  iterate 2 (u_op rg_rely hF)
  u_c stepG_region_end rg_rely hF
  u_cond true rg_rely hF
  u_c stepG_skip rg_rely hF
  u_c stepG_seq rg_rely hF
  u_c stepG_block rg_rely hF
  u_reg rg_rely hF
  iterate 3 (u_op rg_rely hF)
  refine Goes.stop (fun w6 h6=>?_)
  clear h6 hF
  refine ⟨rfl,mayWake_entry rfl rfl H.f_semrelease (x_semrelease_b L),fun hw=>⟨_,(stepG_semrelease rfl rfl (by k_ne) rfl H.f_semrelease (x_semrelease_n L) (x_semrelease_b L) (x_semrelease_x L) (x_semrelease_f L) (by simp[Act.eval,smA]) hw.cellSm (hw.thaw 1)).trans (by rfl),qt+19,?_⟩⟩
  clear hw
  walk_nrm
  q_c stepG_region_end
  q_c stepG_inBlock
  q_reg
  q_val (.int .u32 1)
  q_val (.int .u32 0)
  q_val (.int .u32 0)
  q_c stepG_region_end
  q_c stepG_inLoop
  iterate 2 (q_c stepG_seq)
  q_reg
  q_val (.int .u32 0)
  q_val (.bool false)
  q_c stepG_region_end
  q_cond false
  q_exit
  q_c stepG_end
  q_enable
  q_leave0 H.f_add
  exact hT
 ·replace hw:WgAt L.tWg Wg w3 (((v:Nat)+1)*KK+0) 0:=by simpa using hw
  have z:((v:Nat):Int)*KK+((0:Nat):Int)=(v:Int)*KK+0:=by simp
  rw[z]
  have hv0:0<v:=by omega
  have eS:IntKind.u64.wrap (((v:Nat)+1)*KK+0+18446744069414584320)=(v:Int)*KK+0:=by rw[IntKind.wrap_u64];simp only[KK];omega
  obtain ⟨S,hS⟩:∃S:Int,S=(v:Int)*KK+0:=⟨_,rfl⟩
  rw[←hS]at eS ⊢
  have a1:S / 4294967296=(v:Int):=by rw[hS];simp only[KK];omega
  have a2:0≤S∧S<9223372036854775808:=by rw[hS];simp only[KK];omega
  have b1:bits .and .u64 S 2147483648=0:=by rw[hS];have:=st_flag v 0 (by omega) (by omega);simpa [KK] using this
  have b2:bits .and .u64 S 2147483647=0:=by rw[hS];have:=st_waiters v 0 (by omega) (by omega);simpa [KK] using this
  clear hS z
  refine ⟨_,(stepG_add_atomic rfl rfl (by k_ne) rfl H.f_addU64 (x_addU64_n L) (x_addU64_b L) (x_addU64_x L) .u64 (x_addU64_f L) rfl rfl hw.cellSt (hw.thaw 0)).trans (by rw[eS];rfl),fun hl=>absurd hl.1 (by omega),fun _=>⟨qt+89,?_⟩⟩
  clear hw
  walk_nrm
  q_vn (.int .u64 S)
  q_c stepG_region_end
  q_c stepG_ret'
  q_leave1 H.f_uAdd
  q_vn (.int .u64 S)
  q_c stepG_region_end
  iterate 2 (q_c stepG_seq)
  q_reg
  q_vn (.int .u64 S)
  q_vn (.int .u64 0)
  q_vn (.bool false)
  q_vn (.bool false)
  iterate 2 (q_skip)
  q_vn (.bool false)
  q_c stepG_region_end
  q_cond false
  q_c stepG_skip
  q_c stepG_seq
  q_reg
  q_vn (.int .u64 S)
  q_vn (.int .u64 (v:Int))
  q_vn (.int .i32 (v:Int))
  q_vn (.int .i32 (v:Int))
  q_c stepG_region_end
  q_c stepG_seq
  q_reg
  q_vn (.int .u64 S)
  q_vn (.int .u64 0)
  q_vn (.int .u32 0)
  q_vn (.int .u32 0)
  q_c stepG_region_end
  iterate 2 (q_c stepG_seq)
  q_reg
  q_vn (.bool true)
  q_vn (.int .i64 (-1))
  q_vn (.bool false)
  q_vn (.bool false)
  q_vn (.bool false)
  iterate 4 (q_skip)
  q_vn (.bool false)
  q_c stepG_region_end
  q_cond false
  q_c stepG_skip
  iterate 2 (q_c stepG_seq)
  q_reg
  q_vn (.int .i32 (v:Int))
  q_vn (.bool false)
  q_c stepG_region_end
  q_cond false
  q_c stepG_skip
  iterate 2 (q_c stepG_seq)
  q_reg
  q_vn (.int .u32 0)
  q_vn (.bool false)
  q_vn (.bool false)
  iterate 2 (q_skip)
  q_vn (.bool false)
  q_vn (.bool false)
  iterate 4 (q_skip)
  q_vn (.bool false)
  q_c stepG_region_end
  q_cond false
  q_c stepG_skip
  iterate 2 (q_c stepG_seq)
  q_reg
  q_vn (.int .i32 (v:Int))
  q_vn (.bool true)
  q_vn (.bool true)
  iterate 2 (q_skip)
  q_vn (.bool true)
  q_c stepG_region_end
  q_cond true
  q_c stepG_ret'
  q_enable
  q_leave0 H.f_add
  exact hT
 ·replace hw:WgAt L.tWg Wg w3 (((v:Nat)+1)*KK+1) 0:=by simpa using hw
  have z:((v:Nat):Int)*KK+((1:Nat):Int)=(v:Int)*KK+1:=by simp
  rw[z]
  have hv0:0<v:=by omega
  have eS:IntKind.u64.wrap (((v:Nat)+1)*KK+1+18446744069414584320)=(v:Int)*KK+1:=by rw[IntKind.wrap_u64];simp only[KK];omega
  obtain ⟨S,hS⟩:∃S:Int,S=(v:Int)*KK+1:=⟨_,rfl⟩
  rw[←hS]at eS ⊢
  have a1:S / 4294967296=(v:Int):=by rw[hS];simp only[KK];omega
  have a2:0≤S∧S<9223372036854775808:=by rw[hS];simp only[KK];omega
  have b1:bits .and .u64 S 2147483648=0:=by rw[hS];have:=st_flag v 1 (by omega) (by omega);simpa [KK] using this
  have b2:bits .and .u64 S 2147483647=1:=by rw[hS];have:=st_waiters v 1 (by omega) (by omega);simpa [KK] using this
  clear hS z
  refine ⟨_,(stepG_add_atomic rfl rfl (by k_ne) rfl H.f_addU64 (x_addU64_n L) (x_addU64_b L) (x_addU64_x L) .u64 (x_addU64_f L) rfl rfl hw.cellSt (hw.thaw 0)).trans (by rw[eS];rfl),fun hl=>absurd hl.1 (by omega),fun _=>⟨qt+89,?_⟩⟩
  clear hw
  walk_nrm
  q_vn (.int .u64 S)
  q_c stepG_region_end
  q_c stepG_ret'
  q_leave1 H.f_uAdd
  q_vn (.int .u64 S)
  q_c stepG_region_end
  iterate 2 (q_c stepG_seq)
  q_reg
  q_vn (.int .u64 S)
  q_vn (.int .u64 0)
  q_vn (.bool false)
  q_vn (.bool false)
  iterate 2 (q_skip)
  q_vn (.bool false)
  q_c stepG_region_end
  q_cond false
  q_c stepG_skip
  q_c stepG_seq
  q_reg
  q_vn (.int .u64 S)
  q_vn (.int .u64 (v:Int))
  q_vn (.int .i32 (v:Int))
  q_vn (.int .i32 (v:Int))
  q_c stepG_region_end
  q_c stepG_seq
  q_reg
  q_vn (.int .u64 S)
  q_vn (.int .u64 1)
  q_vn (.int .u32 1)
  q_vn (.int .u32 1)
  q_c stepG_region_end
  iterate 2 (q_c stepG_seq)
  q_reg
  q_vn (.bool true)
  q_vn (.int .i64 (-1))
  q_vn (.bool false)
  q_vn (.bool false)
  q_vn (.bool false)
  iterate 4 (q_skip)
  q_vn (.bool false)
  q_c stepG_region_end
  q_cond false
  q_c stepG_skip
  iterate 2 (q_c stepG_seq)
  q_reg
  q_vn (.int .i32 (v:Int))
  q_vn (.bool false)
  q_c stepG_region_end
  q_cond false
  q_c stepG_skip
  iterate 2 (q_c stepG_seq)
  q_reg
  q_vn (.int .u32 1)
  q_vn (.bool true)
  q_vn (.bool true)
  q_vn (.int .i64 (-1))
  q_vn (.bool false)
  q_vn (.bool false)
  q_vn (.bool false)
  iterate 4 (q_skip)
  q_vn (.bool false)
  q_c stepG_region_end
  q_cond false
  q_c stepG_skip
  iterate 2 (q_c stepG_seq)
  q_reg
  q_vn (.int .i32 (v:Int))
  q_vn (.bool true)
  q_vn (.bool true)
  iterate 2 (q_skip)
  q_vn (.bool true)
  q_c stepG_region_end
  q_cond true
  q_c stepG_ret'
  q_enable
  q_leave0 H.f_add
  exact hT
set_option maxRecDepth 100000 in
theorem done_one{P:Program}(H:WgLib P L){c:Frame}{cs:List Frame}{qt:Nat}(hcm:c.mode=.returning)(hT:QuitsD P qt 0 (G c cs))(w:World)(hF:WgLive L.tWg Wg w):
  Goes P false (RG L.tWg Wg) DC0 (StR0 P L.tWg Wg) 23 (G ((baseD L.done).at ⟨#[.pointer (some ⟨Wg,0,none⟩),undef,undef,undef],[]⟩ [.code (body_done L)]) (c::cs)) w:=by
 lib_facts
 have hA:=@add_less L Wg P H
 simp only[body_done,body_add,doneFn,addFn,Option.getD_some]at hA ⊢
 u_reg rg_rely hF
 u_op rg_rely hF
 u_in rg_rely hF
 refine goes_call rfl rfl (by k_ne) rfl H.f_add (nm_add L) rfl ⟨by u_nil,?_⟩
 walk_nrmf addFn
 refine hA (qt:=qt+3) ?_ _ hF
 q_c stepG_region_end
 q_c stepG_end
 exact QuitsD.leaveD rfl rfl H.f_done rfl hcm hT
end
end Go.Proofs.Ytniloklglpchfai
