/- What the queue of package mail does: put and take, in one goroutine. -/
import Derived.Test.YtniloklglpchfakGreatPkWrR1
import Derived.Test.YtniloklglpchfakGreatPkFix
import Derived.KernelRfl
import Derived.Laws.AppendOwnNone
import Derived.Lib.SliceRun
import Derived.Conc.LoneSelectN
import Derived.Test.YtniloklglpchfakGreatPkLvOf
namespace Go.Proofs.YtniloklglpchfakGreat
open Go.RowKit Go.Conc
theorem keep_five(U V:World)(hb:Below U.heap.size U V)(R:Nat)(y0 y1 y2 y3 y4:Value):Kept (fun b=>b=R) U (((((V.setCell ⟨R,0,none⟩ y0).setCell ⟨R,1,none⟩ y1).setCell ⟨R,2,none⟩ y2).setCell ⟨R,3,none⟩ y3).setCell ⟨R,4,none⟩ y4):=
 (((((Kept.of hb).trans (Kept.set (X:=fun b=>b=R) (B:=R) V rfl 0 y0) (fun _ _ e=>e)).trans (Kept.set (X:=fun b=>b=R) (B:=R) _ rfl 1 y1) (fun _ _ e=>e)).trans (Kept.set (X:=fun b=>b=R) (B:=R) _ rfl 2 y2) (fun _ _ e=>e)).trans (Kept.set (X:=fun b=>b=R) (B:=R) _ rfl 3 y3) (fun _ _ e=>e)).trans (Kept.set (X:=fun b=>b=R) (B:=R) _ rfl 4 y4) (fun _ _ e=>e)
set_option maxHeartbeats 4000000 in
set_option maxRecDepth 100000 in
theorem qput_room(P Pv:Nat→Prop)(B C n:Nat)(ms:List (Int×Int×Mx))(m:Int×Int×Mx)(v:Value)(w:World)(h:BoxIs w P B C n false ms)(hv:InQ w Pv v m)(hvl:∀b,Pv b→b<w.heap.size)(hvC:¬Pv C)(hroom:ms.length<n):
  Calls Tryz.prog 71 #[.pointer (some ⟨B,0,none⟩),v] w fun e w'=>e=.returned .nilIface∧BoxIs w' (fun b=>P b∨Pv b) B C n false (ms++[m])∧Kept (fun b=>b=C) w w':=by
 obtain ⟨s0,rfl,hs0,hp0⟩:=hv
 obtain ⟨x1,x2,b⟩:=m
 obtain ⟨r,hr⟩:=gN (b.rows)
 obtain ⟨c,hc⟩:=gN (b.cols)
 obtain ⟨sa,sc,rfl,hs2⟩:=id hs0
 obtain ⟨sn,hsn⟩:=gN (b.cells.length)
 dsimp only at hs0 hp0 hsn ⊢
 rw[hsn]at hs0 hp0 ⊢
 rw[hr,hc]
 have hbl:=o_ w (.cells #[.int .i64 x1,.int .i64 x2,.int .i64 r,.int .i64 c,.slice sa sn sc] 63)
 have hbk5:=Blk5.new w (.int .i64 x1) (.int .i64 x2) (.int .i64 r) (.int .i64 c) (.slice sa sn sc)
 obtain ⟨W,hW⟩:=gM (w.alloc (.cells #[.int .i64 x1,.int .i64 x2,.int .i64 r,.int .i64 c,.slice sa sn sc] 63))
 rw[←hW]at hbl hbk5
 have hB:=h.keep (Kept.of (X:=fun _=>False) hbl) (fun _ _ e=>e)
 obtain ⟨buf,s,q,hch,hbs,hq⟩:=hB.ch
 have hcel:=Joins.cell_of_block hB.bx
 have g0:W.cell? ⟨B,1,none⟩=some (.int .i32 0):=by rw[hcel];rfl
 have z0:=Joins.unfrozen_of_block hB.bx 1
 have hkV:=Kept.set (X:=fun b=>b=B) W rfl 1 (.int .i32 1)
 have hVB:=Joins.block_setCell hB.bx (i:=1) (.int .i32 1)
 have hVC:=(hkV.block C (hB.lt C hB.pC) (fun e=>hB.ne e.symm)).trans hch
 have hV5:Blk5 (W.setCell ⟨B,1,none⟩ (.int .i32 1)) w.heap.size (.int .i64 x1) (.int .i64 x2) (.int .i64 r) (.int .i64 c) (.slice sa sn sc):=(hkV.block _ hbk5.lt (fun e=>by have:=h.lt B h.pB;omega)).trans hbk5
 obtain ⟨V,hV⟩:=gM (W.setCell ⟨B,1,none⟩ (.int .i32 1))
 rw[←hV]at hVB hVC hV5
 have hcv:=Joins.cell_of_block hVB
 have k0:V.cell? ⟨B,0,none⟩=some (.chan (some C)):=by rw[hcv];rfl
 have k1:V.cell? ⟨B,1,none⟩=some (.int .i32 1):=by rw[hcv];rfl
 have k3:V.cell? ⟨B,3,none⟩=some (.bool false):=by rw[hcv];rfl
 have z1:=Joins.unfrozen_of_block hVB 1
 obtain ⟨d0,d1,d2,d3,d4⟩:=hV5.c
 have HW:=h_ hW
 have HV:=h_ hV
 clear hW hV hcel hcv
 refine calls_of_loneTo fun cs=>?_
 have e:Frame.enter Tryz.prog 71 #[.pointer (some ⟨B,0,none⟩),.agg #[.int .i64 x1,.int .i64 x2,.int .i64 r,.int .i64 c,.slice sa sn sc]] .normal=(base 71).at ⟨#[.pointer (some ⟨B,0,none⟩),.agg #[.int .i64 x1,.int .i64 x2,.int .i64 r,.int .i64 c,.slice sa sn sc],undef,undef,undef,undef,undef,undef,undef,undef,undef,undef,undef,undef,undef,undef,undef,undef,undef,undef,undef,undef,undef,undef,undef,undef],[]⟩ [.code (Tryz.f71.body.getD .skip)]:=by
  simp[Frame.enter,Frame.at,Tryz.func71,base,Tryz.f71]
 rw[e]
 refine LoneTo.goes (n:=60) ?_
 simp only[Tryz.f71,Option.getD_some]
 s_c stepG_seq
 s_reg
 s_op
 s_op
 s_c stepG_region_end
 s_c stepG_seq
 s_reg
 s_op
 s_op
 s_op
 s_stop
 refine lone_call (R:=fun v w'=>v=.tuple #[]∧w'=V) rfl rfl (run_call_body rfl Tryz.func102 (by kernel_rfl) (by kernel_rfl)) ?_ ?_
 ·rw[←HW.out]
  walk_nrm
  refine (mlock ⟨B,1,none⟩ W g0 z0).mono ?_
  rintro e w' ⟨rfl,rfl⟩
  exact ⟨_,rfl,rfl,HV.out.symm⟩
 rintro v w' ⟨rfl,rfl⟩
 walk_nrm
 refine LoneTo.goes (n:=60) ?_
 s_c stepG_region_end
 s_c stepG_seq
 s_reg
 s_op
 s_op
 s_op
 (s_in;rw[stepG_defer rfl rfl (by decide) rfl];simp only[goes_go];refine ⟨trivial,?_⟩;walk_nrm)
 s_c stepG_region_end
 s_c stepG_seq
 s_c stepG_seq
 s_reg
 s_op
 s_op
 s_op
 s_op
 s_c stepG_region_end
 s_cond false
 s_c stepG_skip
 s_c stepG_seq
 s_c stepG_seq
 s_reg
 s_op
 s_op
 s_op
 s_op
 s_c stepG_region_end
 s_reg
 s_op
 s_c stepG_region_end
 s_c stepG_seq
 s_reg
 s_stop
 refine LoneTo.step (step_lone_select_send_room (c:=C) (v:=.agg #[.int .i64 x1,.int .i64 x2,.int .i64 r,.int .i64 c,.slice sa sn sc]) (z':=.agg #[.int .i64 0,.int .i64 0,.int .i64 0,.int .i64 0,.slice none 0 0]) (cap:=n) (buf:=buf) (s:=s) (r:=q) (tm:=false) (stepG_comm (cases:=#[scase C (.agg #[.int .i64 x1,.int .i64 x2,.int .i64 r,.int .i64 c,.slice sa sn sc]) (.agg #[.int .i64 0,.int .i64 0,.int .i64 0,.int .i64 0,.slice none 0 0])]) (blocking:=false) (shape:=.select) (w':=w') rfl rfl (by decide) (by simp[go_sem,execOp,scase,Act.eval])) hVC (by omega)) ?_
 rw[Frame.finish_at]
 walk_nrm
 refine LoneTo.goes (n:=20) ?_
 s_op
 s_op
 s_c stepG_region_end
 s_c stepG_block
 s_cond true
 s_c stepG_seq
 s_reg
 s_op
 s_c stepG_region_end
 s_c stepG_ret'
 s_stop
 have hkc:=keep_chan (fun b=>b=C) w' C n (buf.push (.agg #[.int .i64 x1,.int .i64 x2,.int .i64 r,.int .i64 c,.slice sa sn sc])) false (s+1) q false rfl
 have hB3:=(hkc.block B (Array.getElem?_eq_some_iff.1 hVB).1 hB.ne).trans hVB
 refine lone_leaves Tryz.func71 rfl rfl rfl (by rintro _ ⟨h,_⟩;cases h) ?_
 refine leaves_cons (f:=103) (args:=#[.pointer (some ⟨B,1,none⟩)]) (by simp) (by simp[go_sem]) ?_
 refine (munlock ⟨B,1,none⟩ .returning _ (by rw[Joins.cell_of_block hB3];rfl) (Joins.unfrozen_of_block hB3 1)).mono ?_
 rintro e u' w'' ⟨rfl,rfl,rfl⟩
 refine ⟨_,results_tmp rfl _ _ _,rfl,?_,?_⟩
 ·rw[HV.out,lock_chan hB.bx hB.ne]
  exact hB.push (m:=(x1,x2,b)) (v:=.agg #[.int .i64 x1,.int .i64 x2,.int .i64 r,.int .i64 c,.slice sa sn sc]) hch hbs hq ⟨_,by rw[hr,hc],hs0.u_ hbl,hp0⟩ (fun b hb=>Nat.lt_of_lt_of_le (hvl b hb) hbl.size) hvC hroom rfl
 ·rw[HV.out,lock_chan hB.bx hB.ne]
  exact (Kept.of hbl).trans (keep_chan (fun b=>b=C) W C n _ false _ _ false rfl) (fun _ _ e=>e)
set_option maxHeartbeats 4000000 in
set_option maxRecDepth 100000 in
theorem qtake_some(P:Nat→Prop)(B C n:Nat)(cl:Bool)(m:Int×Int×Mx)(ms:List (Int×Int×Mx))(w:World)(h:BoxIs w P B C n cl (m::ms)):
  Calls Tryz.prog 62 #[.pointer (some ⟨B,0,none⟩)] w fun e w'=>∃u,e=.returned (.tuple #[u,.nilIface])∧InQ w' P u m∧BoxIs w' P B C n cl ms∧Kept (fun b=>b=C) w w':=by
 have hbl:=o_ w (.cells #[.int .i64 0,.int .i64 0,.int .i64 0,.int .i64 0,.slice none 0 0] 63)
 have hbm:=o_ (w.alloc (.cells #[.int .i64 0,.int .i64 0,.int .i64 0,.int .i64 0,.slice none 0 0] 63)) (.cells #[.int .i64 0,.int .i64 0,.int .i64 0,.int .i64 0,.slice none 0 0] 63)
 have hbl2:=bel_on hbl hbm
 have hr1:=(Blk5.new w (.int .i64 0) (.int .i64 0) (.int .i64 0) (.int .i64 0) (.slice none 0 0)).bel hbm (Blk5.new w _ _ _ _ _).lt
 have hr2:=Blk5.new (w.alloc (.cells #[.int .i64 0,.int .i64 0,.int .i64 0,.int .i64 0,.slice none 0 0] 63)) (.int .i64 0) (.int .i64 0) (.int .i64 0) (.int .i64 0) (.slice none 0 0)
 rw[World.size_alloc]at hr2
 obtain ⟨W,hW⟩:=gM ((w.alloc (.cells #[.int .i64 0,.int .i64 0,.int .i64 0,.int .i64 0,.slice none 0 0] 63)).alloc (.cells #[.int .i64 0,.int .i64 0,.int .i64 0,.int .i64 0,.slice none 0 0] 63))
 rw[←hW]at hbl2 hr1 hr2
 have hB:=h.keep (Kept.of (X:=fun _=>False) hbl2) (fun _ _ e=>e)
 obtain ⟨buf,s,q,hch,hbs,hq⟩:=hB.ch
 have hcel:=Joins.cell_of_block hB.bx
 have k0:((w.alloc (.cells #[.int .i64 0,.int .i64 0,.int .i64 0,.int .i64 0,.slice none 0 0] 63)).alloc (.cells #[.int .i64 0,.int .i64 0,.int .i64 0,.int .i64 0,.slice none 0 0] 63)).cell? ⟨B,0,none⟩=some (.chan (some C)):=by rw[←hW,hcel];rfl
 have HW:=h_ hW
 clear hW
 obtain ⟨hpop,hin⟩:=hB.pop hch hbs hq rfl
 obtain ⟨x1,x2,b⟩:=m
 obtain ⟨sx,hu,hsx,_⟩:=id hin
 obtain ⟨sa,sc,rfl,_⟩:=id hsx
 dsimp only at hu
 obtain ⟨r,hr⟩:=gN (b.rows)
 obtain ⟨c,hc⟩:=gN (b.cols)
 obtain ⟨sn,hsn⟩:=gN (b.cells.length)
 dsimp only at hsn hsx
 rw[hr,hc,hsn]at hu
 obtain ⟨U,hU⟩:=gM (W.setChan C n (buf.extract 1 buf.size) cl s (q+1) false)
 rw[←hU]at hpop hin
 have hkU:Kept (fun b=>b=C) W U:=by rw[hU];exact keep_chan _ _ _ _ _ _ _ _ _ rfl
 have HU:=h_ hU
 clear hU
 have hCn:C≠w.heap.size∧C≠w.heap.size+1:=by have:=h.lt C h.pC;omega
 have hv1:Blk5 U w.heap.size (.int .i64 0) (.int .i64 0) (.int .i64 0) (.int .i64 0) (.slice none 0 0):=(hkU.block _ hr1.lt (fun e=>hCn.1 e.symm)).trans hr1
 have hv2:=hv1.bel (o_ U (.cells #[.int .i64 x1,.int .i64 x2,.int .i64 r,.int .i64 c,.slice sa sn sc] 63)) hv1.lt
 obtain ⟨c0,c1,c2,c3,c4⟩:=hv2.c
 have f0:=hv2.f 0
 have f1:=hv2.f 1
 have f2:=hv2.f 2
 have f3:=hv2.f 3
 have f4:=hv2.f 4
 have hRP:∀b,P b→b≠w.heap.size:=fun b hb e=>by have:=h.lt b hb;omega
 have HPOP:=h_ hpop
 have HIN:=h_ hin
 have HRC:=h_ (And.intro hr (And.intro hc hsn))
 have HKU:=h_ hkU
 clear hpop hin hsx hr hc hsn hq hcel hkU
 refine calls_of_loneTo fun cs=>?_
 have e:Frame.enter Tryz.prog 62 #[.pointer (some ⟨B,0,none⟩)] .normal=(base 62).at ⟨#[.pointer (some ⟨B,0,none⟩),undef,undef,undef,undef,undef,undef,undef,undef,undef,undef,undef,undef,undef,undef,undef,undef,undef,undef,undef,undef,undef,undef],[]⟩ [.code (Tryz.f62.body.getD .skip)]:=by
  simp[Frame.enter,Frame.at,Tryz.func62,base,Tryz.f62]
 rw[e]
 refine LoneTo.goes (n:=60) ?_
 simp only[Tryz.f62,Option.getD_some]
 s_c stepG_seq
 s_reg
 s_op
 s_op
 s_c stepG_region_end
 s_c stepG_seq
 s_reg
 s_op
 s_c stepG_region_end
 s_c stepG_seq
 s_reg
 s_op
 s_op
 s_op
 s_op
 s_c stepG_region_end
 s_c stepG_seq
 s_reg
 s_stop
 rw[←HW.out]
 refine LoneTo.step (step_lone_select_recv_buf (c:=C) (z:=.agg #[.int .i64 0,.int .i64 0,.int .i64 0,.int .i64 0,.slice none 0 0]) (cap:=n) (buf:=buf) (closed:=cl) (s:=s) (r:=q) (tm:=false) (stepG_comm (cases:=#[rcase C (.agg #[.int .i64 0,.int .i64 0,.int .i64 0,.int .i64 0,.slice none 0 0])]) (blocking:=false) (shape:=.select) (w':=W) rfl rfl (by decide) (by simp[go_sem,execOp,rcase,Act.eval])) hch (by simp at hbs;omega)) ?_
 rw[Frame.finish_at,←HU.out,hu]
 walk_nrm
 refine LoneTo.goes (n:=40) ?_
 s_op
 s_op
 s_c stepG_region_end
 s_c stepG_block
 s_cond true
 s_c stepG_seq
 s_reg
 s_op
 s_op
 s_op
 s_op
 s_op
 s_c stepG_region_end
 s_c stepG_seq
 s_c stepG_seq
 s_reg
 s_op
 s_op
 s_c stepG_region_end
 s_cond false
 s_c stepG_skip
 s_c stepG_seq
 s_reg
 s_op
 s_op
 s_op
 s_c stepG_region_end
 s_c stepG_ret'
 s_stop
 refine LoneTo.done ⟨.returned (.tuple #[.agg #[.int .i64 x1,.int .i64 x2,.int .i64 r,.int .i64 c,.slice sa sn sc],.nilIface]),_,rfl,⟨_,rfl,?_⟩,rfl,rfl,rfl,rfl,_,Tryz.func62,by simp[results,Tryz.f62,Frame.at,go_sem,c0,c1,c2,c3,c4]⟩
 have hk5:=keep_five U _ (o_ U (.cells #[.int .i64 x1,.int .i64 x2,.int .i64 r,.int .i64 c,.slice sa sn sc] 63)) w.heap.size (.int .i64 x1) (.int .i64 x2) (.int .i64 r) (.int .i64 c) (.slice sa sn sc)
 refine ⟨?_,HPOP.out.keep hk5 hRP,?_⟩
 ·have:=HIN.out.keep hk5 hRP
  rw[hu]at this
  exact this
 ·exact ((Kept.of hbl2).trans HKU.out (fun _ _ e=>e)).trans hk5 (fun b hb e=>absurd e (by omega))
set_option maxHeartbeats 4000000 in
set_option maxRecDepth 100000 in
theorem qtake_none(P:Nat→Prop)(B C n:Nat)(w:World)(h:BoxIs w P B C n false []):
  Calls Tryz.prog 62 #[.pointer (some ⟨B,0,none⟩)] w fun e w'=>∃u,e=.returned (.tuple #[u,.iface 94 (.int .i64 4)])∧u=.agg #[.int .i64 0,.int .i64 0,.int .i64 0,.int .i64 0,.slice none 0 0]∧InQ w' P u (0,0,⟨0,0,[]⟩)∧BoxIs w' P B C n false []∧Kept (fun b=>b=C) w w':=by
 have hbl:=o_ w (.cells #[.int .i64 0,.int .i64 0,.int .i64 0,.int .i64 0,.slice none 0 0] 63)
 have hbm:=o_ (w.alloc (.cells #[.int .i64 0,.int .i64 0,.int .i64 0,.int .i64 0,.slice none 0 0] 63)) (.cells #[.int .i64 0,.int .i64 0,.int .i64 0,.int .i64 0,.slice none 0 0] 63)
 have hbl2:=bel_on hbl hbm
 have hr1:=(Blk5.new w (.int .i64 0) (.int .i64 0) (.int .i64 0) (.int .i64 0) (.slice none 0 0)).bel hbm (Blk5.new w _ _ _ _ _).lt
 have hr2:=Blk5.new (w.alloc (.cells #[.int .i64 0,.int .i64 0,.int .i64 0,.int .i64 0,.slice none 0 0] 63)) (.int .i64 0) (.int .i64 0) (.int .i64 0) (.int .i64 0) (.slice none 0 0)
 rw[World.size_alloc]at hr2
 obtain ⟨W,hW⟩:=gM ((w.alloc (.cells #[.int .i64 0,.int .i64 0,.int .i64 0,.int .i64 0,.slice none 0 0] 63)).alloc (.cells #[.int .i64 0,.int .i64 0,.int .i64 0,.int .i64 0,.slice none 0 0] 63))
 rw[←hW]at hbl2 hr1 hr2
 have hB:=h.keep (Kept.of (X:=fun _=>False) hbl2) (fun _ _ e=>e)
 obtain ⟨buf,s,q,hch,hbs,hq⟩:=hB.ch
 have hcel:=Joins.cell_of_block hB.bx
 have k0:((w.alloc (.cells #[.int .i64 0,.int .i64 0,.int .i64 0,.int .i64 0,.slice none 0 0] 63)).alloc (.cells #[.int .i64 0,.int .i64 0,.int .i64 0,.int .i64 0,.slice none 0 0] 63)).cell? ⟨B,0,none⟩=some (.chan (some C)):=by rw[←hW,hcel];rfl
 have HW:=h_ hW
 clear hW
 obtain ⟨c0,c1,c2,c3,c4⟩:=(hr1).c
 obtain ⟨d0,d1,d2,d3,d4⟩:=(hr2).c
 have f0:=(hr1).f 0
 have f1:=(hr1).f 1
 have f2:=(hr1).f 2
 have f3:=(hr1).f 3
 have f4:=(hr1).f 4
 have hRP:∀b,P b→b≠w.heap.size:=fun b hb e=>by have:=h.lt b hb;omega
 obtain rfl:buf=#[]:=Array.eq_empty_of_size_eq_zero hbs
 have HB:=h_ hB
 clear hq hcel hB
 refine calls_of_loneTo fun cs=>?_
 have e:Frame.enter Tryz.prog 62 #[.pointer (some ⟨B,0,none⟩)] .normal=(base 62).at ⟨#[.pointer (some ⟨B,0,none⟩),undef,undef,undef,undef,undef,undef,undef,undef,undef,undef,undef,undef,undef,undef,undef,undef,undef,undef,undef,undef,undef,undef],[]⟩ [.code (Tryz.f62.body.getD .skip)]:=by
  simp[Frame.enter,Frame.at,Tryz.func62,base,Tryz.f62]
 rw[e]
 refine LoneTo.goes (n:=60) ?_
 simp only[Tryz.f62,Option.getD_some]
 s_c stepG_seq
 s_reg
 s_op
 s_op
 s_c stepG_region_end
 s_c stepG_seq
 s_reg
 s_op
 s_c stepG_region_end
 s_c stepG_seq
 s_reg
 s_op
 s_op
 s_op
 s_op
 s_c stepG_region_end
 s_c stepG_seq
 s_reg
 s_stop
 rw[←HW.out]
 refine LoneTo.step (step_lone_select_default (c:=C) (z:=.agg #[.int .i64 0,.int .i64 0,.int .i64 0,.int .i64 0,.slice none 0 0]) (cap:=n) (s:=s) (r:=q) (tm:=false) (stepG_comm (cases:=#[rcase C (.agg #[.int .i64 0,.int .i64 0,.int .i64 0,.int .i64 0,.slice none 0 0])]) (blocking:=false) (shape:=.select) (w':=W) rfl rfl (by decide) (by simp[go_sem,execOp,rcase,Act.eval])) hch) ?_
 rw[Frame.finish_at]
 walk_nrm
 refine LoneTo.goes (n:=40) ?_
 s_op
 s_op
 s_c stepG_region_end
 s_c stepG_block
 s_cond false
 s_c stepG_seq
 s_reg
 s_op
 s_op
 s_op
 s_op
 s_c stepG_region_end
 s_c stepG_ret'
 s_stop
 refine LoneTo.done ⟨.returned (.tuple #[.agg #[.int .i64 0,.int .i64 0,.int .i64 0,.int .i64 0,.slice none 0 0],.iface 94 (.int .i64 4)]),_,rfl,⟨_,rfl,rfl,⟨_,rfl,I_.nil _,.inl rfl⟩,?_⟩,rfl,rfl,rfl,rfl,_,Tryz.func62,by simp[results,Tryz.f62,Frame.at,go_sem,c0,c1,c2,c3,c4]⟩
 have hk5:=keep_five W W (Below.refl _ _) w.heap.size (.int .i64 0) (.int .i64 0) (.int .i64 0) (.int .i64 0) (.slice none 0 0)
 exact ⟨HB.out.keep hk5 hRP,((Kept.of hbl2).trans hk5 (fun b hb e=>absurd e (by omega)))⟩
end Go.Proofs.YtniloklglpchfakGreat
/- slices.Clone of a list of ints: a list of one's own that holds the same. -/
namespace Go.Proofs.YtniloklglpchfakGreat
open Go Go.RowKit
theorem OwnZ.lit0(w:World):OwnZ (w.alloc (.cells #[] 3)) w.heap.size (.slice (some ⟨w.heap.size,0,none⟩) 0 0) []:=
 ⟨by simp,.inr ⟨w.heap.size,0,#[],rfl,Nat.le_refl _,heap_alloc_new w _,Nat.le_refl _,by unfold maxLen;omega,by simp,by simp⟩⟩
theorem app_zs{w:World}{ops:Array Oper}{rest:List Oper}{o:Oper}{a:Act}{Q:Exit→Act→World→Prop}(hgd:o.guard=none)(s x:Operand)
  (ho:o.op=.call { callee:=.builtin .append,args:=#[s,x],argTypes:=#[26,26] }) (base:Nat) (v u:Value) (ys zs:List Int) (hs:a.eval s=v) (hown:OwnZ w base v ys) (hx:a.eval x=u) (hu:I_ w u zs) (hn:NilOk u)
  (hsm:ys.length+zs.length≤17592186044416) (hbase:base≤w.heap.size)
  (h:∀v' w',OwnZ w' base v' (ys++zs)→(∀w0:World,Below w0.heap.size w0 w→w0.heap.size≤base→Below w0.heap.size w0 w')→wpList Tryz.prog ops Q rest (a.put o.dst v') w'):wpList Tryz.prog ops Q (o::rest) a w:=by
 obtain ⟨e0,ei,hz0,hz1,hz2⟩:=info_parts infoInt
 obtain ⟨ad,cap,rfl,h2,h3,h4⟩:=hu
 cases ad with
 |none=>
  obtain ⟨q1,q2⟩:=hn _ _ rfl
  obtain rfl:zs=[]:=List.eq_nil_of_length_eq_zero q1
  subst q2
  refine wpList_append_own_none hgd s x 26 ho base 3 e0 1 Tryz.underlying26 ei v _ _ hs hown hx ?_
  refine h v w (by rw[List.append_nil];exact hown) (fun w0 hb _=>hb)
 |some ad=>
  refine wpList_append_own w hgd s x 26 ho base 3 e0 (.int .i64 0) 1 8 Tryz.underlying26 ei hz0 hz1 hz2 rfl (by decide) v _ _ hs hown ad zs.length cap (zs.map (Value.int .i64)) hx (by simp) ?_ ?_ (by unfold maxLen;omega) (by omega) hbase ?_
  ·intro j u' hj
   rcases h4 with rfl|⟨b,off,e,hc⟩
   ·simp at hj
   ·obtain rfl:=Option.some.inj e
    rw[List.getElem?_map]at hj
    cases hz:zs[j]? with
    |none=>rw[hz]at hj;cases hj
    |some y=>
     rw[hz]at hj
     obtain rfl:u'=.int .i64 y:=(Option.some.inj hj).symm
     rw[Addr.add_lit]
     exact hc j y hz
  ·intro u' hu'
   obtain ⟨y,_,rfl⟩:=List.mem_map.1 hu'
   rfl
  ·intro v' w' ho' hg _
   refine h v' w' ?_ (fun w0 hb hle=>hb.grown hg hb.size (fun k hk=>Nat.le_trans hle (World.ownsRow.lt hown k hk).1))
   unfold OwnZ
   rw[List.length_append,List.map_append]
   exact ho'
set_option maxHeartbeats 4000000 in
set_option maxRecDepth 100000 in
theorem clone_any(v:Value)(zs:List Int)(w:World)(hv:I_ w v zs)(hn:NilOk v)(hl:zs.length≤17592186044416):Calls Tryz.prog 70 #[v] w fun e w'=>∃s,e=.returned s∧OwnZ w' w.heap.size s zs∧Below w.heap.size w w':=by
 have HV:=h_ hv
 have HNO:=h_ hn
 have HLE:=h_ hl
 obtain ⟨a,cap,rfl,_,_,_⟩:=hv
 obtain ⟨n,hnn⟩:=gN (zs.length)
 have HN:=h_ hnn
 rw[hnn]at HV HNO ⊢
 cases a with
 |none=>
  obtain ⟨q1,q2⟩:=HNO.out _ _ rfl
  subst q1 q2
  have hz:zs=[]:=List.eq_nil_of_length_eq_zero hnn
  subst hz
  have heq:=Lib.run_eql_slice_nil (P:=Tryz.prog) w 26 3 none 0 0 0 0 Tryz.underlying26
  clear hn hl hnn HN
  go_enter Tryz.func70,Tryz.ntmps70
  go_wp2
  go_ret
  exact ⟨_,rfl,OwnZ.nil _ _,Below.refl _ _⟩
 |some ad=>
  have HO:=h_ (OwnZ.lit0 w)
  have HB:=h_ (o_ w (.cells #[] 3))
  have heq:=Lib.run_eql_slice_nil (P:=Tryz.prog) w 26 3 (some ad) n cap 0 0 Tryz.underlying26
  clear hn hl hnn
  go_enter Tryz.func70,Tryz.ntmps70
  go_wp2_with (at_builtin;refine app_zs (w:=w.alloc (.cells #[] 3)) rfl _ _ rfl w.heap.size (.slice (some ⟨w.heap.size,0,none⟩) 0 0) (.slice (some ad) n cap) [] zs rfl HO.out rfl (HV.out.u_ HB.out) HNO.out ?h1 ?h2 ?_)
  case h1=>have:=HLE.out;simp;omega
  case h2=>exact HB.out.size
  intro v' w' ho hb
  have HO2:=h_ (show OwnZ w' w.heap.size v' zs from ho)
  have HB2:=h_ (hb w HB.out (Nat.le_refl _))
  clear ho hb
  go_wp2
  exact bodyPost_ret (v:=v') (by simp[results,Tryz.results70,go_sem]) rfl ⟨_,rfl,HO2.out,HB2.out⟩
end Go.Proofs.YtniloklglpchfakGreat
/- What a box of package mail does: New, Put, Take, Len, Close. -/
namespace Go.Proofs.YtniloklglpchfakGreat
open Go.RowKit Go.Conc
theorem bytesMsg:∃i,Tryz.prog.info? 63=some i∧i.bytes=56:=by
 obtain ⟨e0,ei,_,_,hz2⟩:=info_parts infoMsg
 exact ⟨e0,ei,hz2⟩
theorem run_mkc(n:Nat)(xn:Int)(hx:xn=(n:Int))(hn:n≤16)(w:World):(Instr.makeChan 95 (.int .i64 xn)).run Tryz.prog w=.ok (.chan (some w.heap.size)) (w.alloc (.chan n #[] false 0 0 false)):=by
 obtain ⟨i,hi,hb⟩:=bytesMsg
 subst hx
 exact run_makeChan (P:=Tryz.prog) (w:=w) Tryz.underlying95 hi .i64 n (by omega) (by rw[hb];omega)
set_option maxHeartbeats 4000000 in
set_option maxRecDepth 100000 in
theorem mnew_any(n:Nat)(xn:Int)(hx:xn=(n:Int))(h1:1≤n)(hn:n≤16)(w:World):Calls Tryz.prog 10 #[.int .i64 xn] w fun e w'=>∃B C P,e=.returned (.tuple #[.pointer (some ⟨B,0,none⟩),.nilIface])∧BoxIs w' P B C n false []∧(∀b,P b→w.heap.size≤b)∧Below w.heap.size w w':=by
 have hmk:=run_mkc n xn hx hn w
 have b1:1≤xn:=by omega
 have b2:xn≤16:=by omega
 clear hx
 go_enter Tryz.func10,Tryz.ntmps10
 go_wp2
 refine bodyPost_ret (v:=.tuple #[.pointer (some ⟨w.heap.size+1,0,none⟩),.nilIface]) (by simp[results,Tryz.results10,go_sem]) rfl ⟨w.heap.size+1,w.heap.size,fun b=>b=w.heap.size+1∨b=w.heap.size,rfl,⟨?_,⟨#[],0,0,?_,rfl,fun i u m hu _=>by simp at hu⟩,Nat.zero_le _,.inl rfl,.inr rfl,by omega,fun b hb=>by rw[World.size_alloc,World.size_alloc];omega⟩,fun b hb=>by omega,bel_on (o_ _ _) (o_ _ _)⟩
 ·have:=heap_alloc_new (w.alloc (.chan n #[] false 0 0 false)) (.cells #[.chan (some w.heap.size),.int .i32 0,.int .u32 0,.bool false] 106)
  rw[World.size_alloc]at this
  exact this
 ·exact (Below.heap_alloc (w.alloc (.chan n #[] false 0 0 false)) _ _ (by rw[World.size_alloc];omega)).trans (heap_alloc_new w _)
theorem OwnZ.blk{w:World}{base:Nat}{v:Value}{zs:List Int}(h:OwnZ w base v zs):∀a n c,v=.slice (some a) n c→base≤a.block∧a.block<w.heap.size:=fun a n c e=>by
 have:=World.ownsRow.lt h a.block (by rw[e];rfl)
 exact this
set_option maxHeartbeats 4000000 in
set_option maxRecDepth 100000 in
theorem mput_room(P:Nat→Prop)(B C n:Nat)(ms:List (Int×Int×Mx))(m:Int×Int×Mx)(v:Value)(w:World)(h:BoxIs w P B C n false ms)(hv:IsMsg w v m.1 m.2.1 m.2.2)(hno:∀a0 a1 a2 a3 s,v=.agg #[a0,a1,a2,a3,s]→NilOk s)(hl:m.2.2.cells.length≤17592186044416)(hroom:ms.length<n):
  Calls Tryz.prog 37 #[.pointer (some ⟨B,0,none⟩),v] w fun e w'=>e=.returned (.nilIface)∧∃P',BoxIs w' P' B C n false (ms++[m])∧(∀b,P' b→P b∨w.heap.size≤b)∧Kept (fun b=>b=C) w w':=by
 obtain ⟨x1,x2,b⟩:=m
 obtain ⟨s0,rfl,hs0⟩:=hv
 have hn0:=hno _ _ _ _ _ rfl
 dsimp only at hs0 hl hn0 ⊢
 obtain ⟨r,hr⟩:=gN (b.rows)
 obtain ⟨c,hc⟩:=gN (b.cols)
 obtain ⟨sa,sc,rfl,hs2⟩:=id hs0
 obtain ⟨sn,hsn⟩:=gN (b.cells.length)
 rw[hsn]at hs0 hn0 ⊢
 rw[hr,hc]
 have HRC:=h_ (And.intro hr hc)
 have HB0:=h_ (o_ w (.cells #[.int .i64 x1,.int .i64 x2,.int .i64 r,.int .i64 c,.slice sa sn sc] 63))
 have HBK:=h_ (Blk5.new w (.int .i64 x1) (.int .i64 x2) (.int .i64 r) (.int .i64 c) (.slice sa sn sc))
 have HCL:=h_ (clone_any (.slice sa sn sc) b.cells (w.alloc (.cells #[.int .i64 x1,.int .i64 x2,.int .i64 r,.int .i64 c,.slice sa sn sc] 63)) (hs0.u_ HB0.out) hn0 hl)
 have HH:=h_ h
 have HCO:=h_ hroom
 clear h hs0 hs2 hn0 hl hno hr hc hsn hroom
 go_enter Tryz.func37,Tryz.ntmps37
 go_wp2_with fail
 refine HCL.out.mono ?_
 rintro e w1 ⟨s1,rfl,ho1,hb1⟩
 have HO1:=h_ ho1
 have HB1:=h_ hb1
 have hbx:=HBK.out.bel hb1 HBK.out.lt
 have HBK1:=h_ hbx
 obtain ⟨q0,q1,q2,q3,q4⟩:=hbx.c
 have f4:=hbx.f 4
 obtain ⟨ya,yc,hye⟩:=ho1.shape
 obtain ⟨yn,hyn⟩:=gN (b.cells.length)
 rw[hyn]at hye
 subst hye
 clear ho1 hb1 hbx hyn
 go_wp2_with fail
 obtain ⟨V2,hV2⟩:=gM (w1.setCell ⟨w.heap.size,4,none⟩ (.slice ya yn yc))
 rw[←hV2]
 have HB3:=h_ (show Below w.heap.size w V2.drew from bel_on (by rw[hV2];exact Below.setCell (bel_on HB0.out HB1.out) (by exact Nat.le_refl _) _:Below w.heap.size w V2) (below_drewN _ 1))
 have HBK2:=h_ (show Blk5 V2.drew w.heap.size (.int .i64 x1) (.int .i64 x2) (.int .i64 r) (.int .i64 c) (.slice ya yn yc) by rw[hV2];exact HBK1.out.set4 (.slice ya yn yc))
 have HSZ:=h_ (show w1.heap.size=V2.drew.heap.size by rw[hV2];exact (World.size_setCell w1 _ _).symm)
 have HBX:=h_ (HH.out.keep (Kept.of (X:=fun _=>False) HB3.out) (fun _ _ e=>e))
 obtain ⟨Pv,hPv⟩:∃Pv:Nat→Prop,Pv=fun b=>(w.alloc (.cells #[.int .i64 x1,.int .i64 x2,.int .i64 r,.int .i64 c,.slice sa sn sc] 63)).heap.size≤b∧b<V2.drew.heap.size:=⟨_,rfl⟩
 have hIS:I_ V2.drew (.slice ya yn yc) b.cells:=by
  rw[hV2]
  have hz:OwnZ (w1.setCell ⟨w.heap.size,4,none⟩ (.slice ya yn yc)) (w.alloc (.cells #[.int .i64 x1,.int .i64 x2,.int .i64 r,.int .i64 c,.slice sa sn sc] 63)).heap.size (.slice ya yn yc) b.cells:=World.ownsRow.kept (row:=some w.heap.size) HO1.out (grw_set _ _ _ _) (.inr (fun e=>by have h1:=(World.ownsRow.lt HO1.out _ e).1;rw[World.size_alloc]at h1;omega))
  exact hz.isInts.u_ (below_drewN _ 1)
 have HIQ:=h_ (show InQ V2.drew Pv (.agg #[.int .i64 x1,.int .i64 x2,.int .i64 r,.int .i64 c,.slice ya yn yc]) (x1,x2,b) from ⟨_,by rw[HRC.out.1,HRC.out.2],hIS,.inr fun a n c e=>by rw[hPv];have:=HO1.out.blk a n c e;rw[←HSZ.out];exact this⟩)
 have HPL:=h_ (show ∀b,Pv b→b<V2.drew.heap.size from fun b hb=>by rw[hPv]at hb;exact hb.2)
 have HPC:=h_ (show ¬Pv C from fun hb=>by rw[hPv]at hb;have h1:=HH.out.lt C HH.out.pC;have h2:=hb.1;rw[World.size_alloc]at h2;omega)
 have HPW:=h_ (show ∀b,Pv b→w.heap.size≤b from fun b hb=>by rw[hPv]at hb;have h2:=hb.1;rw[World.size_alloc]at h2;omega)
 have HX:=h_ (qput_room P Pv B C n ms (x1,x2,b) _ _ HBX.out HIQ.out HPL.out HPC.out HCO.out)
 obtain ⟨r0,r1,r2,r3,r4⟩:=HBK2.out.c
 clear q0 q1 q2 q3 q4 f4 hV2 hIS HCL hPv
 go_region_with (go_at_call 71;refine HX.out.mono ?_;rintro e w3 ⟨rfl,hq,hk⟩)
 go_wp2
 go_ret
 exact ⟨rfl,_,hq,fun b hb=>hb.imp id (fun e=>by exact HPW.out b e),(Kept.of HB3.out).trans hk (fun _ _ e=>e)⟩
set_option maxHeartbeats 4000000 in
set_option maxRecDepth 100000 in
theorem mtake_q(F:Value→Prop)(P:Nat→Prop)(B C n:Nat)(cl:Bool)(ms:List (Int×Int×Mx))(E:Value)(k mi:Int)(b:Mx)(w:World)(hC:C<w.heap.size)(hP:∀b,P b→b<w.heap.size)
  (hc:∀W,Below w.heap.size w W→Calls Tryz.prog 62 #[.pointer (some ⟨B,0,none⟩)] W fun e w'=>∃u,e=.returned (.tuple #[u,E])∧F u∧InQ w' P u (k,mi,b)∧BoxIs w' P B C n cl ms∧Kept (fun b=>b=C) W w'):
  Calls Tryz.prog 31 #[.pointer (some ⟨B,0,none⟩)] w fun e w'=>∃u,e=.returned (.tuple #[u,E])∧F u∧InQ w' P u (k,mi,b)∧BoxIs w' P B C n cl ms∧Kept (fun b=>b=C) w w':=by
 have HB0:=h_ (o_ w (.cells #[.int .i64 0,.int .i64 0,.int .i64 0,.int .i64 0,.slice none 0 0] 63))
 have HX:=h_ (hc _ HB0.out)
 have HBK:=h_ (Blk5.new w (.int .i64 0) (.int .i64 0) (.int .i64 0) (.int .i64 0) (.slice none 0 0))
 have HPW:=h_ hP
 have HCW:=h_ hC
 clear hc hP hC
 go_enter Tryz.func31,Tryz.ntmps31
 go_wp2_with fail
 refine HX.out.mono ?_
 rintro e w1 ⟨u,rfl,hfu,hm,hb,hk⟩
 obtain ⟨sa,sn,sc,rfl⟩:=hm.isMsg.shape
 dsimp only at hm ⊢
 obtain ⟨r,hr⟩:=gN (b.rows)
 obtain ⟨c,hc⟩:=gN (b.cols)
 rw[hr,hc]at hm hfu ⊢
 have HFU:=h_ hfu
 have HM:=h_ hm
 have HBX:=h_ hb
 have HK:=h_ hk
 have hbk:=(hk.block w.heap.size HBK.out.lt (fun e=>by have:=HCW.out;omega)).trans HBK.out
 have hbk2:Blk5 w1 w.heap.size (.int .i64 0) (.int .i64 0) (.int .i64 0) (.int .i64 0) (.slice none 0 0):=hbk
 obtain ⟨q0,q1,q2,q3,q4⟩:=hbk2.c
 have f0:=hbk2.f 0
 have f1:=hbk2.f 1
 have f2:=hbk2.f 2
 have f3:=hbk2.f 3
 have f4:=hbk2.f 4
 clear hm hb hk hfu hbk hbk2 hr hc
 go_wp2
 have hk5:=keep_five w1 w1 (Below.refl _ _) w.heap.size (.int .i64 k) (.int .i64 mi) (.int .i64 r) (.int .i64 c) (.slice sa sn sc)
 have hRP:∀b,P b→b≠w.heap.size:=fun b hb e=>by have:=HPW.out b hb;omega
 refine bodyPost_ret (v:=.tuple #[.agg #[.int .i64 k,.int .i64 mi,.int .i64 r,.int .i64 c,.slice sa sn sc],E]) (by simp[results,Tryz.results31,go_sem,q0,q1,q2,q3,q4]) rfl ⟨_,rfl,HFU.out,?_,HBX.out.keep hk5 hRP,((Kept.of HB0.out).trans HK.out (fun _ _ e=>e)).trans hk5 (fun b hb e=>absurd e (by omega))⟩
 exact HM.out.keep hk5 hRP
end Go.Proofs.YtniloklglpchfakGreat
/- Plain facts on cuts: which cuts stay within a limit, the first of them, the least limit. No Go in sight; conditions: what stands in each row (pre: the costs ahead of each place, rising). -/
namespace Go.Proofs.YtniloklglpchfakGreat
def gr (L:Int):List Int→Int→Nat→Nat
 |[],_,k=>k
 |c::cs,full,k=>if k=0∨L<full+c then gr L cs c (k+1) else gr L cs (full+c) k
end Go.Proofs.YtniloklglpchfakGreat
