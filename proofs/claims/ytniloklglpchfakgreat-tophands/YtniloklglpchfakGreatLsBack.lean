/- What Back of package loss comes to: a matrix of by how much all cells are off, or what is wrong. -/
import Derived.Test.YtniloklglpchfakGreatPkLsBoth
import Derived.Test.YtniloklglpchfakGreatPkMOps1
namespace Go.Proofs.YtniloklglpchfakGreat
open Go.RowKit Go.Shelf
attribute [local go_sem] Oper.semAt_some
set_option maxRecDepth 100000 in
set_option maxHeartbeats 4000000 in
theorem lback_good(xa ya:Option Addr)(N xk yk:Nat)(ma mb:Mx)(w:World)(hsa:I_ w (.slice xa N xk) ma.cells)(hsb:I_ w (.slice ya N yk) mb.cells)(hla:ma.cells.length=N)(hlb:mb.cells.length=N)(hN:N≤576)(hE:addE ma mb=0):
  Calls Tryz.prog 17 #[.agg #[.int .i64 ma.rows,.int .i64 ma.cols,.slice xa N xk],.agg #[.int .i64 mb.rows,.int .i64 mb.cols,.slice ya N yk]] w fun e w'=>∃ta tn tc,e=.returned (.tuple #[.agg #[.int .i64 ma.rows,.int .i64 ma.cols,.slice ta tn tc],.nilIface])∧NewInts w.heap.size w' (.slice ta tn tc) (tab N (offAt ma mb))∧Below w.heap.size w w':=by
 obtain ⟨V,hV⟩:=gM (((w.alloc (.cells #[.int .i64 ma.rows,.int .i64 ma.cols,.slice xa N xk] 28)).alloc (.cells #[.int .i64 mb.rows,.int .i64 mb.cols,.slice ya N yk] 28)).alloc (.cells #[.int .i64 0,.int .i64 0,.slice none 0 0] 28))
 have HWV:Hid (Below w.heap.size w V):=by rw[hV];exact h_ (b_ (b_ (o_ _ _) (o_ _ _)) (o_ _ _))
 have HVS:Hid (V.heap.size=w.heap.size+1+1+1):=by rw[hV];exact h_ (by simp)
 have HXA:Hid (Blk V w.heap.size #[.int .i64 ma.rows,.int .i64 ma.cols,.slice xa N xk] 28):=by rw[hV];exact h_ (((Blk.new w _ _ rfl).alloc _).alloc _)
 have HXB:Hid (Blk V (w.heap.size+1) #[.int .i64 mb.rows,.int .i64 mb.cols,.slice ya N yk] 28):=by rw[hV];exact h_ ((Blk.new _ _ _ (by simp)).alloc _)
 have HXQ:Hid (Blk V (w.heap.size+1+1) #[.int .i64 0,.int .i64 0,.slice none 0 0] 28):=by rw[hV];exact h_ (Blk.new _ _ _ (by simp))
 have hck:=both_any (.agg #[.int .i64 ma.rows,.int .i64 ma.cols,.slice xa N xk]) (.agg #[.int .i64 mb.rows,.int .i64 mb.cols,.slice ya N yk]) ma mb V ⟨_,rfl,hsa.u_ HWV.out⟩ ⟨_,rfl,hsb.u_ HWV.out⟩
 rw[hE,e_ rfl]at hck
 have HCK:=h_ hck
 have HSA:=h_ hsa
 have HSB:=h_ hsb
 have HV:=h_ hV
 have HL:=h_ (And.intro hla hlb)
 obtain ⟨r,er⟩:=gN (ma.rows)
 obtain ⟨c,ec⟩:=gN (ma.cols)
 obtain ⟨r',er'⟩:=gN (mb.rows)
 obtain ⟨c',ec'⟩:=gN (mb.cols)
 rw[er,ec]at HXA
 rw[er',ec']at HXB
 rw[er,ec,er',ec']at HCK HV ⊢
 have d0:=HXA.out.cell (j:=0) rfl
 have d1:=HXA.out.cell (j:=1) rfl
 have d2:=HXA.out.cell (j:=2) rfl
 have y0:=HXB.out.cell (j:=0) rfl
 have y1:=HXB.out.cell (j:=1) rfl
 have y2:=HXB.out.cell (j:=2) rfl
 rw[HV.out]at d0 d1 d2 y0 y1 y2
 obtain ⟨f,hf⟩:=gN (offAt ma mb)
 have HT:=h_ hf
 rw[hf]
 clear hck hsa hsb hla hlb hE hV er ec er' ec' hf
 refine (callsIn_wide (n:=3)).1 ?_
 refine callsIn_of_wp_marks Tryz.func17 rfl trivial ?_ rfl
 simp only[Tryz.ntmps17,List.size_toArray,List.length_cons,List.length_nil,Nat.reduceAdd,Nat.reduceSub,Array.replicate_succ,Array.replicate_zero,List.push_toArray,List.append_toArray,List.nil_append,List.cons_append]
 gi_wp2_with fail
 refine ⟨trivial,?_⟩
 gi_at_call 38
 rw[←HV.out]
 refine (callsIn_wide.2 HCK.out).mono ?_
 rintro e w1 ⟨rfl,hb1⟩
 clear d0 d1 d2 y0 y1 y2 HCK
 obtain ⟨o1,ho1⟩:∃o:Obj,o=.cells (zeros N) 3:=⟨_,rfl⟩
 obtain ⟨o2,ho2⟩:∃o:Obj,o=.cells #[.slice (some ⟨w1.heap.size,0,none⟩) 0 N] 26:=⟨_,rfl⟩
 have j2:=(HXA.out.u_ hb1).cell (j:=2) rfl
 have d0:=(((HXA.out.u_ hb1).alloc o1).alloc o2).cell (j:=0) rfl
 have d1:=(((HXA.out.u_ hb1).alloc o1).alloc o2).cell (j:=1) rfl
 have d2:=(((HXA.out.u_ hb1).alloc o1).alloc o2).cell (j:=2) rfl
 have y0:=(((HXB.out.u_ hb1).alloc o1).alloc o2).cell (j:=0) rfl
 have y1:=(((HXB.out.u_ hb1).alloc o1).alloc o2).cell (j:=1) rfl
 have y2:=(((HXB.out.u_ hb1).alloc o1).alloc o2).cell (j:=2) rfl
 have HB1:=h_ hb1
 have HYA:=h_ (HXA.out.u_ hb1)
 have HYQ:=h_ (HXQ.out.u_ hb1)
 have hmk:=run_mk0 (N:Int) N rfl (by omega)
 subst ho1 ho2
 clear hb1
 gi_wp2_with (refine ⟨trivial,?_⟩;gi_at_call 39;refine (callsIn_wide.2 (off_any _ _ _ _ _ _ _ _ _ _ _)).mono ?_;rintro e w2 ⟨rfl,rfl⟩)
 obtain ⟨g,hg⟩:=gN (w1.heap.size)
 obtain ⟨Z,hZ⟩:=gM ((((w1.alloc (.cells (zeros N) 3)).alloc (.cells #[.slice (some ⟨g,0,none⟩) 0 N] 26)).alloc (.cells #[.int .i64 r,.int .i64 c,.slice xa N xk] 28)).alloc (.cells #[.int .i64 r',.int .i64 c',.slice ya N yk] 28))
 have HWS:Hid (w.heap.size+1+1+1≤g):=h_ (by have:=HB1.out.size;have:=HVS.out;omega)
 have HWZ:Hid (Below w.heap.size w Z):=by rw[hZ];exact h_ (b_ (b_ (b_ (b_ (b_ HWV.out HB1.out) (o_ _ _)) (o_ _ _)) (o_ _ _)) (o_ _ _))
 have HZA:Hid (Z.cell? ⟨g+1+1,2,none⟩=some (.slice xa N xk)):=by rw[hZ];exact h_ (p_ (box_new _ _ _ (by simp[hg]) rfl) _)
 have HZB:Hid (Blk Z (g+1+1+1) #[.int .i64 r',.int .i64 c',.slice ya N yk] 28):=by rw[hZ];exact h_ (Blk.new _ _ _ (by simp[hg]))
 have HZG:Hid (Blk Z w.heap.size #[.int .i64 r,.int .i64 c,.slice xa N xk] 28):=by rw[hZ];exact h_ ((((HYA.out.alloc _).alloc _).alloc _).alloc _)
 have HZQ:Hid (Blk Z (w.heap.size+1+1) #[.int .i64 0,.int .i64 0,.slice none 0 0] 28):=by rw[hZ];exact h_ ((((HYQ.out.alloc _).alloc _).alloc _).alloc _)
 have HZ0:Hid (Boxed Z (g+1) 26 (.slice (some ⟨g,0,none⟩) 0 N)):=by
  have h:=Boxed.new (w1.alloc (.cells (zeros N) 3)) 26 (.slice (some ⟨g,0,none⟩) 0 N)
  rw[World.size_alloc,hg]at h
  rw[hZ];exact h_ ((h.alloc _).alloc _)
 have HZR:Hid (Z.ownsRow w.heap.size 3 1 (.slice (some ⟨g,0,none⟩) 0 N) 0 []):=by
  have h:(w1.alloc (.cells (zeros N) 3)).ownsRow w.heap.size 3 1 (.slice (some ⟨w1.heap.size,0,none⟩) 0 N) 0 []:=World.ownsRow_made _ _ _ (by have:=HWS.out;omega) (by unfold maxLen;omega) (zeros_size N)
  rw[hg]at h
  rw[hZ];exact h_ (World.ownsRow.alloc (World.ownsRow.alloc (World.ownsRow.alloc h _) _) _)
 rw[hg,←hZ]
 have hml:N≤maxLen:=by unfold maxLen;omega
 have hby:N*8≤140737488355328:=by omega
 obtain ⟨i0,hi,hz0,hz1,hz2⟩:=info_parts infoInt
 have HI:=h_ (And.intro hi (And.intro hz0 (And.intro hz1 hz2)))
 clear d0 d1 d2 y0 y1 y2 j2 HB1 hZ hg HV HXA HXB HXQ HYA HYQ HWV HVS hmk hi hz0 hz1 hz2
 refine wpIn_rangeFunc_ownG rfl (by omega) (gf:=72) (lb:=#[.pointer (some ⟨g+1+1,0,none⟩),.pointer (some ⟨g+1+1+1,0,none⟩)]) rfl trivial (enters_of Tryz.func72 (by kernel_rfl) rfl)
  (off_stops _ (by omega) (g+1+1) (g+1+1+1) N r' c' xa ya xk yk ma mb w Z HSA.out HSB.out HL.out.1 HL.out.2 hN HWZ.out HZA.out HZB.out) KeepB.trans (KeepB.put HWZ.out.size) (Below.refl _ _) (fun _=>rfl)
  (fun pre W=>(∃v,Boxed W (g+1) 26 v∧W.ownsRow w.heap.size 3 1 v pre.length (pre.map (Value.int .i64))∧True)∧(Blk W w.heap.size #[.int .i64 r,.int .i64 c,.slice xa N xk] 28∧Blk W (w.heap.size+1+1) #[.int .i64 0,.int .i64 0,.slice none 0 0] 28)∧Below w.heap.size w W)
  (fun _ _ _=>False)
  (OwnFrom.and (Own.from (holdsRow_own w.heap.size (g+1) 26 3 1 (fun pre:List Int=>pre.length) (fun pre=>pre.map (Value.int .i64)) (fun _ _=>True)) _) (OwnFrom.and (OwnFrom.and (Own.from (Blk.own _ _ _) _) (Own.from (Blk.own _ _ _) _)) (ownFrom_below (Nat.le_refl _) HWZ.out.size)))
  (fun _ _ _ _ _ hs _ _=>hs)
  ⟨⟨_,HZ0.out,HZR.out,trivial⟩,⟨HZG.out,HZQ.out⟩,HWZ.out⟩
  (fun x=>{ tmps:=#[.agg #[.int .i64 r,.int .i64 c,.slice xa N xk],.agg #[.int .i64 r',.int .i64 c',.slice ya N yk],.pointer (some ⟨w.heap.size,0,none⟩),.pointer (some ⟨w.heap.size+1,0,none⟩),.pointer (some ⟨w.heap.size+1+1,0,none⟩),.nilIface,.nilIface,.pointer (some ⟨g+1,0,none⟩),.int .i64 x,
   .agg #[.int .i64 r,.int .i64 c,.slice xa N xk],.agg #[.int .i64 r',.int .i64 c',.slice ya N yk],.nilIface,.nilIface,.bool false,undef,undef,.pointer (some ⟨w.heap.size,2,none⟩),.slice xa N xk,.int .i64 N,.slice (some ⟨g,0,none⟩) 0 N,.agg #[.int .i64 r,.int .i64 c,.slice xa N xk],.agg #[.int .i64 r',.int .i64 c',.slice ya N yk],
   .func (.func 72) #[] #[.pointer (some ⟨g+1+1,0,none⟩),.pointer (some ⟨g+1+1+1,0,none⟩)],.int .i64 x,undef,undef,undef,undef,undef,undef,undef,undef,undef,undef],defers:=[] }) ?assign ?body ?done ?stop
 case assign=>
  intro l x W K hK
  gi_wp2
  exact hK
 case body=>
  rintro l pre x W ⟨⟨v,hv,hrow,_⟩,⟨hga,hqa⟩,hB⟩ hlt
  have hc:=hv.cell
  have HG:=h_ hga
  have HQ:=h_ hqa
  have HR:=h_ hrow
  have HBB:=h_ hB
  have HVB:=h_ hv
  have hle:w.heap.size≤g+1:=by have:=HWS.out;omega
  clear hga hqa hrow hB hv
  gi_wp2_with (gi_at_builtin;refine wpListIn_append_own _ rfl _ _ 26 rfl w.heap.size 3 i0 (.int .i64 0) 1 8 Tryz.underlying26 HI.out.1 HI.out.2.1 HI.out.2.2.1 HI.out.2.2.2 rfl (by decide) _ _ _ rfl (HR.out.alloc _) ⟨W.heap.size,0,none⟩ 1 1 [.int .i64 x] rfl rfl (cell_one_new _ _ _) (by simp[Value.oneCell']) (by omega) (by omega) (by have:=HBB.out.size;simp;omega) ?_;intro v' w1 hown' hgrow _;obtain ⟨g',cap',rfl⟩:=ownsRow_succ hown';obtain ⟨hv1,hv2,hr2,hk2,hb2⟩:=HVB.out.appended (by decide) HR.out HBB.out.size hle hown' hgrow;have hc1:=hv1.cell;have hf1:=hv1.frozen)
  have keep:∀{B:Nat} {cs:Array Value},B≠g+1→Blk W B cs 28→Blk (w1.setCell ⟨g+1,0,none⟩ (.slice (some ⟨g',0,none⟩) (pre.length+1) cap')) B cs 28:=fun hne hb=>
   ((hb.alloc _).kept hgrow (hb.not_row (by decide) HR.out)).kept (grownBy_setCell' w1 (g+1) _) (fun e=>hne (by injection e))
  exact ⟨hk2.from _,⟨hb2,fun cs hb=>keep (by omega) hb⟩,⟨_,hv2,by simpa using hr2,trivial⟩,⟨keep (by have:=HWS.out;omega) HG.out,keep (by have:=HWS.out;omega) HQ.out⟩,HBB.out.trans hb2⟩
 case done=>
  rintro D ys W hD rfl ⟨⟨v,hv,hrow,_⟩,⟨hga,hqa⟩,hB⟩ hK
  have hc:=hv.cell
  rw[HT.out]at hrow
  have hlen:(tab N f).length=N:=by simp[tab]
  rw[hlen]at hrow
  have hown:Go.Proofs.YtniloklglpchfakGreat.Own W w.heap.size v N f:=hrow
  obtain ⟨ta,tn,tc,rfl⟩:=(hown.isInts hml).shape
  have q0:=hqa.cell (j:=0) rfl
  have q1:=hqa.cell (j:=1) rfl
  have q2:=hqa.cell (j:=2) rfl
  have qf0:=hqa.frozen 0
  have qf1:=hqa.frozen 1
  have qf2:=hqa.frozen 2
  have p0:=hga.cell (j:=0) rfl
  have p1:=hga.cell (j:=1) rfl
  have HQ:=h_ hqa
  have HB:=h_ hB
  have HK:=h_ hK
  have HO:=h_ hown
  clear hB hv hK hown hrow hlen hqa hga
  gi_wp2
  obtain ⟨U,hU⟩:=gM (((W.setCell ⟨w.heap.size+1+1,0,none⟩ (.int .i64 r)).setCell ⟨w.heap.size+1+1,1,none⟩ (.int .i64 c)).setCell ⟨w.heap.size+1+1,2,none⟩ (.slice ta tn tc))
  have hK':U.heap[D]?=some (.deferred (some [])):=by rw[hU];exact (((KeepsOthers.setCell _ _ _).trans (KeepsOthers.setCell _ _ _)).trans (KeepsOthers.setCell _ _ _)).same D _ HK.out rfl
  have hM:Mut U (w.heap.size+1+1) r c (.slice ta tn tc):=by rw[hU];exact Mut.set ⟨⟨q0,q1,q2⟩,fun j=>HQ.out.frozen j⟩ _ _ _
  have hg3:W.grownBy U (some (w.heap.size+1+1)):=by rw[hU];exact w_ (w_ (w_ (World.grownBy.refl W _) _ _) _ _) _ _
  have hrow:=ownsRow_putObj (World.ownsRow.kept HO.out hg3 (.inr (HQ.out.not_row (by decide) HO.out).symm)) (.deferred none) hK' rfl
  have e0:=cell_kept hM.t.1 (grownBy_putObj' U D (.deferred none)) (fun r e=>by cases e;exact ⟨_,hK',rfl⟩)
  have e1:=cell_kept hM.t.2.1 (grownBy_putObj' U D (.deferred none)) (fun r e=>by cases e;exact ⟨_,hK',rfl⟩)
  have e2:=cell_kept hM.t.2.2 (grownBy_putObj' U D (.deferred none)) (fun r e=>by cases e;exact ⟨_,hK',rfl⟩)
  have hBU:Below w.heap.size w U:=by rw[hU];exact S_ HB.out (by omega) _ _ _
  rw[←hU]
  refine ⟨by simp,.inl ⟨_,_,rfl,run_takeDeferred hK',?_⟩⟩
  refine ⟨.tuple #[.agg #[.int .i64 r,.int .i64 c,.slice ta tn tc],.nilIface],?_,ta,tn,tc,rfl,?_,hBU.trans (belowK_b (w:=w) (Nat.le_refl _) U D _ _ (by have:=HWZ.out.size;omega) hK' rfl rfl)⟩
  ·simp[results,Tryz.results17,go_sem,e0,e1,e2]
  ·exact Own.newInts (f:=f) hrow hml
 case stop=>
  rintro D c pre W _ _ h _
  exact h.elim
set_option maxRecDepth 100000 in
set_option maxHeartbeats 2000000 in
theorem lback_bad(xa ya:Option Addr)(xn xk yn yk:Nat)(ma mb:Mx)(w:World)(hsa:I_ w (.slice xa xn xk) ma.cells)(hsb:I_ w (.slice ya yn yk) mb.cells)(hE:¬addE ma mb=0):
  Calls Tryz.prog 17 #[.agg #[.int .i64 ma.rows,.int .i64 ma.cols,.slice xa xn xk],.agg #[.int .i64 mb.rows,.int .i64 mb.cols,.slice ya yn yk]] w fun e w'=>e=.returned (.tuple #[.agg #[.int .i64 0,.int .i64 0,.slice none 0 0],errV (addE ma mb)])∧Below w.heap.size w w':=by
 obtain ⟨V,hV⟩:=gM (((w.alloc (.cells #[.int .i64 ma.rows,.int .i64 ma.cols,.slice xa xn xk] 28)).alloc (.cells #[.int .i64 mb.rows,.int .i64 mb.cols,.slice ya yn yk] 28)).alloc (.cells #[.int .i64 0,.int .i64 0,.slice none 0 0] 28))
 have HWV:Hid (Below w.heap.size w V):=by rw[hV];exact h_ (b_ (b_ (o_ _ _) (o_ _ _)) (o_ _ _))
 have HXA:Hid (Box V w.heap.size [.int .i64 ma.rows,.int .i64 ma.cols,.slice xa xn xk]):=by rw[hV];exact h_ ((Box.new w [.int .i64 ma.rows,.int .i64 ma.cols,.slice xa xn xk] 28 rfl).u_ (b_ (o_ _ _) (o_ _ _)))
 have HXB:Hid (Box V (w.heap.size+1) [.int .i64 mb.rows,.int .i64 mb.cols,.slice ya yn yk]):=by rw[hV];exact h_ ((Box.new _ [.int .i64 mb.rows,.int .i64 mb.cols,.slice ya yn yk] 28 (by simp)).u_ (o_ _ _))
 have HXQ:Hid (Blk V (w.heap.size+1+1) #[.int .i64 0,.int .i64 0,.slice none 0 0] 28):=by rw[hV];exact h_ (Blk.new _ _ _ (by simp))
 have hck:=both_any (.agg #[.int .i64 ma.rows,.int .i64 ma.cols,.slice xa xn xk]) (.agg #[.int .i64 mb.rows,.int .i64 mb.cols,.slice ya yn yk]) ma mb V ⟨_,rfl,hsa.u_ HWV.out⟩ ⟨_,rfl,hsb.u_ HWV.out⟩
 rw[n_ hE]at hck ⊢
 have HCK:=h_ hck
 have HV:=h_ hV
 obtain ⟨r,er⟩:=gN (ma.rows)
 obtain ⟨c,ec⟩:=gN (ma.cols)
 obtain ⟨r',er'⟩:=gN (mb.rows)
 obtain ⟨c',ec'⟩:=gN (mb.cols)
 obtain ⟨E,hE'⟩:=gN (addE ma mb)
 rw[er,ec]at HXA
 rw[er',ec']at HXB
 rw[er,ec,er',ec']at HCK HV ⊢
 rw[hE']at HCK ⊢
 obtain ⟨d0,d1,d2⟩:=HXA.out.c3
 obtain ⟨y0,y1,y2⟩:=HXB.out.c3
 rw[HV.out]at d0 d1 d2 y0 y1 y2
 clear hck hsa hsb hE hE' hV er ec er' ec'
 go_enter Tryz.func17,Tryz.ntmps17
 go_wp2_with fail
 rw[←HV.out]
 refine HCK.out.mono ?_
 rintro e w1 ⟨rfl,hb1⟩
 have HB1:=h_ (b_ HWV.out hb1)
 have hq:=HXQ.out.u_ hb1
 have q0:=hq.cell (j:=0) rfl
 have q1:=hq.cell (j:=1) rfl
 have q2:=hq.cell (j:=2) rfl
 have f0:=hq.frozen 0
 have f1:=hq.frozen 1
 have f2:=hq.frozen 2
 clear d0 d1 d2 y0 y1 y2 HCK hb1 hq
 go_wp2
 exact bodyPost_ret (v:=.tuple #[.agg #[.int .i64 0,.int .i64 0,.slice none 0 0],.iface 94 (.int .i64 E)]) (by simp[results,Tryz.results17,go_sem,q0,q1,q2]) rfl ⟨rfl,S_ HB1.out (by omega) _ _ _⟩
theorem lsback_any(va vb:Value)(ma mb:Mx)(w:World)(hva:M_ w va ma)(hvb:M_ w vb mb):Calls Tryz.prog 17 #[va,vb] w (MxErr w (offX ma mb) (addE ma mb)):=by
 obtain ⟨sa,rfl,hsa⟩:=hva
 obtain ⟨sb',rfl,hsb⟩:=hvb
 by_cases hE:addE ma mb=0
 ·obtain ⟨R,C,ga,gb⟩:=addE_good hE
  obtain ⟨xa,xk,rfl,_,_,_⟩:=id hsa
  obtain ⟨ya,yk,rfl,_,_,_⟩:=id hsb
  have hla:=ga.l
  have hlb:=gb.l
  rw[hla]at hsa ⊢
  rw[hlb]at hsb ⊢
  refine (lback_good xa ya (R*C) xk yk ma mb w hsa hsb hla hlb (by have:=Nat.mul_le_mul ga.hR ga.hC;omega) hE).mono ?_
  rintro e w' ⟨ta,tn,tc,rfl,hn,hb⟩
  rw[show offX ma mb=⟨ma.rows,ma.cols,tab (R*C) (offAt ma mb)⟩ by unfold offX;rw[if_pos hE,hla],hE]
  exact ⟨_,by rw[e_ rfl],⟨_,rfl,hn.isInts⟩,hb,hn.fresh (Nat.le_refl _) _ _⟩
 ·obtain ⟨xa,xn,xk,rfl⟩:=hsa.shape
  obtain ⟨ya,yn,yk,rfl⟩:=hsb.shape
  refine (lback_bad xa ya xn xk yn yk ma mb w hsa hsb hE).mono ?_
  rintro e w' ⟨rfl,hb⟩
  rw[show offX ma mb=noMx by unfold offX;rw[if_neg hE]]
  exact ⟨_,rfl,isMx_no _,hb,y_ _ _ _⟩
end Go.Proofs.YtniloklglpchfakGreat
