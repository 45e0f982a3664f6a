/- What Of of package loss comes to: how far a matrix is off another one, or what is wrong. -/
import Derived.Test.YtniloklglpchfafPkLsBoth
namespace Go.Proofs.Ytniloklglpchfaf
open Go.RowKit Go.Shelf
attribute [local go_sem] Oper.semAt_some
def sumL (zs:List Int):Int:=zs.foldl (fun s d=>ad s (ml d d)) 0
theorem sumL_snoc(zs:List Int)(d:Int):sumL (zs++[d])=ad (sumL zs) (ml d d):=by simp[sumL]
theorem sumL_tab(a b:Mx):∀n,sumL (tab n (offAt a b))=lossS a b n
 |0=>rfl
 |n+1=>by rw[tab_succ,sumL_snoc,sumL_tab a b n];rfl
set_option maxRecDepth 100000 in
set_option maxHeartbeats 2000000 in
theorem lof_good(xa ya:Option Addr)(N xk yk:Nat)(ma mb:Mx)(w:World)(hsa:I_ w (.slice xa N xk) ma.cells)(hsb:I_ w (.slice ya N yk) mb.cells)(hla:ma.cells.length=N)(hlb:mb.cells.length=N)(hN:N≤576)(hE:addE ma mb=0):
  Calls Try.prog 58 #[.agg #[.int .i64 ma.rows,.int .i64 ma.cols,.slice xa N xk],.agg #[.int .i64 mb.rows,.int .i64 mb.cols,.slice ya N yk]] w fun e w'=>e=.returned (.tuple #[.int .i64 (ml (lossS ma mb N) 128),.nilIface])∧Below w.heap.size w w':=by
 obtain ⟨V,hV⟩:=gM (((w.alloc (.cells #[.int .i64 ma.rows,.int .i64 ma.cols,.slice xa N xk] 28)).alloc (.cells #[.int .i64 mb.rows,.int .i64 mb.cols,.slice ya N yk] 28)))
 have HWV:Hid (Below w.heap.size w V):=by rw[hV];exact h_ (b_ (o_ _ _) (o_ _ _))
 have HVS:Hid (V.heap.size=w.heap.size+1+1):=by rw[hV];exact h_ (by simp)
 have HXA:Hid (Box V w.heap.size [.int .i64 ma.rows,.int .i64 ma.cols,.slice xa N xk]):=by rw[hV];exact h_ ((Box.new w [.int .i64 ma.rows,.int .i64 ma.cols,.slice xa N xk] 28 rfl).u_ (o_ _ _))
 have HXB:Hid (Box V (w.heap.size+1) [.int .i64 mb.rows,.int .i64 mb.cols,.slice ya N yk]):=by rw[hV];exact h_ (Box.new _ [.int .i64 mb.rows,.int .i64 mb.cols,.slice ya N yk] 28 (by simp))
 have hck:=both_any (.agg #[.int .i64 ma.rows,.int .i64 ma.cols,.slice xa N xk]) (.agg #[.int .i64 mb.rows,.int .i64 mb.cols,.slice ya N yk]) ma mb V ⟨_,rfl,hsa.u_ HWV.out⟩ ⟨_,rfl,hsb.u_ HWV.out⟩
 rw[hE,e_ rfl]at hck
 have HCK:=h_ hck
 have HSA:=h_ hsa
 have HSB:=h_ hsb
 have HV:=h_ hV
 have HL:=h_ (And.intro hla hlb)
 obtain ⟨r,er⟩:=gN (ma.rows)
 obtain ⟨c,ec⟩:=gN (ma.cols)
 obtain ⟨r',er'⟩:=gN (mb.rows)
 obtain ⟨c',ec'⟩:=gN (mb.cols)
 rw[er,ec]at HXA
 rw[er',ec']at HXB
 rw[er,ec,er',ec']at HCK HV ⊢
 obtain ⟨d0,d1,d2⟩:=HXA.out.c3
 obtain ⟨y0,y1,y2⟩:=HXB.out.c3
 rw[HV.out]at d0 d1 d2 y0 y1 y2
 obtain ⟨t,ht⟩:=gN (lossS ma mb N)
 have HT:=h_ ht
 rw[ht]
 clear hck hsa hsb hla hlb hE hV er ec er' ec' ht
 refine (callsIn_wide (n:=3)).1 ?_
 refine callsIn_of_wp_marks Try.func58 rfl trivial ?_ rfl
 simp only[Try.ntmps58,List.size_toArray,List.length_cons,List.length_nil,Nat.reduceAdd,Nat.reduceSub,Array.replicate_succ,Array.replicate_zero,List.push_toArray,List.append_toArray,List.nil_append,List.cons_append]
 gi_wp2_with fail
 refine ⟨trivial,?_⟩
 gi_at_call 72
 rw[←HV.out]
 refine (callsIn_wide.2 HCK.out).mono ?_
 rintro e w1 ⟨rfl,hb1⟩
 clear d0 d1 d2 y0 y1 y2 HCK
 have d0:=p_ ((HXA.out.u_ hb1) 0 _ rfl) (.cells #[.int .i64 0] 3)
 have d1:=p_ ((HXA.out.u_ hb1) 1 _ rfl) (.cells #[.int .i64 0] 3)
 have d2:=p_ ((HXA.out.u_ hb1) 2 _ rfl) (.cells #[.int .i64 0] 3)
 have y0:=p_ ((HXB.out.u_ hb1) 0 _ rfl) (.cells #[.int .i64 0] 3)
 have y1:=p_ ((HXB.out.u_ hb1) 1 _ rfl) (.cells #[.int .i64 0] 3)
 have y2:=p_ ((HXB.out.u_ hb1) 2 _ rfl) (.cells #[.int .i64 0] 3)
 have HB1:=h_ hb1
 clear hb1
 gi_wp2_with (refine ⟨trivial,?_⟩;gi_at_call 73;refine (callsIn_wide.2 (off_any _ _ _ _ _ _ _ _ _ _ _)).mono ?_;rintro e w2 ⟨rfl,rfl⟩)
 obtain ⟨S,hS⟩:=gN (w1.heap.size)
 obtain ⟨Z,hZ⟩:=gM (((w1.alloc (.cells #[.int .i64 0] 3)).alloc (.cells #[.int .i64 r,.int .i64 c,.slice xa N xk] 28)).alloc (.cells #[.int .i64 r',.int .i64 c',.slice ya N yk] 28))
 have HWS:Hid (w.heap.size+1+1≤S):=h_ (by have:=HB1.out.size;have:=HVS.out;omega)
 have HWZ:Hid (Below w.heap.size w Z):=by rw[hZ];exact h_ (b_ (b_ (b_ (b_ HWV.out HB1.out) (o_ _ _)) (o_ _ _)) (o_ _ _))
 have HZS:Hid (Z.heap.size=S+1+1+1):=by rw[hZ];exact h_ (by simp[hS])
 have HZA:Hid (Z.cell? ⟨S+1,2,none⟩=some (.slice xa N xk)):=by rw[hZ];exact h_ (p_ (box_new _ _ _ (by simp[hS]) rfl) _)
 have HZB:Hid (Blk Z (S+1+1) #[.int .i64 r',.int .i64 c',.slice ya N yk] 28):=by rw[hZ];exact h_ (Blk.new _ _ _ (by simp[hS]))
 have HZ0:Hid (Boxed Z S 3 (.int .i64 (sumL []))):=by rw[hZ,←hS];exact h_ (((Boxed.new w1 3 (.int .i64 0)).alloc _).alloc _)
 rw[←hZ,hS]
 clear d0 d1 d2 y0 y1 y2 HB1 hZ hS HV HXA HXB HWV HVS
 refine wpIn_rangeFunc_ownG rfl (by omega) (gf:=78) (lb:=#[.pointer (some ⟨S+1,0,none⟩),.pointer (some ⟨S+1+1,0,none⟩)]) rfl trivial (enters_of Try.func78 (by kernel_rfl) rfl)
  (off_stops _ (by omega) (S+1) (S+1+1) N r' c' xa ya xk yk ma mb w Z HSA.out HSB.out HL.out.1 HL.out.2 hN HWZ.out HZA.out HZB.out) KeepB.trans (KeepB.put HWZ.out.size) (Below.refl _ _) (fun _=>rfl)
  (fun pre W=>Boxed W S 3 (.int .i64 (sumL pre))∧Below w.heap.size w W)
  (fun _ _ _=>False)
  (OwnFrom.and (Own.from (boxed_own S 3 (fun pre=>.int .i64 (sumL pre))) _) (ownFrom_below (Nat.le_refl _) HWZ.out.size))
  (fun _ _ _ _ _ hs _ _=>hs)
  ⟨HZ0.out,HWZ.out⟩
  (fun x=>{ tmps:=#[.agg #[.int .i64 r,.int .i64 c,.slice xa N xk],.agg #[.int .i64 r',.int .i64 c',.slice ya N yk],.pointer (some ⟨w.heap.size,0,none⟩),.pointer (some ⟨w.heap.size+1,0,none⟩),.int .i64 0,.nilIface,.nilIface,.pointer (some ⟨S,0,none⟩),.int .i64 x,
   .agg #[.int .i64 r,.int .i64 c,.slice xa N xk],.agg #[.int .i64 r',.int .i64 c',.slice ya N yk],.nilIface,.nilIface,.bool false,undef,.agg #[.int .i64 r,.int .i64 c,.slice xa N xk],.agg #[.int .i64 r',.int .i64 c',.slice ya N yk],
   .func (.func 78) #[] #[.pointer (some ⟨S+1,0,none⟩),.pointer (some ⟨S+1+1,0,none⟩)],.int .i64 x,undef,undef,undef,undef,undef,undef,undef],defers:=[] }) ?assign ?body ?done ?stop
 case assign=>
  intro l x W K hK
  gi_wp2
  exact hK
 case body=>
  rintro l pre x W ⟨hbx,hB⟩ _
  have hc:=hbx.cell
  have hf:=hbx.frozen
  obtain ⟨s,hs⟩:=gN (sumL pre)
  rw[hs]at hc
  have HBX:=h_ hbx
  have HBB:=h_ hB
  have HS:=h_ hs
  have hmx:Try.prog.follows .mixedOrders=true:=by kernel_rfl
  clear hbx hB hs
  gi_wp2
  gi_region_with_o (first
   |(refine ⟨trivial,?_⟩;gi_at_call 65;refine (CallsIn.inRound l (callsIn_wide.2 (mul_any _ _ _))).mono ?_;rintro e w' ⟨rfl,rfl⟩)
   |(refine ⟨trivial,?_⟩;gi_at_call 40;refine (CallsIn.inRound l (callsIn_wide.2 (add_any _ _ _))).mono ?_;rintro e w' ⟨rfl,rfl⟩))
  all_goals gi_wp2
  all_goals (try go_bits)
  all_goals
   refine ⟨((KeepsOthers.setCell _ _ _).trans (KeepsOthers.drew _)).from _,⟨r_ ((Below.refl _ W).setCell (p:=⟨S,0,none⟩) (by have:=HWS.out;simp;omega) _),fun cs hb=>?_⟩,?_,r_ (HBB.out.setCell (p:=⟨S,0,none⟩) (by have:=HWS.out;simp;omega) _)⟩
   ·exact hb.kept (row:=some S) (grown_drew (grownBy_setCell' W S _)) (fun e=>by injection e with e;omega)
   ·rw[sumL_snoc,HS.out];exact HBX.out.set _
 case done=>
  rintro D ys W hD rfl ⟨hbx,hB⟩ hK
  have hc:=hbx.cell
  rw[sumL_tab,HT.out]at hc
  have HB:=h_ hB
  have HK:=h_ hK
  clear hB hbx hK
  gi_wp2_with (refine ⟨trivial,?_⟩;gi_at_call 65;refine (callsIn_wide.2 (mul_any _ _ _)).mono ?_;rintro e w' ⟨rfl,rfl⟩)
  refine ⟨by simp,.inl ⟨_,_,rfl,run_takeDeferred HK.out,?_⟩⟩
  refine ⟨.tuple #[.int .i64 (ml t 128),.nilIface],by simp[results,Try.results58,go_sem],rfl,?_⟩
  exact HB.out.trans (belowK_b (w:=w) (Nat.le_refl _) _ D _ _ (by have:=HWZ.out.size;omega) HK.out rfl rfl)
 case stop=>
  rintro D c pre W _ _ h _
  exact h.elim
set_option maxRecDepth 100000 in
set_option maxHeartbeats 2000000 in
theorem lof_bad(xa ya:Option Addr)(xn xk yn yk:Nat)(ma mb:Mx)(w:World)(hsa:I_ w (.slice xa xn xk) ma.cells)(hsb:I_ w (.slice ya yn yk) mb.cells)(hE:¬addE ma mb=0):
  Calls Try.prog 58 #[.agg #[.int .i64 ma.rows,.int .i64 ma.cols,.slice xa xn xk],.agg #[.int .i64 mb.rows,.int .i64 mb.cols,.slice ya yn yk]] w fun e w'=>e=.returned (.tuple #[.int .i64 0,errV (addE ma mb)])∧Below w.heap.size w w':=by
 obtain ⟨V,hV⟩:=gM (((w.alloc (.cells #[.int .i64 ma.rows,.int .i64 ma.cols,.slice xa xn xk] 28)).alloc (.cells #[.int .i64 mb.rows,.int .i64 mb.cols,.slice ya yn yk] 28)))
 have HWV:Hid (Below w.heap.size w V):=by rw[hV];exact h_ (b_ (o_ _ _) (o_ _ _))
 have HXA:Hid (Box V w.heap.size [.int .i64 ma.rows,.int .i64 ma.cols,.slice xa xn xk]):=by rw[hV];exact h_ ((Box.new w [.int .i64 ma.rows,.int .i64 ma.cols,.slice xa xn xk] 28 rfl).u_ (o_ _ _))
 have HXB:Hid (Box V (w.heap.size+1) [.int .i64 mb.rows,.int .i64 mb.cols,.slice ya yn yk]):=by rw[hV];exact h_ (Box.new _ [.int .i64 mb.rows,.int .i64 mb.cols,.slice ya yn yk] 28 (by simp))
 have hck:=both_any (.agg #[.int .i64 ma.rows,.int .i64 ma.cols,.slice xa xn xk]) (.agg #[.int .i64 mb.rows,.int .i64 mb.cols,.slice ya yn yk]) ma mb V ⟨_,rfl,hsa.u_ HWV.out⟩ ⟨_,rfl,hsb.u_ HWV.out⟩
 rw[n_ hE]at hck ⊢
 have HCK:=h_ hck
 have HV:=h_ hV
 obtain ⟨r,er⟩:=gN (ma.rows)
 obtain ⟨c,ec⟩:=gN (ma.cols)
 obtain ⟨r',er'⟩:=gN (mb.rows)
 obtain ⟨c',ec'⟩:=gN (mb.cols)
 obtain ⟨E,hE'⟩:=gN (addE ma mb)
 rw[er,ec]at HXA
 rw[er',ec']at HXB
 rw[er,ec,er',ec']at HCK HV ⊢
 rw[hE']at HCK ⊢
 obtain ⟨d0,d1,d2⟩:=HXA.out.c3
 obtain ⟨y0,y1,y2⟩:=HXB.out.c3
 rw[HV.out]at d0 d1 d2 y0 y1 y2
 clear hck hsa hsb hE hE' hV er ec er' ec'
 go_enter Try.func58,Try.ntmps58
 go_wp2_with fail
 rw[←HV.out]
 refine HCK.out.mono ?_
 rintro e w1 ⟨rfl,hb1⟩
 have HB1:=h_ (b_ HWV.out hb1)
 clear d0 d1 d2 y0 y1 y2 HCK hb1
 go_wp2
 exact bodyPost_ret (v:=.tuple #[.int .i64 0,.iface 65 (.int .i64 E)]) (by simp[results,Try.results58,go_sem]) rfl ⟨rfl,HB1.out⟩
theorem lof_any(va vb:Value)(ma mb:Mx)(w:World)(hva:M_ w va ma)(hvb:M_ w vb mb):Calls Try.prog 58 #[va,vb] w fun e w'=>e=.returned (.tuple #[.int .i64 (lossX ma mb),errV (addE ma mb)])∧Below w.heap.size w w':=by
 obtain ⟨sa,rfl,hsa⟩:=hva
 obtain ⟨sb',rfl,hsb⟩:=hvb
 by_cases hE:addE ma mb=0
 ·obtain ⟨R,C,ga,gb⟩:=addE_good hE
  obtain ⟨xa,xk,rfl,_,_,_⟩:=id hsa
  obtain ⟨ya,yk,rfl,_,_,_⟩:=id hsb
  have hla:=ga.l
  have hlb:=gb.l
  rw[hla]at hsa ⊢
  rw[hlb]at hsb ⊢
  have h:=lof_good xa ya (R*C) xk yk ma mb w hsa hsb hla hlb (by have:=Nat.mul_le_mul ga.hR ga.hC;omega) hE
  rw[show lossX ma mb=ml (lossS ma mb (R*C)) 128 by unfold lossX;rw[if_pos hE,hla],hE,e_ rfl]
  exact h
 ·obtain ⟨xa,xn,xk,rfl⟩:=hsa.shape
  obtain ⟨ya,yn,yk,rfl⟩:=hsb.shape
  rw[show lossX ma mb=0 by unfold lossX;rw[if_neg hE]]
  exact lof_bad xa ya xn xk yn yk ma mb w hsa hsb hE
end Go.Proofs.Ytniloklglpchfaf
