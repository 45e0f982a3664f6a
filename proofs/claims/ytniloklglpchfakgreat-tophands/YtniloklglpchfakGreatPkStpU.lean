/- What speedUp and turn of package step come to: the new speed of a layer, and the new layer. Condition: all that go together have one size. -/
import Derived.Test.YtniloklglpchfakGreatPkTrC3
import Derived.Test.YtniloklglpchfakGreatPkReg
namespace Go.Proofs.YtniloklglpchfakGreat
open Go.RowKit
theorem beln_drew{n:Nat}{V u:World}(h:Below n V u):Below n V u.drew:=r_ h
theorem beln_set{n B q:Nat}{V u:World}{x:Value}(h:Below n V u)(hB:n≤B):Below n V (u.setCell ⟨B,q,none⟩ x):=h.setCell hB _
def UpOne (w:World) (X:Mx) (e:Ending) (w':World):Prop:=∃a n k,e=.returned (.agg #[.int .i64 X.rows,.int .i64 X.cols,.slice a n k])∧I_ w' (.slice a n k) X.cells∧Below w.heap.size w w'∧F_ w.heap.size (.agg #[.int .i64 X.rows,.int .i64 X.cols,.slice a n k])
theorem UpOne.of{w w':World}{e:Ending}{m X:Mx}{zs:List Int}(h:∃a n k,e=.returned (.agg #[.int .i64 m.rows,.int .i64 m.cols,.slice a n k])∧NewInts w.heap.size w' (.slice a n k) zs∧Below w.heap.size w w')(hX:⟨m.rows,m.cols,zs⟩=X):UpOne w X e w':=by
 subst hX
 obtain ⟨a,n,k,h1,h2,h3⟩:=h
 exact ⟨a,n,k,h1,h2.isInts,h3,h2.fresh (Nat.le_refl _) _ _⟩
theorem good576{a:Mx}{R C:Nat}(g:Good a R C):a.cells.length≤576:=by
 have:=Nat.mul_le_mul g.hR g.hC
 rw[g.l];omega
set_option maxHeartbeats 8000000 in
set_option maxRecDepth 100000 in
theorem speedup_any(p q:Mx×Mx)(X1 X2:Mx)(ke:Int){R C R2 C2:Nat}(g1:Good p.1 R C)(g2:Good q.1 R C)(g3:Good p.2 R2 C2)(g4:Good q.2 R2 C2)(e1:spdX p.1 q.1 ke=X1)(e2:spdX p.2 q.2 ke=X2)(sa:Option Addr)(sn sk:Nat)(ta:Option Addr)(tn tk:Nat)(xa:Option Addr)(xn xk:Nat)(ya:Option Addr)(yn yk:Nat)(w:World)(hi1:I_ w (.slice sa sn sk) p.1.cells)(hi2:I_ w (.slice xa xn xk) q.1.cells)(hi3:I_ w (.slice ta tn tk) p.2.cells)(hi4:I_ w (.slice ya yn yk) q.2.cells):
  Calls Tryz.prog 49 #[.agg #[.int .i64 p.1.rows,.int .i64 p.1.cols,.slice sa sn sk,.int .i64 p.2.rows,.int .i64 p.2.cols,.slice ta tn tk],.agg #[.int .i64 q.1.rows,.int .i64 q.1.cols,.slice xa xn xk,.int .i64 q.2.rows,.int .i64 q.2.cols,.slice ya yn yk],.int .i64 ke] w fun e w'=>∃pa pn pk qa qn qk,e=.returned (.agg #[.int .i64 X1.rows,.int .i64 X1.cols,.slice pa pn pk,.int .i64 X2.rows,.int .i64 X2.cols,.slice qa qn qk])∧I_ w' (.slice pa pn pk) X1.cells∧I_ w' (.slice qa qn qk) X2.cells∧F_ w.heap.size (.agg #[.int .i64 X1.rows,.int .i64 X1.cols,.slice pa pn pk])∧F_ w.heap.size (.agg #[.int .i64 X2.rows,.int .i64 X2.cols,.slice qa qn qk])∧Below w.heap.size w w':=by
 have hl1:q.1.cells.length=p.1.cells.length:=g2.l.trans g1.l.symm
 have hl2:q.2.cells.length=p.2.cells.length:=g4.l.trans g3.l.symm
 have hn1:=good576 g1
 have hn2:=good576 g3
 rw[spd_eq g1 g2,←g1.l]at e1
 rw[spd_eq g3 g4,←g3.l]at e2
 have eg:=enters_of (f:=80) Tryz.func80 (by kernel_rfl) rfl
 obtain ⟨V,hV⟩:=gM (((((w.alloc (.cells #[.int .i64 p.1.rows,.int .i64 p.1.cols,.slice sa sn sk,.int .i64 p.2.rows,.int .i64 p.2.cols,.slice ta tn tk] 109)).alloc (.cells #[.int .i64 q.1.rows,.int .i64 q.1.cols,.slice xa xn xk,.int .i64 q.2.rows,.int .i64 q.2.cols,.slice ya yn yk] 109)).alloc (.cells #[.int .i64 ke] 3)).alloc (.cells #[.int .i64 0,.int .i64 0,.slice none 0 0,.int .i64 0,.int .i64 0,.slice none 0 0] 109)))
 have HV:=h_ hV
 have HWV:Hid (Below w.heap.size w V):=by rw[hV];exact h_ (a_ (a_ (a_ (a_ (Below.refl _ _)))))
 have HVS:Hid (V.heap.size=w.heap.size+4):=by rw[hV];exact h_ (by simp)
 have HX0:Hid (Box V (w.heap.size) [.int .i64 p.1.rows,.int .i64 p.1.cols,.slice sa sn sk,.int .i64 p.2.rows,.int .i64 p.2.cols,.slice ta tn tk]):=by rw[hV];exact h_ ((Box.new w [.int .i64 p.1.rows,.int .i64 p.1.cols,.slice sa sn sk,.int .i64 p.2.rows,.int .i64 p.2.cols,.slice ta tn tk] 109 rfl).u_ (a_ (a_ (a_ (Below.refl _ _)))))
 have HX1:Hid (Box V (w.heap.size+1) [.int .i64 q.1.rows,.int .i64 q.1.cols,.slice xa xn xk,.int .i64 q.2.rows,.int .i64 q.2.cols,.slice ya yn yk]):=by rw[hV];exact h_ ((Box.new _ [.int .i64 q.1.rows,.int .i64 q.1.cols,.slice xa xn xk,.int .i64 q.2.rows,.int .i64 q.2.cols,.slice ya yn yk] 109 (by simp)).u_ (a_ (a_ (Below.refl _ _))))
 have HX2:Hid (Box V (w.heap.size+1+1) [.int .i64 ke]):=by rw[hV];exact h_ ((Box.new _ [.int .i64 ke] 3 (by simp)).u_ (a_ (Below.refl _ _)))
 have HXZ:Hid (Box V (w.heap.size+1+1+1) [.int .i64 0,.int .i64 0,.slice none 0 0,.int .i64 0,.int .i64 0,.slice none 0 0]):=by rw[hV];exact h_ (Box.new _ [.int .i64 0,.int .i64 0,.slice none 0 0,.int .i64 0,.int .i64 0,.slice none 0 0] 109 (by simp))
 have HXF:Hid (Free V (w.heap.size+1+1+1)):=by rw[hV];exact h_ (Free.new _ _ _ (by simp))
 have HG:=h_ (stpup_gives (w.heap.size+1+1) ke V (HX2.out 0 _ rfl))
 have HSB:Hid (∀W',Below (w.heap.size+2) V W'→(fun W'=>W'.cell? ⟨w.heap.size,0,none⟩=some (.int .i64 p.1.rows)∧W'.cell? ⟨w.heap.size,1,none⟩=some (.int .i64 p.1.cols)∧W'.cell? ⟨w.heap.size,2,none⟩=some (.slice sa sn sk)∧W'.cell? ⟨w.heap.size,3,none⟩=some (.int .i64 p.2.rows)∧W'.cell? ⟨w.heap.size,4,none⟩=some (.int .i64 p.2.cols)∧W'.cell? ⟨w.heap.size,5,none⟩=some (.slice ta tn tk)∧W'.cell? ⟨w.heap.size+1,0,none⟩=some (.int .i64 q.1.rows)∧W'.cell? ⟨w.heap.size+1,1,none⟩=some (.int .i64 q.1.cols)∧W'.cell? ⟨w.heap.size+1,2,none⟩=some (.slice xa xn xk)∧W'.cell? ⟨w.heap.size+1,3,none⟩=some (.int .i64 q.2.rows)∧W'.cell? ⟨w.heap.size+1,4,none⟩=some (.int .i64 q.2.cols)∧W'.cell? ⟨w.heap.size+1,5,none⟩=some (.slice ya yn yk)) W'):=h_ (fun W' h=>⟨(h.cell (p:=⟨w.heap.size,0,none⟩) (by simp only[];omega)).trans (HX0.out 0 _ rfl),(h.cell (p:=⟨w.heap.size,1,none⟩) (by simp only[];omega)).trans (HX0.out 1 _ rfl),(h.cell (p:=⟨w.heap.size,2,none⟩) (by simp only[];omega)).trans (HX0.out 2 _ rfl),(h.cell (p:=⟨w.heap.size,3,none⟩) (by simp only[];omega)).trans (HX0.out 3 _ rfl),(h.cell (p:=⟨w.heap.size,4,none⟩) (by simp only[];omega)).trans (HX0.out 4 _ rfl),(h.cell (p:=⟨w.heap.size,5,none⟩) (by simp only[];omega)).trans (HX0.out 5 _ rfl),(h.cell (p:=⟨w.heap.size+1,0,none⟩) (by simp only[];omega)).trans (HX1.out 0 _ rfl),(h.cell (p:=⟨w.heap.size+1,1,none⟩) (by simp only[];omega)).trans (HX1.out 1 _ rfl),(h.cell (p:=⟨w.heap.size+1,2,none⟩) (by simp only[];omega)).trans (HX1.out 2 _ rfl),(h.cell (p:=⟨w.heap.size+1,3,none⟩) (by simp only[];omega)).trans (HX1.out 3 _ rfl),(h.cell (p:=⟨w.heap.size+1,4,none⟩) (by simp only[];omega)).trans (HX1.out 4 _ rfl),(h.cell (p:=⟨w.heap.size+1,5,none⟩) (by simp only[];omega)).trans (HX1.out 5 _ rfl)⟩)
 have HC1:=h_ ((stpboth_any _ _ eg p.1 q.1 sa sn sk xa xn xk _ V.drew (hi1.u_ (d_ HWV.out)) (hi2.u_ (d_ HWV.out)) hl1 hn1 (HG.out.u_ (d_ (Below.refl _ _)))).mono (fun e w' hh=>show UpOne V.drew X1 e w' from UpOne.of hh e1))
 have HC2:=h_ (fun W (h:Below V.heap.size V W)=>(stpboth_any _ _ eg p.2 q.2 ta tn tk ya yn yk _ W (hi3.u_ (b_ HWV.out h)) (hi4.u_ (b_ HWV.out h)) hl2 hn2 (HG.out.u_ h)).mono (fun e w' hh=>show UpOne W X2 e w' from UpOne.of hh e2))
 obtain ⟨lm0,lm1,lm2,lm3,lm4,lm5,lm6,lm7,lm8,lm9,lm10,lm11⟩:=HSB.out V (Below.refl _ _)
 have HER:=h_ (And.intro e1 e2)
 clear hV hi1 hi2 hi3 hi4 hl1 hl2 hn1 hn2 e1 e2 g1 g2 g3 g4
 go_enter Tryz.func49,Tryz.ntmps49
 go_wp2_with fail
 rw[←HV.out]
 clear HV
 go_wp2
 go_region_held3 (fun W'=>W'.cell? ⟨w.heap.size,0,none⟩=some (.int .i64 p.1.rows)∧W'.cell? ⟨w.heap.size,1,none⟩=some (.int .i64 p.1.cols)∧W'.cell? ⟨w.heap.size,2,none⟩=some (.slice sa sn sk)∧W'.cell? ⟨w.heap.size,3,none⟩=some (.int .i64 p.2.rows)∧W'.cell? ⟨w.heap.size,4,none⟩=some (.int .i64 p.2.cols)∧W'.cell? ⟨w.heap.size,5,none⟩=some (.slice ta tn tk)∧W'.cell? ⟨w.heap.size+1,0,none⟩=some (.int .i64 q.1.rows)∧W'.cell? ⟨w.heap.size+1,1,none⟩=some (.int .i64 q.1.cols)∧W'.cell? ⟨w.heap.size+1,2,none⟩=some (.slice xa xn xk)∧W'.cell? ⟨w.heap.size+1,3,none⟩=some (.int .i64 q.2.rows)∧W'.cell? ⟨w.heap.size+1,4,none⟩=some (.int .i64 q.2.cols)∧W'.cell? ⟨w.heap.size+1,5,none⟩=some (.slice ya yn yk)) ((refine HSB.out _ ?_;repeat' (first|with_reducible exact Below.refl _ _|with_reducible exact HB2.out|with_reducible exact HB1.out|with_reducible refine beln_drew ?_|with_reducible refine beln_set ?_ ?_|exact Nat.le_succ _)))
  (first
   |(go_at_call 81;refine HC3.out.mono ?_;rintro e w2 ⟨qa,qn,qk,rfl,hq,hb2,hf2⟩;have HQ:=h_ hq;have HB2a:=h_ (show Below V.heap.size V w2 from b_ HB1a.out hb2);have HB2b:=h_ hb2;have HB2:=h_ (show Below (w.heap.size+2) V w2 from HB2a.out.mono (by rw[HVS.out];omega));have HF2:=h_ (f_ hf2 HB1a.out.size);have t0:=(HXZ.out.u_ HB2a.out) 0 _ rfl;have f0:=(HXF.out.u_ HB2a.out HXZ.out.lt) 0;have t1:=(HXZ.out.u_ HB2a.out) 1 _ rfl;have f1:=(HXF.out.u_ HB2a.out HXZ.out.lt) 1;have t2:=(HXZ.out.u_ HB2a.out) 2 _ rfl;have f2:=(HXF.out.u_ HB2a.out HXZ.out.lt) 2;have t3:=(HXZ.out.u_ HB2a.out) 3 _ rfl;have f3:=(HXF.out.u_ HB2a.out HXZ.out.lt) 3;have t4:=(HXZ.out.u_ HB2a.out) 4 _ rfl;have f4:=(HXF.out.u_ HB2a.out HXZ.out.lt) 4;have t5:=(HXZ.out.u_ HB2a.out) 5 _ rfl;have f5:=(HXF.out.u_ HB2a.out HXZ.out.lt) 5;clear hq hb2 hf2)
   |(go_at_call 81;guard_target=Calls _ _ _ (World.drew V) _;refine HC1.out.mono ?_;rintro e w1 ⟨pa,pn,pk,rfl,hp,hb1,hf1⟩;have HP:=h_ hp;have HB1a:=h_ (show Below V.heap.size V w1 from b_ (d_ (Below.refl _ _)) hb1);have HB1:=h_ (show Below (w.heap.size+2) V w1 from HB1a.out.mono (by rw[HVS.out];omega));have HF1:=h_ (show F_ V.heap.size _ from hf1);have HC3:=h_ (HC2.out w1 HB1a.out);clear hp hb1 hf1))
 have HI1:=h_ (show I_ ((((((w2.setCell ⟨w.heap.size+1+1+1,0,none⟩ (.int .i64 X1.rows)).setCell ⟨w.heap.size+1+1+1,1,none⟩ (.int .i64 X1.cols)).setCell ⟨w.heap.size+1+1+1,2,none⟩ (.slice pa pn pk)).setCell ⟨w.heap.size+1+1+1,3,none⟩ (.int .i64 X2.rows)).setCell ⟨w.heap.size+1+1+1,4,none⟩ (.int .i64 X2.cols)).setCell ⟨w.heap.size+1+1+1,5,none⟩ (.slice qa qn qk)) (.slice pa pn pk) X1.cells from I_.aboveF (HP.out.u_ HB2b.out) HF1.out ((v_ (v_ (v_ (v_ (v_ (v_ (Above.refl _ _) (by have:=HVS.out;omega)) (by have:=HVS.out;omega)) (by have:=HVS.out;omega)) (by have:=HVS.out;omega)) (by have:=HVS.out;omega)) (by have:=HVS.out;omega))))
 have HI2:=h_ (show I_ ((((((w2.setCell ⟨w.heap.size+1+1+1,0,none⟩ (.int .i64 X1.rows)).setCell ⟨w.heap.size+1+1+1,1,none⟩ (.int .i64 X1.cols)).setCell ⟨w.heap.size+1+1+1,2,none⟩ (.slice pa pn pk)).setCell ⟨w.heap.size+1+1+1,3,none⟩ (.int .i64 X2.rows)).setCell ⟨w.heap.size+1+1+1,4,none⟩ (.int .i64 X2.cols)).setCell ⟨w.heap.size+1+1+1,5,none⟩ (.slice qa qn qk)) (.slice qa qn qk) X2.cells from I_.aboveF HQ.out HF2.out ((v_ (v_ (v_ (v_ (v_ (v_ (Above.refl _ _) (by have:=HVS.out;omega)) (by have:=HVS.out;omega)) (by have:=HVS.out;omega)) (by have:=HVS.out;omega)) (by have:=HVS.out;omega)) (by have:=HVS.out;omega))))
 have HBE:=h_ (show Below w.heap.size w ((((((w2.setCell ⟨w.heap.size+1+1+1,0,none⟩ (.int .i64 X1.rows)).setCell ⟨w.heap.size+1+1+1,1,none⟩ (.int .i64 X1.cols)).setCell ⟨w.heap.size+1+1+1,2,none⟩ (.slice pa pn pk)).setCell ⟨w.heap.size+1+1+1,3,none⟩ (.int .i64 X2.rows)).setCell ⟨w.heap.size+1+1+1,4,none⟩ (.int .i64 X2.cols)).setCell ⟨w.heap.size+1+1+1,5,none⟩ (.slice qa qn qk)) from t_ (t_ (t_ (t_ (t_ (t_ (b_ HWV.out HB2a.out) (by omega)) (by omega)) (by omega)) (by omega)) (by omega)) (by omega))
 go_wp2
 exact bodyPost_ret (v:=.agg #[.int .i64 X1.rows,.int .i64 X1.cols,.slice pa pn pk,.int .i64 X2.rows,.int .i64 X2.cols,.slice qa qn qk]) (by simp[results,Tryz.results49,go_sem,t0,t1,t2,t3,t4,t5]) rfl ⟨pa,pn,pk,qa,qn,qk,rfl,HI1.out,HI2.out,f_ HF1.out HWV.out.size,f_ HF2.out HWV.out.size,HBE.out⟩
set_option maxHeartbeats 8000000 in
set_option maxRecDepth 100000 in
theorem stpturn_any(l:Ly)(s1 s2 X1 X2:Mx)(le:Int){R C R2 C2:Nat}(g1:Good l.w R C)(g2:Good s1 R C)(g3:Good l.b R2 C2)(g4:Good s2 R2 C2)(e1:newX l.w s1 le=X1)(e2:newX l.b s2 le=X2)(sa:Option Addr)(sn sk:Nat)(ta:Option Addr)(tn tk:Nat)(xa:Option Addr)(xn xk:Nat)(ya:Option Addr)(yn yk:Nat)(w:World)(hi1:I_ w (.slice sa sn sk) l.w.cells)(hi2:I_ w (.slice xa xn xk) s1.cells)(hi3:I_ w (.slice ta tn tk) l.b.cells)(hi4:I_ w (.slice ya yn yk) s2.cells):
  Calls Tryz.prog 50 #[.agg #[.int .i64 l.k,.int .i64 l.w.rows,.int .i64 l.w.cols,.slice sa sn sk,.int .i64 l.b.rows,.int .i64 l.b.cols,.slice ta tn tk],.agg #[.int .i64 s1.rows,.int .i64 s1.cols,.slice xa xn xk,.int .i64 s2.rows,.int .i64 s2.cols,.slice ya yn yk],.int .i64 le] w fun e w'=>∃pa pn pk qa qn qk,e=.returned (.agg #[.int .i64 l.k,.int .i64 X1.rows,.int .i64 X1.cols,.slice pa pn pk,.int .i64 X2.rows,.int .i64 X2.cols,.slice qa qn qk])∧I_ w' (.slice pa pn pk) X1.cells∧I_ w' (.slice qa qn qk) X2.cells∧F_ w.heap.size (.agg #[.int .i64 X1.rows,.int .i64 X1.cols,.slice pa pn pk])∧F_ w.heap.size (.agg #[.int .i64 X2.rows,.int .i64 X2.cols,.slice qa qn qk])∧Below w.heap.size w w':=by
 have hl1:s1.cells.length=l.w.cells.length:=g2.l.trans g1.l.symm
 have hl2:s2.cells.length=l.b.cells.length:=g4.l.trans g3.l.symm
 have hn1:=good576 g1
 have hn2:=good576 g3
 rw[new_eq g1 g2,←g1.l]at e1
 rw[new_eq g3 g4,←g3.l]at e2
 have eg:=enters_of (f:=82) Tryz.func82 (by kernel_rfl) rfl
 obtain ⟨V,hV⟩:=gM (((((w.alloc (.cells #[.int .i64 l.k,.int .i64 l.w.rows,.int .i64 l.w.cols,.slice sa sn sk,.int .i64 l.b.rows,.int .i64 l.b.cols,.slice ta tn tk] 83)).alloc (.cells #[.int .i64 s1.rows,.int .i64 s1.cols,.slice xa xn xk,.int .i64 s2.rows,.int .i64 s2.cols,.slice ya yn yk] 109)).alloc (.cells #[.int .i64 le] 3)).alloc (.cells #[.int .i64 0,.int .i64 0,.int .i64 0,.slice none 0 0,.int .i64 0,.int .i64 0,.slice none 0 0] 83)))
 have HV:=h_ hV
 have HWV:Hid (Below w.heap.size w V):=by rw[hV];exact h_ (a_ (a_ (a_ (a_ (Below.refl _ _)))))
 have HVS:Hid (V.heap.size=w.heap.size+4):=by rw[hV];exact h_ (by simp)
 have HX0:Hid (Box V (w.heap.size) [.int .i64 l.k,.int .i64 l.w.rows,.int .i64 l.w.cols,.slice sa sn sk,.int .i64 l.b.rows,.int .i64 l.b.cols,.slice ta tn tk]):=by rw[hV];exact h_ ((Box.new w [.int .i64 l.k,.int .i64 l.w.rows,.int .i64 l.w.cols,.slice sa sn sk,.int .i64 l.b.rows,.int .i64 l.b.cols,.slice ta tn tk] 83 rfl).u_ (a_ (a_ (a_ (Below.refl _ _)))))
 have HX1:Hid (Box V (w.heap.size+1) [.int .i64 s1.rows,.int .i64 s1.cols,.slice xa xn xk,.int .i64 s2.rows,.int .i64 s2.cols,.slice ya yn yk]):=by rw[hV];exact h_ ((Box.new _ [.int .i64 s1.rows,.int .i64 s1.cols,.slice xa xn xk,.int .i64 s2.rows,.int .i64 s2.cols,.slice ya yn yk] 109 (by simp)).u_ (a_ (a_ (Below.refl _ _))))
 have HX2:Hid (Box V (w.heap.size+1+1) [.int .i64 le]):=by rw[hV];exact h_ ((Box.new _ [.int .i64 le] 3 (by simp)).u_ (a_ (Below.refl _ _)))
 have HXZ:Hid (Box V (w.heap.size+1+1+1) [.int .i64 0,.int .i64 0,.int .i64 0,.slice none 0 0,.int .i64 0,.int .i64 0,.slice none 0 0]):=by rw[hV];exact h_ (Box.new _ [.int .i64 0,.int .i64 0,.int .i64 0,.slice none 0 0,.int .i64 0,.int .i64 0,.slice none 0 0] 83 (by simp))
 have HXF:Hid (Free V (w.heap.size+1+1+1)):=by rw[hV];exact h_ (Free.new _ _ _ (by simp))
 have HG:=h_ (stpturn_gives (w.heap.size+1+1) le V (HX2.out 0 _ rfl))
 have HSB:Hid (∀W',Below (w.heap.size+2) V W'→(fun W'=>W'.cell? ⟨w.heap.size,0,none⟩=some (.int .i64 l.k)∧W'.cell? ⟨w.heap.size,1,none⟩=some (.int .i64 l.w.rows)∧W'.cell? ⟨w.heap.size,2,none⟩=some (.int .i64 l.w.cols)∧W'.cell? ⟨w.heap.size,3,none⟩=some (.slice sa sn sk)∧W'.cell? ⟨w.heap.size,4,none⟩=some (.int .i64 l.b.rows)∧W'.cell? ⟨w.heap.size,5,none⟩=some (.int .i64 l.b.cols)∧W'.cell? ⟨w.heap.size,6,none⟩=some (.slice ta tn tk)∧W'.cell? ⟨w.heap.size+1,0,none⟩=some (.int .i64 s1.rows)∧W'.cell? ⟨w.heap.size+1,1,none⟩=some (.int .i64 s1.cols)∧W'.cell? ⟨w.heap.size+1,2,none⟩=some (.slice xa xn xk)∧W'.cell? ⟨w.heap.size+1,3,none⟩=some (.int .i64 s2.rows)∧W'.cell? ⟨w.heap.size+1,4,none⟩=some (.int .i64 s2.cols)∧W'.cell? ⟨w.heap.size+1,5,none⟩=some (.slice ya yn yk)) W'):=h_ (fun W' h=>⟨(h.cell (p:=⟨w.heap.size,0,none⟩) (by simp only[];omega)).trans (HX0.out 0 _ rfl),(h.cell (p:=⟨w.heap.size,1,none⟩) (by simp only[];omega)).trans (HX0.out 1 _ rfl),(h.cell (p:=⟨w.heap.size,2,none⟩) (by simp only[];omega)).trans (HX0.out 2 _ rfl),(h.cell (p:=⟨w.heap.size,3,none⟩) (by simp only[];omega)).trans (HX0.out 3 _ rfl),(h.cell (p:=⟨w.heap.size,4,none⟩) (by simp only[];omega)).trans (HX0.out 4 _ rfl),(h.cell (p:=⟨w.heap.size,5,none⟩) (by simp only[];omega)).trans (HX0.out 5 _ rfl),(h.cell (p:=⟨w.heap.size,6,none⟩) (by simp only[];omega)).trans (HX0.out 6 _ rfl),(h.cell (p:=⟨w.heap.size+1,0,none⟩) (by simp only[];omega)).trans (HX1.out 0 _ rfl),(h.cell (p:=⟨w.heap.size+1,1,none⟩) (by simp only[];omega)).trans (HX1.out 1 _ rfl),(h.cell (p:=⟨w.heap.size+1,2,none⟩) (by simp only[];omega)).trans (HX1.out 2 _ rfl),(h.cell (p:=⟨w.heap.size+1,3,none⟩) (by simp only[];omega)).trans (HX1.out 3 _ rfl),(h.cell (p:=⟨w.heap.size+1,4,none⟩) (by simp only[];omega)).trans (HX1.out 4 _ rfl),(h.cell (p:=⟨w.heap.size+1,5,none⟩) (by simp only[];omega)).trans (HX1.out 5 _ rfl)⟩)
 have HC1:=h_ ((stpboth_any _ _ eg l.w s1 sa sn sk xa xn xk _ V.drew (hi1.u_ (d_ HWV.out)) (hi2.u_ (d_ HWV.out)) hl1 hn1 (HG.out.u_ (d_ (Below.refl _ _)))).mono (fun e w' hh=>show UpOne V.drew X1 e w' from UpOne.of hh e1))
 have HC2:=h_ (fun W (h:Below V.heap.size V W)=>(stpboth_any _ _ eg l.b s2 ta tn tk ya yn yk _ W (hi3.u_ (b_ HWV.out h)) (hi4.u_ (b_ HWV.out h)) hl2 hn2 (HG.out.u_ h)).mono (fun e w' hh=>show UpOne W X2 e w' from UpOne.of hh e2))
 obtain ⟨lm0,lm1,lm2,lm3,lm4,lm5,lm6,lm7,lm8,lm9,lm10,lm11,lm12⟩:=HSB.out V (Below.refl _ _)
 have HER:=h_ (And.intro e1 e2)
 clear hV hi1 hi2 hi3 hi4 hl1 hl2 hn1 hn2 e1 e2 g1 g2 g3 g4
 go_enter Tryz.func50,Tryz.ntmps50
 go_wp2_with fail
 rw[←HV.out]
 clear HV
 go_wp2
 go_region_held3 (fun W'=>W'.cell? ⟨w.heap.size,0,none⟩=some (.int .i64 l.k)∧W'.cell? ⟨w.heap.size,1,none⟩=some (.int .i64 l.w.rows)∧W'.cell? ⟨w.heap.size,2,none⟩=some (.int .i64 l.w.cols)∧W'.cell? ⟨w.heap.size,3,none⟩=some (.slice sa sn sk)∧W'.cell? ⟨w.heap.size,4,none⟩=some (.int .i64 l.b.rows)∧W'.cell? ⟨w.heap.size,5,none⟩=some (.int .i64 l.b.cols)∧W'.cell? ⟨w.heap.size,6,none⟩=some (.slice ta tn tk)∧W'.cell? ⟨w.heap.size+1,0,none⟩=some (.int .i64 s1.rows)∧W'.cell? ⟨w.heap.size+1,1,none⟩=some (.int .i64 s1.cols)∧W'.cell? ⟨w.heap.size+1,2,none⟩=some (.slice xa xn xk)∧W'.cell? ⟨w.heap.size+1,3,none⟩=some (.int .i64 s2.rows)∧W'.cell? ⟨w.heap.size+1,4,none⟩=some (.int .i64 s2.cols)∧W'.cell? ⟨w.heap.size+1,5,none⟩=some (.slice ya yn yk)) ((refine HSB.out _ ?_;repeat' (first|with_reducible exact Below.refl _ _|with_reducible exact HB2.out|with_reducible exact HB1.out|with_reducible refine beln_drew ?_|with_reducible refine beln_set ?_ ?_|exact Nat.le_succ _)))
  (first
   |(go_at_call 81;refine HC3.out.mono ?_;rintro e w2 ⟨qa,qn,qk,rfl,hq,hb2,hf2⟩;have HQ:=h_ hq;have HB2a:=h_ (show Below V.heap.size V w2 from b_ HB1a.out hb2);have HB2b:=h_ hb2;have HB2:=h_ (show Below (w.heap.size+2) V w2 from HB2a.out.mono (by rw[HVS.out];omega));have HF2:=h_ (f_ hf2 HB1a.out.size);have t0:=(HXZ.out.u_ HB2a.out) 0 _ rfl;have f0:=(HXF.out.u_ HB2a.out HXZ.out.lt) 0;have t1:=(HXZ.out.u_ HB2a.out) 1 _ rfl;have f1:=(HXF.out.u_ HB2a.out HXZ.out.lt) 1;have t2:=(HXZ.out.u_ HB2a.out) 2 _ rfl;have f2:=(HXF.out.u_ HB2a.out HXZ.out.lt) 2;have t3:=(HXZ.out.u_ HB2a.out) 3 _ rfl;have f3:=(HXF.out.u_ HB2a.out HXZ.out.lt) 3;have t4:=(HXZ.out.u_ HB2a.out) 4 _ rfl;have f4:=(HXF.out.u_ HB2a.out HXZ.out.lt) 4;have t5:=(HXZ.out.u_ HB2a.out) 5 _ rfl;have f5:=(HXF.out.u_ HB2a.out HXZ.out.lt) 5;have t6:=(HXZ.out.u_ HB2a.out) 6 _ rfl;have f6:=(HXF.out.u_ HB2a.out HXZ.out.lt) 6;clear hq hb2 hf2)
   |(go_at_call 81;guard_target=Calls _ _ _ (World.drew V) _;refine HC1.out.mono ?_;rintro e w1 ⟨pa,pn,pk,rfl,hp,hb1,hf1⟩;have HP:=h_ hp;have HB1a:=h_ (show Below V.heap.size V w1 from b_ (d_ (Below.refl _ _)) hb1);have HB1:=h_ (show Below (w.heap.size+2) V w1 from HB1a.out.mono (by rw[HVS.out];omega));have HF1:=h_ (show F_ V.heap.size _ from hf1);have HC3:=h_ (HC2.out w1 HB1a.out);clear hp hb1 hf1))
 have HI1:=h_ (show I_ (((((((w2.setCell ⟨w.heap.size+1+1+1,0,none⟩ (.int .i64 l.k)).setCell ⟨w.heap.size+1+1+1,1,none⟩ (.int .i64 X1.rows)).setCell ⟨w.heap.size+1+1+1,2,none⟩ (.int .i64 X1.cols)).setCell ⟨w.heap.size+1+1+1,3,none⟩ (.slice pa pn pk)).setCell ⟨w.heap.size+1+1+1,4,none⟩ (.int .i64 X2.rows)).setCell ⟨w.heap.size+1+1+1,5,none⟩ (.int .i64 X2.cols)).setCell ⟨w.heap.size+1+1+1,6,none⟩ (.slice qa qn qk)) (.slice pa pn pk) X1.cells from I_.aboveF (HP.out.u_ HB2b.out) HF1.out ((v_ (v_ (v_ (v_ (v_ (v_ (v_ (Above.refl _ _) (by have:=HVS.out;omega)) (by have:=HVS.out;omega)) (by have:=HVS.out;omega)) (by have:=HVS.out;omega)) (by have:=HVS.out;omega)) (by have:=HVS.out;omega)) (by have:=HVS.out;omega))))
 have HI2:=h_ (show I_ (((((((w2.setCell ⟨w.heap.size+1+1+1,0,none⟩ (.int .i64 l.k)).setCell ⟨w.heap.size+1+1+1,1,none⟩ (.int .i64 X1.rows)).setCell ⟨w.heap.size+1+1+1,2,none⟩ (.int .i64 X1.cols)).setCell ⟨w.heap.size+1+1+1,3,none⟩ (.slice pa pn pk)).setCell ⟨w.heap.size+1+1+1,4,none⟩ (.int .i64 X2.rows)).setCell ⟨w.heap.size+1+1+1,5,none⟩ (.int .i64 X2.cols)).setCell ⟨w.heap.size+1+1+1,6,none⟩ (.slice qa qn qk)) (.slice qa qn qk) X2.cells from I_.aboveF HQ.out HF2.out ((v_ (v_ (v_ (v_ (v_ (v_ (v_ (Above.refl _ _) (by have:=HVS.out;omega)) (by have:=HVS.out;omega)) (by have:=HVS.out;omega)) (by have:=HVS.out;omega)) (by have:=HVS.out;omega)) (by have:=HVS.out;omega)) (by have:=HVS.out;omega))))
 have HBE:=h_ (show Below w.heap.size w (((((((w2.setCell ⟨w.heap.size+1+1+1,0,none⟩ (.int .i64 l.k)).setCell ⟨w.heap.size+1+1+1,1,none⟩ (.int .i64 X1.rows)).setCell ⟨w.heap.size+1+1+1,2,none⟩ (.int .i64 X1.cols)).setCell ⟨w.heap.size+1+1+1,3,none⟩ (.slice pa pn pk)).setCell ⟨w.heap.size+1+1+1,4,none⟩ (.int .i64 X2.rows)).setCell ⟨w.heap.size+1+1+1,5,none⟩ (.int .i64 X2.cols)).setCell ⟨w.heap.size+1+1+1,6,none⟩ (.slice qa qn qk)) from t_ (t_ (t_ (t_ (t_ (t_ (t_ (b_ HWV.out HB2a.out) (by omega)) (by omega)) (by omega)) (by omega)) (by omega)) (by omega)) (by omega))
 go_wp2
 exact bodyPost_ret (v:=.agg #[.int .i64 l.k,.int .i64 X1.rows,.int .i64 X1.cols,.slice pa pn pk,.int .i64 X2.rows,.int .i64 X2.cols,.slice qa qn qk]) (by simp[results,Tryz.results50,go_sem,t0,t1,t2,t3,t4,t5,t6]) rfl ⟨pa,pn,pk,qa,qn,qk,rfl,HI1.out,HI2.out,f_ HF1.out HWV.out.size,f_ HF2.out HWV.out.size,HBE.out⟩
def OwnsX (X:Nat→Prop) (base:Nat) (w:World) (e:TypeId) (size:Nat) (v:Value) (n:Nat) (sp:List (Int⊕List Int)):Prop:=∃cs,w.ownsRow base e size v n cs∧Enc w (fun b=>v.ownBlock=some b∨X b) sp cs
theorem OwnsX.room{X:Nat→Prop}{base:Nat}{w:World}{e:TypeId}{size cap:Nat}(cs:Array Value)(hb:base≤w.heap.size)(hc:cap≤maxLen)(hs:cs.size=cap*size):OwnsX X base (w.alloc (.cells cs e)) e size (.slice (some ⟨w.heap.size,0,none⟩) 0 cap) 0 []:=
 ⟨[],⟨by simp,.inr ⟨w.heap.size,cap,cs,rfl,hb,heap_alloc_new w _,Nat.zero_le _,hc,hs,by simp⟩⟩,Enc.nil _ _⟩
theorem OwnsX.u_{X:Nat→Prop}{base:Nat}{w w':World}{e:TypeId}{size n:Nat}{v:Value}{sp:List (Int⊕List Int)}(h:OwnsX X base w e size v n sp)(hb:Below w.heap.size w w'):OwnsX X base w' e size v n sp:=by
 obtain ⟨cs,h1,h2⟩:=h
 exact ⟨cs,h1.kept (below_grown hb) (by cases hv:v.ownBlock<;>simp),h2.map (fun p u hp=>hp.u_ hb)⟩
theorem OwnsX.lt{X:Nat→Prop}{base:Nat}{w:World}{e:TypeId}{size n:Nat}{v:Value}{sp:List (Int⊕List Int)}(h:OwnsX X base w e size v n sp):∀k,v.ownBlock=some k→base≤k∧k<w.heap.size:=by
 obtain ⟨cs,h1,_⟩:=h;exact World.ownsRow.lt h1
theorem OwnsX.low{P:Nat→Prop}{base m:Nat}{w:World}{e:TypeId}{size n:Nat}{v:Value}{sp:List (Int⊕List Int)}(h:OwnsX (fun b=>P b∨b<m) base w e size v n sp)(hm:m≤base):Owns 0 m w e size v n sp:=by
 obtain ⟨cs,h1,h2⟩:=h
 refine ⟨cs,⟨h1.1,?_⟩,h2.map (fun p u hp=>hp.mono (fun b _ hg=>hg.imp id (fun h=>.inr h.2)))⟩
 rcases h1.2 with h|⟨g,cap,cur,e1,hbg,rest⟩
 ·exact .inl h
 ·exact .inr ⟨g,cap,cur,e1,by omega,rest⟩
theorem OwnsX.kept{X X':Nat→Prop}{base:Nat}{w w':World}{g:Option Nat}{e:TypeId}{size n:Nat}{v:Value}{sp:List (Int⊕List Int)}(h:OwnsX X base w e size v n sp)(hg:w.grownBy w' g)(hne:∀b,v.ownBlock=some b→g≠some b)(hX:∀b,g=some b→X b)(hX':∀b,b<w.heap.size→X' b→X b):OwnsX X' base w' e size v n sp:=by
 obtain ⟨cs,h1,h2⟩:=h
 refine ⟨cs,h1.kept hg ?_,h2.map (fun p u hp=>hp.grown hg (fun b hb=>.inr (hX b hb)) (fun b hlt hb=>hb.imp id (hX' b hlt)))⟩
 cases hv:v.ownBlock with
 |none=>exact .inl rfl
 |some b=>exact .inr (fun e=>hne b hv e.symm)
section
variable {P:Program} {w:World}
theorem run_append_ownsX(base:Nat)(t ty e:TypeId)(i:TypeInfo)(z:Value)(size bytes:Nat)(ht:P.underlying t=some (.slice e))(hi:P.info? e=some i)(hz:i.zero=some z)
  (hsize:i.size=size) (hby:i.bytes=bytes) (hzs:z.cells.size=size) (hsz:0<size)
  (X:Nat→Prop) (v:Value) (n:Nat) (sp:List (Int⊕List Int)) (hown:OwnsX X base w e size v n sp)
  (ad:Addr) (m c:Nat) (news:List Value) (hl:news.length=m*size) (hnews:∀j u,news[j]?=some u→w.cell? (ad.add j)=some u)
  (sn:List (Int⊕List Int)) (hen:Enc w (fun b=>v.ownBlock=some b∨X b) sn news)
  (h63:n+m≤maxLen) (hbytes:(n+m)*bytes≤140737488355328) (hbase:base≤w.heap.size) (hXl:∀b,X b→b<w.heap.size):
  ∃v' w',(Builtin.append_ #[t,t] ty #[v,.slice (some ad) m c]).run P w=.ok v' w'∧OwnsX X base w' e size v' (n+m) (sp++sn)∧w.grownBy w' v.ownBlock∧(v'.ownBlock=v.ownBlock∨v'.ownBlock=some w.heap.size)∧(∀b,X b→v.ownBlock≠some b→v'.ownBlock≠some b):=by
 obtain ⟨cs,h1,h2⟩:=hown
 obtain ⟨v',w',hr,h3,h4,h5⟩:=append_where (P:=P) base t ty e i z size bytes ht hi hz hsize hby hzs hsz v n cs h1 ad m c news hl hnews hen.one h63 hbytes hbase
 refine ⟨v',w',hr,⟨_,h3,(h2.append hen).map (fun p u hp=>hp.grown h4 (fun b hb=>.inl hb) (fun b hlt hg=>?_))⟩,h4,h5,fun b hX hne he=>?_⟩
 ·rcases hg with hg|hg
  ·rcases h5 with h5|h5
   ·exact .inl (h5▸hg)
   ·rw[h5]at hg
    have:=Option.some.inj hg
    omega
  ·exact .inr hg
 ·rcases h5 with h5|h5
  ·exact hne (h5▸he)
  ·rw[h5]at he
   have:=Option.some.inj he
   have:=hXl b hX
   omega
theorem wp_append_ownsX{o:Oper}{a:Act}{K:Act→World→Prop}{Q:Exit→Act→World→Prop}(s x:Operand)(t:TypeId)
  (ho:o.op=.call { callee:=.builtin .append,args:=#[s,x],argTypes:=#[t,t] })
  (base:Nat) (e:TypeId) (i:TypeInfo) (z:Value) (size bytes:Nat) (ht:P.underlying t=some (.slice e)) (hi:P.info? e=some i) (hz:i.zero=some z)
  (hsize:i.size=size) (hby:i.bytes=bytes) (hzs:z.cells.size=size) (hsz:0<size)
  (X:Nat→Prop) (v:Value) (n:Nat) (sp:List (Int⊕List Int)) (hs:a.eval s=v) (hown:OwnsX X base w e size v n sp)
  (ad:Addr) (m c:Nat) (news:List Value) (hx:a.eval x=.slice (some ad) m c) (hl:news.length=m*size) (hnews:∀j u,news[j]?=some u→w.cell? (ad.add j)=some u)
  (sn:List (Int⊕List Int)) (hen:Enc w (fun b=>v.ownBlock=some b∨X b) sn news)
  (h63:n+m≤maxLen) (hbytes:(n+m)*bytes≤140737488355328) (hbase:base≤w.heap.size) (hXl:∀b,X b→b<w.heap.size)
  (h:∀v' w',OwnsX X base w' e size v' (n+m) (sp++sn)→w.grownBy w' v.ownBlock→(v'.ownBlock=v.ownBlock∨v'.ownBlock=some w.heap.size)→(∀b,X b→v.ownBlock≠some b→v'.ownBlock≠some b)→K (a.put o.dst v') w'):o.wp P a w K Q:=by
 obtain ⟨v',w',hr,h1,h2,h3,h4⟩:=run_append_ownsX (P:=P) base t o.type e i z size bytes ht hi hz hsize hby hzs hsz X v n sp hown ad m c news hl hnews sn hen h63 hbytes hbase hXl
 unfold Oper.wp execOp
 simp only[ho,resolve,invoke,builtin,Sem.run_bind,Sem.run_pure,Result.andThen_ok,List.map_toArray,List.map_cons,List.map_nil,hs,hx,hr]
 exact h v' w' h1 h2 h3 h4
theorem wpList_append_ownsX{ops:Array Oper}{rest:List Oper}{o:Oper}{a:Act}{Q:Exit→Act→World→Prop}(hgd:o.guard=none)(s x:Operand)(t:TypeId)
  (ho:o.op=.call { callee:=.builtin .append,args:=#[s,x],argTypes:=#[t,t] })
  (base:Nat) (e:TypeId) (i:TypeInfo) (z:Value) (size bytes:Nat) (ht:P.underlying t=some (.slice e)) (hi:P.info? e=some i) (hz:i.zero=some z)
  (hsize:i.size=size) (hby:i.bytes=bytes) (hzs:z.cells.size=size) (hsz:0<size)
  (X:Nat→Prop) (v:Value) (n:Nat) (sp:List (Int⊕List Int)) (hs:a.eval s=v) (hown:OwnsX X base w e size v n sp)
  (ad:Addr) (m c:Nat) (news:List Value) (hx:a.eval x=.slice (some ad) m c) (hl:news.length=m*size) (hnews:∀j u,news[j]?=some u→w.cell? (ad.add j)=some u)
  (sn:List (Int⊕List Int)) (hen:Enc w (fun b=>v.ownBlock=some b∨X b) sn news)
  (h63:n+m≤maxLen) (hbytes:(n+m)*bytes≤140737488355328) (hbase:base≤w.heap.size) (hXl:∀b,X b→b<w.heap.size)
  (h:∀v' w',OwnsX X base w' e size v' (n+m) (sp++sn)→w.grownBy w' v.ownBlock→(v'.ownBlock=v.ownBlock∨v'.ownBlock=some w.heap.size)→(∀b,X b→v.ownBlock≠some b→v'.ownBlock≠some b)→wpList P ops Q rest (a.put o.dst v') w'):wpList P ops Q (o::rest) a w:=
 wpList_plain hgd fun _ hK=>wp_append_ownsX s x t ho base e i z size bytes ht hi hz hsize hby hzs hsz X v n sp hs hown ad m c news hx hl hnews sn hen h63 hbytes hbase hXl (fun v' w' h1 h2 h3 h4=>hK _ _ (h v' w' h1 h2 h3 h4))
end
end Go.Proofs.YtniloklglpchfakGreat
