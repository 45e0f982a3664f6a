/- What Go of package net comes to: what stands behind each layer of a net, or what is wrong. -/
import Derived.Test.YtniloklglpchfakGreatPkReg
import Derived.Test.YtniloklglpchfakGreatPkLWide
import Derived.Test.YtniloklglpchfakGreatPkLGoK
import Derived.Test.YtniloklglpchfakGreatPkBatC1
namespace Go.Proofs.YtniloklglpchfakGreat
open Go.RowKit
theorem Free.put{w:World}{B:Nat}(h:Free w B)(a:Addr)(x:Value):Free (w.setCell a x) B:=fun j=>by rw[World.frozen?_setCell];exact h j
theorem rows_all{m:Mx}(h:q_ m=0):rowsE m 0 m.rows=0∧rowsX m 0 m.rows=m:=by
 obtain ⟨R,C,g⟩:=o__ h
 have hr:=g.r
 have hc:=g.c
 have hE:rowsE m 0 m.rows=0:=by unfold rowsE;rw[if_neg (by simp[h]),if_neg (by omega)]
 refine ⟨hE,?_⟩
 unfold rowsX
 rw[if_pos hE]
 have e1:(m.rows - 0).toNat*m.cols.toNat=m.cells.length:=by rw[g.l,hr,hc];simp
 have e2:(fun q=>(m.cells[(0:Int).toNat*m.cols.toNat+q]?).getD 0)=fun q=>(m.cells[q]?).getD 0:=by funext q;simp
 rw[e1,e2,tab_list,Int.sub_zero]
theorem rows_none{m:Mx}(h:¬q_ m=0):rowsE m 0 m.rows=q_ m∧rowsX m 0 m.rows=noMx:=by
 have hE:rowsE m 0 m.rows=q_ m:=by unfold rowsE;rw[if_pos h]
 exact ⟨hE,rowsX_no (by rw[hE];exact h)⟩
def keepX (m:Mx):Mx:=if q_ m=0 then m else noMx
theorem rows_keep(m:Mx):rowsE m 0 m.rows=q_ m∧rowsX m 0 m.rows=keepX m:=by
 unfold keepX
 by_cases h:q_ m=0
 ·rw[if_pos h,h];exact rows_all h
 ·rw[if_neg h];exact rows_none h
set_option maxHeartbeats 800000 in
set_option maxRecDepth 100000 in
theorem copy_any(v:Value)(m:Mx)(w:World)(hv:M_ w v m):Calls Tryz.prog 33 #[v] w (MxErr w (keepX m) (q_ m)):=by
 obtain ⟨s,rfl,hs⟩:=hv
 obtain ⟨za,zn,zk,rfl⟩:=hs.shape
 obtain ⟨V,hV⟩:=gM ((w.alloc (.cells #[.int .i64 m.rows,.int .i64 m.cols,.slice za zn zk] 28)).alloc (.cells #[.int .i64 0,.int .i64 0,.slice none 0 0] 28))
 have HV:=h_ hV
 have HWV:Hid (Below w.heap.size w V):=by rw[hV];exact h_ (b_ (o_ _ _) (o_ _ _))
 have HVS:Hid (V.heap.size=w.heap.size+2):=by rw[hV];exact h_ (by simp)
 have HXA:Hid (Box V w.heap.size [.int .i64 m.rows,.int .i64 m.cols,.slice za zn zk]):=by rw[hV];exact h_ ((Box.new w [.int .i64 m.rows,.int .i64 m.cols,.slice za zn zk] 28 rfl).u_ (o_ _ _))
 have HXB:Hid (Box V (w.heap.size+1) [.int .i64 0,.int .i64 0,.slice none 0 0]):=by rw[hV];exact h_ (Box.new _ [.int .i64 0,.int .i64 0,.slice none 0 0] 28 (by simp))
 have HXF:Hid (Free V (w.heap.size+1)):=by rw[hV];exact h_ (Free.new _ _ _ (by simp))
 have HC:=h_ (mrows_any (.agg #[.int .i64 m.rows,.int .i64 m.cols,.slice za zn zk]) m 0 m.rows V ⟨_,rfl,hs.u_ HWV.out⟩)
 rw[(rows_keep m).1,(rows_keep m).2]at HC
 obtain ⟨X,hX⟩:=gN (keepX m)
 obtain ⟨E,hE⟩:=gN (q_ m)
 rw[hX,hE]at HC ⊢
 obtain ⟨r,er⟩:=gN (m.rows)
 obtain ⟨c,ec⟩:=gN (m.cols)
 rw[er,ec]at HXA HC HV ⊢
 obtain ⟨d0,d1,d2⟩:=HXA.out.c3
 rw[HV.out]at d0 d1 d2
 clear hV hs hX hE er ec
 go_enter Tryz.func33,Tryz.ntmps33
 go_wp2_with fail
 rw[←HV.out]
 refine HC.out.mono ?_
 rintro e w1 ⟨v',rfl,⟨sx,rfl,hsx⟩,hb1,hf⟩
 obtain ⟨xa,xn,xk,rfl⟩:=hsx.shape
 clear d0 d1 d2 HC
 obtain ⟨t0,t1,t2⟩:=(HXB.out.u_ hb1).c3
 obtain ⟨f0,f1,f2⟩:=(HXF.out.u_ hb1 HXB.out.lt).f3
 have HM:=h_ (show M_ (((w1.setCell ⟨w.heap.size+1,0,none⟩ (.int .i64 X.rows)).setCell ⟨w.heap.size+1,1,none⟩ (.int .i64 X.cols)).setCell ⟨w.heap.size+1,2,none⟩ (.slice xa xn xk)) (.agg #[.int .i64 X.rows,.int .i64 X.cols,.slice xa xn xk]) X from M_.set3 (B:=V.heap.size) ⟨_,rfl,hsx⟩ hf (by have:=HVS.out;omega) _ _ _)
 have HB:=h_ (show Below w.heap.size w (((w1.setCell ⟨w.heap.size+1,0,none⟩ (.int .i64 X.rows)).setCell ⟨w.heap.size+1,1,none⟩ (.int .i64 X.cols)).setCell ⟨w.heap.size+1,2,none⟩ (.slice xa xn xk)) from S_ (b_ HWV.out hb1) (by omega) _ _ _)
 have HF:=h_ (f_ hf HWV.out.size)
 clear hsx hb1 hf
 by_cases hE0:E=0
 ·subst hE0
  rw[e_ rfl]
  go_wp2
  exact bodyPost_ret (v:=.tuple #[.agg #[.int .i64 X.rows,.int .i64 X.cols,.slice xa xn xk],.nilIface]) (by simp[results,Tryz.results33,go_sem,t0,t1,t2]) rfl ⟨_,rfl,HM.out,HB.out,HF.out⟩
 ·have HE:=h_ hE0
  rw[n_ hE0]
  clear hE0
  go_wp2
  exact bodyPost_ret (v:=.tuple #[.agg #[.int .i64 X.rows,.int .i64 X.cols,.slice xa xn xk],.iface 94 (.int .i64 E)]) (by simp[results,Tryz.results33,go_sem,t0,t1,t2]) rfl ⟨_,by rw[n_ HE.out],HM.out,HB.out,HF.out⟩
theorem app_keep{w W w':World}{B:Nat}{G:Nat→Prop}{u v' s x:Value}{cs:List Value}{zs:List Int}(hbx:Box W B (x::cs))(hfr:Free W B)(hp:P_ W (fun b=>u.ownBlock=some b∨G b) (.inr zs) s)(hb:Below w.heap.size w W)
  (hu:∀k,u.ownBlock=some k→B+1≤k) (hwB:w.heap.size≤B) (hg:W.grownBy w' u.ownBlock) (hwh:v'.ownBlock=u.ownBlock∨v'.ownBlock=some W.heap.size):
  Box w' B (x::cs)∧Free w' B∧P_ w' (fun b=>v'.ownBlock=some b∨G b) (.inr zs) s∧Below w.heap.size w w':=by
 have hne:some B≠u.ownBlock:=fun e=>by have:=hu _ e.symm;omega
 refine ⟨fun j y hy=>hg.cell (hbx j y hy) hne,fun j=>(World.frozen?_of_block (a:=⟨B,j,none⟩) (hg.block _ hbx.lt hne)).trans (hfr j),hp.grown hg (fun b hb=>.inl hb) (fun b hlt h=>?_),hb.grown hg hb.size (fun k hk=>by have:=hu k hk;omega)⟩
 rcases h with h|h
 ·rcases hwh with hwh|hwh
  ·exact .inl (hwh▸h)
  ·rw[hwh]at h
   have:=Option.some.inj h
   omega
 ·exact .inr h
set_option maxHeartbeats 8000000 in
set_option maxRecDepth 100000 in
theorem netgo_owns(v vx:Value)(ls:List Ly)(x:Mx)(w:World)(hv:Y_ w v ls)(hx:M_ w vx x):
  Calls Tryz.prog 13 #[v,vx] w fun e w'=>∃v',e=.returned (.tuple #[v',errV (ngE ls x)])∧Owns 0 w.heap.size w' 28 3 v' (ngX ls x).length ((ngX ls x).flatMap mxS)∧Below w.heap.size w w':=by
 obtain ⟨a,cap,rfl,hlc,hcm⟩:=hv.shape
 obtain ⟨sx,rfl,hsx⟩:=hx
 obtain ⟨za,zn,zk,rfl⟩:=hsx.shape
 have HV:=h_ hv
 obtain ⟨N,hN⟩:=gN (ls.length)
 have HN:=h_ hN
 have hNm:N≤maxLen:=by omega
 have HNM:=h_ hNm
 obtain ⟨X,hX⟩:=gN (ngX ls x)
 obtain ⟨E,hE⟩:=gN (ngE ls x)
 have HX:=h_ (And.intro hX hE)
 unfold maxLen at hNm
 rw[hX,hE]
 rw[hN]at HV ⊢
 obtain ⟨V,hV⟩:=gM (w.alloc (.cells #[.int .i64 x.rows,.int .i64 x.cols,.slice za zn zk] 28))
 have HVV:=h_ hV
 have HWV:Hid (Below w.heap.size w V):=by rw[hV];exact h_ (o_ _ _)
 have HBX:Hid (Box V w.heap.size [.int .i64 x.rows,.int .i64 x.cols,.slice za zn zk]):=by rw[hV];exact h_ (Box.new w _ 28 rfl)
 have HC:=h_ (count_any a N cap V HNM.out)
 have HCP:=h_ (copy_any (.agg #[.int .i64 x.rows,.int .i64 x.cols,.slice za zn zk]) x V ⟨_,rfl,hsx.u_ HWV.out⟩)
 obtain ⟨r,er⟩:=gN (x.rows)
 obtain ⟨c,ec⟩:=gN (x.cols)
 rw[er,ec]at HBX HCP HVV ⊢
 clear hX hE hv hN hlc hcm hsx er ec hV
 by_cases h12:12<N
 ·obtain rfl:E=3:=by rw[←HX.out.2];unfold ngE;rw[if_pos (by rw[HN.out];exact h12)]
  obtain rfl:X=[]:=by rw[←HX.out.1];unfold ngX;rw[HX.out.2,if_neg (by decide)]
  rw[if_pos h12,n_ (by decide)]at HC
  clear h12
  go_enter Tryz.func13,Tryz.ntmps13
  go_wp2_with fail
  rw[←HVV.out]
  refine HC.out.mono ?_
  rintro e w1 ⟨rfl,rfl⟩
  clear HC
  go_wp2
  exact bodyPost_ret (v:=.tuple #[.slice none 0 0,.iface 94 (.int .i64 3)]) (by simp[results,Tryz.results13,go_sem]) rfl ⟨_,rfl,Owns.nil _ _ _ _ _,HWV.out⟩
 ·have h12':¬(12:Int)<(N:Int):=by omega
  have HE0:=h_ (show (if q_ x≠0 then q_ x else runE ls x)=E by have h:=HX.out.2;unfold ngE at h;rw[if_neg (by rw[HN.out];exact h12)]at h;exact h)
  have HX0:=h_ (show (if E=0 then x::runT ls x else [])=X by have h:=HX.out.1;unfold ngX at h;rw[HX.out.2]at h;exact h)
  rw[if_neg h12,e_ rfl]at HC
  clear hNm h12
  go_enter Tryz.func13,Tryz.ntmps13
  go_wp2_with fail
  rw[←HVV.out]
  refine HC.out.mono ?_
  rintro e w0 ⟨rfl,rfl⟩
  obtain ⟨d0,d1,d2⟩:=HBX.out.c3
  clear HC
  go_wp2_with fail
  refine HCP.out.mono ?_
  clear HCP d0 d1 d2
  by_cases hf:q_ x=0
  ·have hE1:=HE0.out
   rw[if_neg (by simp[hf])]at hE1
   have HE1:=h_ hE1
   rw[show keepX x=x by unfold keepX;rw[if_pos hf],hf]
   rintro e w1 ⟨v',rfl,⟨sy,rfl,hsy⟩,hb1,hfr⟩
   rw[e_ rfl]
   obtain ⟨xa,xn,xk,rfl⟩:=hsy.shape
   obtain ⟨B,hB⟩:=gN (w1.heap.size)
   have HSY:=h_ hsy
   have HFR:=h_ hfr
   have HWB:=h_ (b_ HWV.out hb1)
   have HBS:=h_ (show w.heap.size≤B by have:=HWB.out.size;omega)
   have hmk:=run_mkL 28 55 3 40 _ Tryz.underlying55 infoMx ((N:Int)+1) (N+1) (by omega) (by omega) (by omega)
   have HMK:=h_ hmk
   clear hE1 hf hsy hfr hb1 hmk
   obtain ⟨r',er'⟩:=gN (x.rows)
   obtain ⟨c',ec'⟩:=gN (x.cols)
   have HRC:=h_ (And.intro er' ec')
   rw[er',ec']at HFR ⊢
   clear er' ec'
   have HX1:=h_ (Box.new w1 [.int .i64 r',.int .i64 c',.slice xa xn xk] 28 hB)
   have HF1:=h_ (Free.new w1 #[.int .i64 r',.int .i64 c',.slice xa xn xk] 28 hB)
   have HG3:=h_ (show Below w1.heap.size w1 (((w1.alloc (.cells #[.int .i64 r',.int .i64 c',.slice xa xn xk] 28)).alloc (.cells (rawCells (.agg #[.int .i64 0,.int .i64 0,.slice none 0 0]) ((N+1)*3)) 28)).alloc (.cells #[.int .i64 r',.int .i64 c',.slice xa xn xk] 28)) from a_ (a_ (a_ (Below.refl _ _))))
   have HX3:=h_ (HX1.out.u_ (a_ (a_ (Below.refl _ _)):Below _ (w1.alloc (.cells #[.int .i64 r',.int .i64 c',.slice xa xn xk] 28)) (((w1.alloc (.cells #[.int .i64 r',.int .i64 c',.slice xa xn xk] 28)).alloc (.cells (rawCells (.agg #[.int .i64 0,.int .i64 0,.slice none 0 0]) ((N+1)*3)) 28)).alloc (.cells #[.int .i64 r',.int .i64 c',.slice xa xn xk] 28))))
   have HF3:=h_ (HF1.out.u_ (a_ (a_ (Below.refl _ _)):Below _ (w1.alloc (.cells #[.int .i64 r',.int .i64 c',.slice xa xn xk] 28)) (((w1.alloc (.cells #[.int .i64 r',.int .i64 c',.slice xa xn xk] 28)).alloc (.cells (rawCells (.agg #[.int .i64 0,.int .i64 0,.slice none 0 0]) ((N+1)*3)) 28)).alloc (.cells #[.int .i64 r',.int .i64 c',.slice xa xn xk] 28))) (by simp[hB]))
   have HO2:=h_ (show OwnsG (fun b=>b<w.heap.size∨b=B) (B+1) ((w1.alloc (.cells #[.int .i64 r',.int .i64 c',.slice xa xn xk] 28)).alloc (.cells (rawCells (.agg #[.int .i64 0,.int .i64 0,.slice none 0 0]) ((N+1)*3)) 28)) 28 3 (.slice (some ⟨B+1,0,none⟩) 0 (N+1)) 0 [] by
    have h:=OwnsG.room (G:=(fun b=>b<w.heap.size∨b=B)) (base:=B+1) (w:=(w1.alloc (.cells #[.int .i64 r',.int .i64 c',.slice xa xn xk] 28))) (e:=28) (size:=3) (cap:=N+1) (rawCells (.agg #[.int .i64 0,.int .i64 0,.slice none 0 0]) ((N+1)*3)) (by simp[hB]) (by unfold maxLen;omega) (rawCells_size _ _)
    simpa [hB] using h)
   have HP3:=h_ (show P_ (((w1.alloc (.cells #[.int .i64 r',.int .i64 c',.slice xa xn xk] 28)).alloc (.cells (rawCells (.agg #[.int .i64 0,.int .i64 0,.slice none 0 0]) ((N+1)*3)) 28)).alloc (.cells #[.int .i64 r',.int .i64 c',.slice xa xn xk] 28)) (fun b=>(Value.slice (some ⟨B+1,0,none⟩) 0 (N+1)).ownBlock=some b∨(b<w.heap.size∨b=B)) (.inr x.cells) (.slice xa xn xk) from part_mid HSY.out HG3.out HFR.out (fun b hb=>by
    rcases hb with hb|hb|hb
    ·have e:B+1=b:=by simpa [Value.ownBlock] using hb
     omega
    ·have:=HWV.out.size;omega
    ·omega))
   have HO3:=h_ (HO2.out.u_ (o_ _ (.cells #[.int .i64 r',.int .i64 c',.slice xa xn xk] 28)))
   have HEN:=h_ (show Enc (((w1.alloc (.cells #[.int .i64 r',.int .i64 c',.slice xa xn xk] 28)).alloc (.cells (rawCells (.agg #[.int .i64 0,.int .i64 0,.slice none 0 0]) ((N+1)*3)) 28)).alloc (.cells #[.int .i64 r',.int .i64 c',.slice xa xn xk] 28)) (fun b=>(Value.slice (some ⟨B+1,0,none⟩) 0 (N+1)).ownBlock=some b∨(b<w.heap.size∨b=B)) (mxS x) [.int .i64 r',.int .i64 c',.slice xa xn xk] by rw[←HRC.out.1,←HRC.out.2]at HP3 ⊢;exact enc_mx HP3.out)
   have HS3:=h_ (show B+1≤(((w1.alloc (.cells #[.int .i64 r',.int .i64 c',.slice xa xn xk] 28)).alloc (.cells (rawCells (.agg #[.int .i64 0,.int .i64 0,.slice none 0 0]) ((N+1)*3)) 28)).alloc (.cells #[.int .i64 r',.int .i64 c',.slice xa xn xk] 28)).heap.size by simp[hB])
   have HNB:=h_ (show Box (((w1.alloc (.cells #[.int .i64 r',.int .i64 c',.slice xa xn xk] 28)).alloc (.cells (rawCells (.agg #[.int .i64 0,.int .i64 0,.slice none 0 0]) ((N+1)*3)) 28)).alloc (.cells #[.int .i64 r',.int .i64 c',.slice xa xn xk] 28)) (B+1+1) [.int .i64 r',.int .i64 c',.slice xa xn xk] from Box.new _ _ _ (by simp[hB]))
   obtain ⟨e0,ei,hz0,hz1,hz2⟩:=info_parts infoMx
   have HEI:=h_ (And.intro ei (And.intro hz0 (And.intro hz1 hz2)))
   clear ei hz0 hz1 hz2
   have hmk:=HMK.out
   have HBB:=h_ hB
   go_wp2_with (at_builtin;refine wpList_append_ownsG rfl _ _ 55 rfl (B+1) 28 e0 (.agg #[.int .i64 0,.int .i64 0,.slice none 0 0]) 3 40 Tryz.underlying55 HEI.out.1 HEI.out.2.1 HEI.out.2.2.1 HEI.out.2.2.2 rfl (by decide) (fun b=>b<w.heap.size∨b=B) _ _ _ rfl HO3.out ⟨B+1+1,0,none⟩ 1 1 [.int .i64 r',.int .i64 c',.slice xa xn xk] rfl rfl ?c1 (mxS x) HEN.out ?c3 ?c4 HS3.out ?_)
   case c1=>exact fun q u hq=>by rw[addr_add];exact HNB.out q u hq
   case c3=>unfold maxLen;omega
   case c4=>omega
   intro v1 W4 hown hgrow hwh
   clear hmk HMK
   have HR4:=h_ (app_keep HX3.out HF3.out HP3.out (b_ HWB.out HG3.out) (fun k hk=>Nat.le_of_eq (by simpa [Value.ownBlock] using hk)) HBS.out hgrow (hwh.imp id (fun h=>h.trans (by simp[hB]))))
   have HO4:=h_ (show OwnsG (fun b=>b<w.heap.size∨b=B) (B+1) W4 28 3 v1 1 ([x].flatMap mxS) by simpa using hown)
   clear hown hgrow hwh HX1 HF1 HG3 HX3 HF3 HO2 HP3 HO3 HEN HS3 HNB HBB
   go_wp2
   go_loopw [8,9,35] (fun _e o a wr=>∃(i:Nat) (xi:Int) (m:Mx) (pre:List Mx) (qa:Option Addr) (qn qk:Nat),i≤N∧xi=(i:Int)∧a=.int .i64 xi∧pre.length=i+1∧pre++runT (ls.drop i) m=x::runT ls x∧runE (ls.drop i) m=E∧
    OwnsG (fun b=>b<w.heap.size∨b=B) (B+1) wr 28 3 o (i+1) (pre.flatMap mxS)∧Box wr B [.int .i64 m.rows,.int .i64 m.cols,.slice qa qn qk]∧Free wr B∧
    P_ wr (fun b=>o.ownBlock=some b∨(b<w.heap.size∨b=B)) (.inr m.cells) (.slice qa qn qk)∧Below w.heap.size w wr) (fun _ _ a _=>N - (intOf a).toNat)
   case atStart=>
    refine ⟨0,0,x,[x],xa,xn,xk,Nat.zero_le _,rfl,rfl,rfl,rfl,HE1.out,HO4.out,?_,HR4.out.2.1,HR4.out.2.2.1,HR4.out.2.2.2⟩
    rw[HRC.out.1,HRC.out.2];exact HR4.out.1
   case round=>
    obtain ⟨i,xi,m,pre,qa,qn,qk,hi,hxi,rfl,hpl,hpr,he,how,hbx,hfx,hpt,hb⟩:=hrel
    have HXI:=h_ hxi
    have HPL:=h_ (And.intro hpl (And.intro hpr he))
    have HO:=h_ how
    have HBM:=h_ hbx
    have HFM:=h_ hfx
    have HPM:=h_ hpt
    have HB:=h_ hb
    have hxi0:0≤xi:=by omega
    have hxi1:xi≤12:=by omega
    clear hxi hpl hpr he how hbx hfx hpt hb HR4 HO4 HSY HFR HRC
    by_cases hlt:xi<(N:Int)
    ·have hin:i<N:=by have:=HXI.out;omega
     have hxn:xi.toNat=i:=by have:=HXI.out;omega
     obtain ⟨l,hl⟩:∃l,ls[i]?=some l:=⟨ls[i]'(by have:=HN.out;omega),List.getElem?_eq_getElem _⟩
     obtain ⟨b,off,cp,sa,sn,sk,ta,tn,tk,ev,k0,k1,k2,k3,k4,k5,k6,hly⟩:=HV.out.at hl
     injection ev with ev1 ev2 ev3
     clear ev2 ev3
     subst ev1
     rw[←hxn]at k0 k1 k2 k3 k4 k5 k6
     obtain ⟨lk,g0⟩:=gN (l.k)
     obtain ⟨lr,g1⟩:=gN (l.w.rows)
     obtain ⟨lc,g2⟩:=gN (l.w.cols)
     obtain ⟨br,g3⟩:=gN (l.b.rows)
     obtain ⟨bc,g4⟩:=gN (l.b.cols)
     rw[g0,g1,g2,g3,g4]at hly
     rw[g0]at k0
     rw[g1]at k1
     rw[g2]at k2
     rw[g3]at k4
     rw[g4]at k5
     have HK:=h_ (fun W (h:Below w.heap.size w W)=>And.intro (c_ h k0) (And.intro (c_ h k1) (And.intro (c_ h k2) (And.intro (c_ h k3) (And.intro (c_ h k4) (And.intro (c_ h k5) (c_ h k6)))))))
     have HLY:=h_ hly
     have HDR:=h_ (drop_at hl)
     obtain ⟨y,hy⟩:=gN (goX l m)
     obtain ⟨ge,hge⟩:=gN (goE l m)
     have HY:=h_ (And.intro hy hge)
     clear k0 k1 k2 k3 k4 k5 k6 hly hl hxn hy hge g0 g1 g2 g3 g4
     have HU:=h_ (show Below wr.heap.size wr (wr.alloc (.cells #[.int .i64 lk,.int .i64 lr,.int .i64 lc,.slice sa sn sk,.int .i64 br,.int .i64 bc,.slice ta tn tk] 83)) from o_ _ _)
     have HGO:=h_ (lgo_any _ l m (.agg #[.int .i64 m.rows,.int .i64 m.cols,.slice qa qn qk]) (wr.alloc (.cells #[.int .i64 lk,.int .i64 lr,.int .i64 lc,.slice sa sn sk,.int .i64 br,.int .i64 bc,.slice ta tn tk] 83)) (HLY.out.u_ (b_ HB.out HU.out)) ⟨_,rfl,HPM.out.1.u_ HU.out⟩)
     rw[HY.out.1,HY.out.2]at HGO
     obtain ⟨k0,k1,k2,k3,k4,k5,k6⟩:=HK.out wr HB.out
     obtain ⟨d0,d1,d2⟩:=(HBM.out.u_ HU.out).c3
     obtain ⟨hpl,hpr,he⟩:=HPL.out
     rw[HDR.out]at hpr he
     go_wp2_with fail
     refine HGO.out.mono ?_
     rintro e w2 ⟨v',rfl,⟨sy,rfl,hsy⟩,hb2,hf⟩
     obtain ⟨pa,pn,pk,rfl⟩:=hsy.shape
     have D2:=b_ HU.out hb2
     have hlt0:=HBM.out.lt
     obtain ⟨t0,t1,t2⟩:=(HBM.out.u_ D2).c3
     obtain ⟨u0,u1,u2⟩:=(HFM.out.u_ D2 hlt0).f3
     have HW2:=h_ (show Below w.heap.size w (((w2.setCell ⟨B,0,none⟩ (.int .i64 y.rows)).setCell ⟨B,1,none⟩ (.int .i64 y.cols)).setCell ⟨B,2,none⟩ (.slice pa pn pk)) from S_ (b_ HB.out D2) HBS.out _ _ _)
     by_cases hg:ge=0
     ·subst hg
      rw[e_ rfl]
      have he2:runE (ls.drop (i+1)) y=E:=by rw[←he];show _=(if goE l m≠0 then goE l m else runE (ls.drop (i+1)) (goX l m));rw[HY.out.1,HY.out.2,if_neg (by simp)]
      have hpr2:(pre++[y])++runT (ls.drop (i+1)) y=x::runT ls x:=by rw[←hpr];show _=pre++(goX l m::runT (ls.drop (i+1)) (goX l m));rw[HY.out.1];simp
      have HP2:=h_ (And.intro hpl (And.intro hpr2 he2))
      have t:=three_set (HBM.out.u_ D2) (.int .i64 y.rows) (.int .i64 y.cols) (.slice pa pn pk)
      obtain ⟨s0,s1,s2⟩:=t.c3
      have HBT:=h_ (t.u_ (o_ _ (.cells #[.int .i64 y.rows,.int .i64 y.cols,.slice pa pn pk] 28)))
      have HFT:=h_ (show Free ((((w2.setCell ⟨B,0,none⟩ (.int .i64 y.rows)).setCell ⟨B,1,none⟩ (.int .i64 y.cols)).setCell ⟨B,2,none⟩ (.slice pa pn pk)).alloc (.cells #[.int .i64 y.rows,.int .i64 y.cols,.slice pa pn pk] 28)) B from Free.u_ (((Free.put (HFM.out.u_ D2 hlt0) _ _).put _ _).put _ _) (o_ _ _) t.lt)
      have hGlt:∀b,(fun b=>u9.ownBlock=some b∨(b<w.heap.size∨b=B)) b→b<(wr.alloc (.cells #[.int .i64 lk,.int .i64 lr,.int .i64 lc,.slice sa sn sk,.int .i64 br,.int .i64 bc,.slice ta tn tk] 83)).heap.size:=fun b hb=>by
       have h1:=HU.out.size
       rcases hb with hb|hb|hb
       ·have:=(HO.out.lt b hb).2;omega
       ·have:=HBS.out;omega
       ·omega
      have HPY:=h_ (show P_ ((((w2.setCell ⟨B,0,none⟩ (.int .i64 y.rows)).setCell ⟨B,1,none⟩ (.int .i64 y.cols)).setCell ⟨B,2,none⟩ (.slice pa pn pk)).alloc (.cells #[.int .i64 y.rows,.int .i64 y.cols,.slice pa pn pk] 28)) (fun b=>u9.ownBlock=some b∨(b<w.heap.size∨b=B)) (.inr y.cells) (.slice pa pn pk) from ((((x_ hsy hf hGlt).set (.inr (.inr rfl)) 0 _).set (.inr (.inr rfl)) 1 _).set (.inr (.inr rfl)) 2 _).u_ (o_ _ _))
      have HOA:=h_ (show OwnsG (fun b=>b<w.heap.size∨b=B) (B+1) ((((w2.setCell ⟨B,0,none⟩ (.int .i64 y.rows)).setCell ⟨B,1,none⟩ (.int .i64 y.cols)).setCell ⟨B,2,none⟩ (.slice pa pn pk)).alloc (.cells #[.int .i64 y.rows,.int .i64 y.cols,.slice pa pn pk] 28)) 28 3 u9 (i+1) (pre.flatMap mxS) from ((((HO.out.u_ D2).set (.inr rfl) (Nat.lt_succ_self _) 0 _).set (.inr rfl) (Nat.lt_succ_self _) 1 _).set (.inr rfl) (Nat.lt_succ_self _) 2 _).u_ (o_ _ _))
      have HEN:=h_ (enc_mx HPY.out)
      have HSS:=h_ (show B+1≤((((w2.setCell ⟨B,0,none⟩ (.int .i64 y.rows)).setCell ⟨B,1,none⟩ (.int .i64 y.cols)).setCell ⟨B,2,none⟩ (.slice pa pn pk)).alloc (.cells #[.int .i64 y.rows,.int .i64 y.cols,.slice pa pn pk] 28)).heap.size by have:=D2.size;simp;omega)
      have HNB:=h_ (show Box ((((w2.setCell ⟨B,0,none⟩ (.int .i64 y.rows)).setCell ⟨B,1,none⟩ (.int .i64 y.cols)).setCell ⟨B,2,none⟩ (.slice pa pn pk)).alloc (.cells #[.int .i64 y.rows,.int .i64 y.cols,.slice pa pn pk] 28)) w2.heap.size [.int .i64 y.rows,.int .i64 y.cols,.slice pa pn pk] from Box.new _ _ _ (by simp))
      have HWS:=h_ (b_ HW2.out (o_ _ (.cells #[.int .i64 y.rows,.int .i64 y.cols,.slice pa pn pk] 28)))
      clear he he2 hpr hpr2 hpl hsy hb2 hf D2 hlt0 t hGlt HGO HW2 k0 k1 k2 k3 k4 k5 k6 d0 d1 d2
      go_wp2_with (at_builtin;refine wpList_append_ownsG rfl _ _ 55 rfl (B+1) 28 e0 (.agg #[.int .i64 0,.int .i64 0,.slice none 0 0]) 3 40 Tryz.underlying55 HEI.out.1 HEI.out.2.1 HEI.out.2.2.1 HEI.out.2.2.2 rfl (by decide) (fun b=>b<w.heap.size∨b=B) _ _ _ rfl HOA.out ⟨w2.heap.size,0,none⟩ 1 1 [.int .i64 y.rows,.int .i64 y.cols,.slice pa pn pk] rfl rfl ?c1 (mxS y) HEN.out ?c3 ?c4 HSS.out ?_)
      case c1=>exact fun q u hq=>by rw[addr_add];exact HNB.out q u hq
      case c3=>unfold maxLen;omega
      case c4=>omega
      intro v' w' hown' hgrow hwh
      have HR:=h_ (app_keep HBT.out HFT.out HPY.out HWS.out (fun k hk=>(HO.out.lt k hk).1) HBS.out hgrow (hwh.imp id (fun h=>h.trans (by simp))))
      rw[flat_snoc]at hown'
      have HOW:=h_ hown'
      clear hown' hgrow hwh s0 s1 s2 t0 t1 t2 u0 u1 u2
      go_wp2
      go_roundw
      case rel=>exact ⟨i+1,_,y,pre++[y],pa,pn,pk,by omega,by have:=HXI.out;omega,rfl,by rw[List.length_append,HP2.out.1];rfl,HP2.out.2.1,HP2.out.2.2,HOW.out,HR.out.1,HR.out.2.1,HR.out.2.2.1,HR.out.2.2.2⟩
      case measure=>have:=HXI.out;simp[intOf];omega
     ·have hEE:ge=E:=by rw[←he];show _=(if goE l m≠0 then goE l m else runE (ls.drop (i+1)) (goX l m));rw[HY.out.2,if_pos hg]
      obtain rfl:X=[]:=by rw[←HX0.out,if_neg (by rw[←hEE];exact hg)]
      subst hEE
      have HG:=h_ hg
      rw[n_ hg]
      clear hg hpl hpr he k0 k1 k2 k3 k4 k5 k6 d0 d1 d2 HGO hsy hb2 hf D2 hlt0
      go_wp2
      exact bodyPost_ret (v:=.tuple #[.slice none 0 0,.iface 94 (.int .i64 ge)]) (by simp[results,Tryz.results13,go_sem]) rfl ⟨_,by rw[n_ HG.out],Owns.nil _ _ _ _ _,HW2.out⟩
    ·have hin:i=N:=by have:=HXI.out;omega
     obtain ⟨hpl,hpr,he⟩:=HPL.out
     rw[hin,←HN.out,List.drop_length]at hpr he
     replace hpr:pre=x::runT ls x:=by rw[←hpr];show pre=pre++[];simp
     replace he:0=E:=he
     subst he
     obtain rfl:pre=X:=by rw[hpr,←HX0.out,if_pos rfl]
     have HM:=h_ (show Owns 0 w.heap.size wr 28 3 u9 pre.length (pre.flatMap mxS) by rw[hpl];exact HO.out.owns (by have:=HBS.out;omega) (fun b hb=>.inl hb))
     clear hpr hin hpl
     go_wp2
     exact bodyPost_ret (v:=.tuple #[u9,.nilIface]) (by simp[results,Tryz.results13,go_sem]) rfl ⟨_,rfl,HM.out,HB.out⟩
  ·obtain rfl:q_ x=E:=by rw[←HE0.out,if_pos hf]
   obtain rfl:X=[]:=by rw[←HX0.out,if_neg hf]
   rintro e w1 ⟨v',rfl,⟨sy,rfl,hsy⟩,hb1,hfr⟩
   have HG:=h_ hf
   rw[n_ hf]
   obtain ⟨xa,xn,xk,rfl⟩:=hsy.shape
   obtain ⟨j,hj⟩:=gN (q_ x)
   have HJ:=h_ hj
   have HB1:=h_ (a_ (o:=.cells #[.int .i64 (keepX x).rows,.int .i64 (keepX x).cols,.slice xa xn xk] 28) (b_ HWV.out hb1))
   rw[hj]
   clear hf hsy hb1 hfr hj
   go_wp2
   exact bodyPost_ret (v:=.tuple #[.slice none 0 0,.iface 94 (.int .i64 j)]) (by simp[results,Tryz.results13,go_sem]) rfl ⟨_,by rw[n_ HG.out,HJ.out],Owns.nil _ _ _ _ _,HB1.out⟩
theorem netgo_any(v vx:Value)(ls:List Ly)(x:Mx)(w:World)(hv:Y_ w v ls)(hx:M_ w vx x):
  Calls Tryz.prog 13 #[v,vx] w fun e w'=>∃v',e=.returned (.tuple #[v',errV (ngE ls x)])∧IsMxs w' v' (ngX ls x)∧Below w.heap.size w w':=by
 refine (netgo_owns v vx ls x w hv hx).mono ?_
 rintro e w1 ⟨u,h1,h2,h3⟩
 exact ⟨u,h1,reads_mxs h2.reads,h3⟩
theorem run_mkI(n:Nat)(hn:n≤17592186043904)(W:World):(Instr.makeSlice 26 (.int .i64 (n:Int)) (.int .i64 (n:Int))).run Tryz.prog W=.ok (.slice (some ⟨W.heap.size,0,none⟩) n n) (W.alloc (.cells (zeros n) 3)):=by
 obtain ⟨i0,hi,hz0,hz1,hz2⟩:=info_parts infoInt
 have hr:=run_make (P:=Tryz.prog) W 26 3 i0 (.int .i64 0) Tryz.underlying26 hi hz0 .i64 .i64 (n:Int) (n:Int) (by omega) (Int.le_refl _) (by rw[hz2];omega) (by omega)
 simpa [zeros,hz1,Value.cells] using hr
set_option maxHeartbeats 2000000 in
set_option maxRecDepth 100000 in
theorem zeros_any(v:Value)(m:Mx)(w:World)(hv:M_ w v m)(hn:m.cells.length≤17592186043904):Calls Tryz.prog 30 #[v] w fun e w'=>∃s,e=.returned (.agg #[.int .i64 m.rows,.int .i64 m.cols,s])∧I_ w' s (zeroM m).cells∧Below w.heap.size w w'∧F_ w.heap.size (.agg #[.int .i64 m.rows,.int .i64 m.cols,s]):=by
 obtain ⟨s,rfl,hs⟩:=hv
 obtain ⟨za,zk,rfl,_,_,_⟩:=id hs
 obtain ⟨n,hnn⟩:=gN (m.cells.length)
 rw[hnn]at hn ⊢
 have HNN:=h_ hnn
 have hmk:=run_mkI n hn
 obtain ⟨r,er⟩:=gN (m.rows)
 obtain ⟨c,ec⟩:=gN (m.cols)
 rw[er,ec]
 have HR:=h_ (And.intro er ec)
 have HSB:Hid (∀W',Below (w.alloc (.cells #[.int .i64 r,.int .i64 c,.slice za n zk] 28)).heap.size (w.alloc (.cells #[.int .i64 r,.int .i64 c,.slice za n zk] 28)) W'→(fun W'=>W'.cell? ⟨w.heap.size,0,none⟩=some (.int .i64 r)∧W'.cell? ⟨w.heap.size,1,none⟩=some (.int .i64 c)∧W'.cell? ⟨w.heap.size,2,none⟩=some (.slice za n zk)) W'):=h_ (fun W' h=>have hx:=(Box.new w [.int .i64 r,.int .i64 c,.slice za n zk] 28 rfl).u_ h;⟨hx 0 _ rfl,hx 1 _ rfl,hx 2 _ rfl⟩)
 clear hs hnn er ec
 go_enter Tryz.func30,Tryz.ntmps30
 go_wp2
 go_region_held3 (fun W'=>W'.cell? ⟨w.heap.size,0,none⟩=some (.int .i64 r)∧W'.cell? ⟨w.heap.size,1,none⟩=some (.int .i64 c)∧W'.cell? ⟨w.heap.size,2,none⟩=some (.slice za n zk)) ((refine HSB.out _ ?_;repeat' (first|with_reducible exact Below.refl _ _|with_reducible refine d_ ?_|with_reducible refine a_ ?_|with_reducible refine t_ ?_ ?_|exact Nat.le_refl _|exact Nat.le_succ _))) (fail)
 all_goals go_wp2
 have HM:=h_ (show I_ (((w.alloc (.cells #[.int .i64 r,.int .i64 c,.slice za n zk] 28)).alloc (.cells #[.int .i64 r,.int .i64 c,.slice (some ⟨w.heap.size+1+1,0,none⟩) n n] 28)).alloc (.cells (zeros n) 3)).drew (.slice (some ⟨w.heap.size+1+1,0,none⟩) n n) (zeroM m).cells by
  have h:=RowAt.isTab (e:=3) (RowAt.drew (zeros_row ((w.alloc (.cells #[.int .i64 r,.int .i64 c,.slice za n zk] 28)).alloc (.cells #[.int .i64 r,.int .i64 c,.slice (some ⟨w.heap.size+1+1,0,none⟩) n n] 28)) n)) (by unfold maxLen;omega)
  rw[World.size_alloc,World.size_alloc]at h
  unfold zeroM
  rw[HNN.out];exact h)
 exact bodyPost_ret (v:=.agg #[.int .i64 r,.int .i64 c,.slice (some ⟨w.heap.size+1+1,0,none⟩) n n]) (by simp[results,Tryz.results30,go_sem]) rfl ⟨_,rfl,HM.out,d_ (a_ (a_ (a_ (Below.refl _ _)))),fresh_at (by omega) _ _ _⟩
theorem zeroD_snoc(ls:List Ly)(l:Ly):zeroD ls++[(zeroM l.w,zeroM l.b)]=zeroD (ls++[l]):=by unfold zeroD;simp
set_option maxHeartbeats 8000000 in
set_option maxRecDepth 100000 in
theorem netzero_owns(v:Value)(ls:List Ly)(w:World)(hv:Y_ w v ls)(hle:ls.length≤1599289640355)(hz:∀l∈ls,l.w.cells.length≤17592186043904∧l.b.cells.length≤17592186043904):
  Calls Tryz.prog 11 #[v] w fun e w'=>∃u,e=.returned u∧Owns 0 w.heap.size w' 109 6 u (zeroD ls).length ((zeroD ls).flatMap gdS)∧Below w.heap.size w w':=by
 obtain ⟨a,cap,rfl,hlc,hcm⟩:=hv.shape
 have HV:=h_ hv
 have HZ:=h_ hz
 obtain ⟨N,hN⟩:=gN (ls.length)
 have HN:=h_ hN
 rw[hN]at HV hle ⊢
 have hmk:=run_mkL 109 23 6 80 _ Tryz.underlying23 infoGd (N:Int) N rfl (by omega) (by omega)
 have HO0:=h_ (show Owns 0 w.heap.size (w.alloc (.cells (rawCells (.agg #[.int .i64 0,.int .i64 0,.slice none 0 0,.int .i64 0,.int .i64 0,.slice none 0 0]) (N*6)) 109)) 109 6 (.slice (some ⟨w.heap.size,0,none⟩) 0 N) 0 [] from
  Owns.room _ (Nat.le_refl _) (by unfold maxLen;omega) (rawCells_size _ _))
 have HLE:=h_ hle
 obtain ⟨e0,ei,hz0,hz1,hz2⟩:=info_parts infoGd
 have HEI:=h_ (And.intro ei (And.intro hz0 (And.intro hz1 hz2)))
 have hN63:(N:Int)≤1599289640355:=by omega
 clear hv hz hN hlc hcm hle ei hz0 hz1 hz2
 go_enter Tryz.func11,Tryz.ntmps11
 go_wp2
 clear hmk
 go_loopw [3,11] (fun o a wr=>∃(i:Nat) (xi:Int),i≤N∧xi=(i:Int)∧a=.int .i64 xi∧Owns 0 w.heap.size wr 109 6 o i ((zeroD (ls.take i)).flatMap gdS)∧Below w.heap.size w wr) (fun _ a _=>N - (intOf a).toNat)
 case atStart=>exact ⟨0,0,Nat.zero_le _,rfl,rfl,by simpa [zeroD] using HO0.out,o_ _ _⟩
 case round=>
  obtain ⟨i,xi,hi,hxi,rfl,how,hb⟩:=hrel
  have HXI:=h_ hxi
  have HO:=h_ how
  have HB:=h_ hb
  have hxi0:0≤xi:=by omega
  have hxi1:xi≤1599289640355:=by omega
  clear hxi how hb HO0
  by_cases hlt:xi<(N:Int)
  ·have hin:i<N:=by have:=HXI.out;omega
   have hxn:xi.toNat=i:=by have:=HXI.out;omega
   obtain ⟨l,hl⟩:∃l,ls[i]?=some l:=⟨ls[i]'(by have:=HN.out;omega),List.getElem?_eq_getElem _⟩
   obtain ⟨b,off,cp,sa,sn,sk,ta,tn,tk,ev,k0,k1,k2,k3,k4,k5,k6,hly⟩:=HV.out.at hl
   injection ev with ev1 ev2 ev3
   clear ev2 ev3
   subst ev1
   rw[←hxn]at k0 k1 k2 k3 k4 k5 k6
   replace k0:=c_ HB.out k0
   replace k1:=c_ HB.out k1
   replace k2:=c_ HB.out k2
   replace k3:=c_ HB.out k3
   replace k4:=c_ HB.out k4
   replace k5:=c_ HB.out k5
   replace k6:=c_ HB.out k6
   obtain ⟨i1,i2⟩:=Y_.ints hly
   obtain ⟨z1,z2⟩:=HZ.out l (List.mem_of_getElem? hl)
   have HLB:=h_ (show Box (wr.alloc (.cells #[.int .i64 l.k,.int .i64 l.w.rows,.int .i64 l.w.cols,.slice sa sn sk,.int .i64 l.b.rows,.int .i64 l.b.cols,.slice ta tn tk] 83)) wr.heap.size [.int .i64 l.k,.int .i64 l.w.rows,.int .i64 l.w.cols,.slice sa sn sk,.int .i64 l.b.rows,.int .i64 l.b.cols,.slice ta tn tk] from Box.new _ _ _ rfl)
   have HSB:Hid (∀W',Below (wr.alloc (.cells #[.int .i64 l.k,.int .i64 l.w.rows,.int .i64 l.w.cols,.slice sa sn sk,.int .i64 l.b.rows,.int .i64 l.b.cols,.slice ta tn tk] 83)).heap.size (wr.alloc (.cells #[.int .i64 l.k,.int .i64 l.w.rows,.int .i64 l.w.cols,.slice sa sn sk,.int .i64 l.b.rows,.int .i64 l.b.cols,.slice ta tn tk] 83)) W'→(fun W'=>W'.cell? ⟨wr.heap.size,1,none⟩=some (.int .i64 l.w.rows)∧W'.cell? ⟨wr.heap.size,2,none⟩=some (.int .i64 l.w.cols)∧W'.cell? ⟨wr.heap.size,3,none⟩=some (.slice sa sn sk)∧W'.cell? ⟨wr.heap.size,4,none⟩=some (.int .i64 l.b.rows)∧W'.cell? ⟨wr.heap.size,5,none⟩=some (.int .i64 l.b.cols)∧W'.cell? ⟨wr.heap.size,6,none⟩=some (.slice ta tn tk)) W'):=h_ (fun W' h=>have hx:=HLB.out.u_ h;⟨hx 1 _ rfl,hx 2 _ rfl,hx 3 _ rfl,hx 4 _ rfl,hx 5 _ rfl,hx 6 _ rfl⟩)
   have HZ1:=h_ (zeros_any (.agg #[.int .i64 l.w.rows,.int .i64 l.w.cols,.slice sa sn sk]) l.w (wr.alloc (.cells #[.int .i64 l.k,.int .i64 l.w.rows,.int .i64 l.w.cols,.slice sa sn sk,.int .i64 l.b.rows,.int .i64 l.b.cols,.slice ta tn tk] 83)).drew ⟨_,rfl,i1.u_ (d_ (a_ HB.out))⟩ z1)
   have HZ2:=h_ (fun W (h:Below (wr.alloc (.cells #[.int .i64 l.k,.int .i64 l.w.rows,.int .i64 l.w.cols,.slice sa sn sk,.int .i64 l.b.rows,.int .i64 l.b.cols,.slice ta tn tk] 83)).heap.size (wr.alloc (.cells #[.int .i64 l.k,.int .i64 l.w.rows,.int .i64 l.w.cols,.slice sa sn sk,.int .i64 l.b.rows,.int .i64 l.b.cols,.slice ta tn tk] 83)) W)=>zeros_any (.agg #[.int .i64 l.b.rows,.int .i64 l.b.cols,.slice ta tn tk]) l.b W ⟨_,rfl,i2.u_ (b_ (a_ HB.out) h)⟩ z2)
   have HGL:=h_ (show ∀b,(fun b=>u3.ownBlock=some b∨(0≤b∧b<w.heap.size)) b→b<(wr.alloc (.cells #[.int .i64 l.k,.int .i64 l.w.rows,.int .i64 l.w.cols,.slice sa sn sk,.int .i64 l.b.rows,.int .i64 l.b.cols,.slice ta tn tk] 83)).drew.heap.size from fun b hb=>by
    have h1:=szd1 wr (.cells #[.int .i64 l.k,.int .i64 l.w.rows,.int .i64 l.w.cols,.slice sa sn sk,.int .i64 l.b.rows,.int .i64 l.b.cols,.slice ta tn tk] 83)
    rcases hb with hb|hb
    ·have:=(HO.out.lt b hb).2;omega
    ·have:=HB.out.size;omega)
   have HNE:=h_ (show some wr.heap.size≠u3.ownBlock from fun e=>by have:=(HO.out.lt _ e.symm).2;omega)
   have HM1:=h_ (show i+1≤maxLen by unfold maxLen;have:=HLE.out;omega)
   have HM2:=h_ (show (i+1)*80≤140737488355328 by have:=HLE.out;omega)
   have HTK:=h_ (show (zeroD (ls.take i))++[(zeroM l.w,zeroM l.b)]=zeroD (ls.take (i+1)) by rw[zeroD_snoc,take_end hl])
   clear hly i1 i2 z1 z2 hl hxn
   go_wp2
   obtain ⟨lm1,lm2,lm3,lm4,lm5,lm6⟩:=HSB.out (wr.alloc (.cells #[.int .i64 l.k,.int .i64 l.w.rows,.int .i64 l.w.cols,.slice sa sn sk,.int .i64 l.b.rows,.int .i64 l.b.cols,.slice ta tn tk] 83)) (Below.refl _ _)
   go_region_held3 (fun W'=>W'.cell? ⟨wr.heap.size,1,none⟩=some (.int .i64 l.w.rows)∧W'.cell? ⟨wr.heap.size,2,none⟩=some (.int .i64 l.w.cols)∧W'.cell? ⟨wr.heap.size,3,none⟩=some (.slice sa sn sk)∧W'.cell? ⟨wr.heap.size,4,none⟩=some (.int .i64 l.b.rows)∧W'.cell? ⟨wr.heap.size,5,none⟩=some (.int .i64 l.b.cols)∧W'.cell? ⟨wr.heap.size,6,none⟩=some (.slice ta tn tk)) (first|exact HSW.out|(refine HSB.out _ ?_;repeat' (first|with_reducible exact Below.refl _ _|with_reducible exact HB2.out|with_reducible exact HB1.out|with_reducible refine d_ ?_|with_reducible refine a_ ?_|exact Nat.le_refl _|exact Nat.le_succ _)))
    (first
     |(go_at_call 30;guard_target=Calls _ _ _ (World.drew (World.alloc wr _)) _;refine HZ1.out.mono ?_;rintro e w1 ⟨s1,rfl,hs1,hb1,hf1⟩;obtain ⟨pa,pn,pk,rfl⟩:=hs1.shape;have HS1:=h_ hs1;have HB1:=h_ (show Below (wr.alloc (.cells #[.int .i64 l.k,.int .i64 l.w.rows,.int .i64 l.w.cols,.slice sa sn sk,.int .i64 l.b.rows,.int .i64 l.b.cols,.slice ta tn tk] 83)).heap.size (wr.alloc (.cells #[.int .i64 l.k,.int .i64 l.w.rows,.int .i64 l.w.cols,.slice sa sn sk,.int .i64 l.b.rows,.int .i64 l.b.cols,.slice ta tn tk] 83)) w1 from b_ (d_ (Below.refl _ _)) hb1);have HF1:=h_ hf1;have HZ3:=h_ (HZ2.out w1 HB1.out);clear hs1 hb1 hf1)
     |(go_at_call 30;refine HZ3.out.mono ?_;rintro e w2 ⟨s2,rfl,hs2,hb2,hf2⟩;obtain ⟨qa,qn,qk,rfl⟩:=hs2.shape;have HB2:=h_ (show Below (wr.alloc (.cells #[.int .i64 l.k,.int .i64 l.w.rows,.int .i64 l.w.cols,.slice sa sn sk,.int .i64 l.b.rows,.int .i64 l.b.cols,.slice ta tn tk] 83)).heap.size (wr.alloc (.cells #[.int .i64 l.k,.int .i64 l.w.rows,.int .i64 l.w.cols,.slice sa sn sk,.int .i64 l.b.rows,.int .i64 l.b.cols,.slice ta tn tk] 83)) w2 from b_ HB1.out hb2);have HBA:=h_ (show Below wr.heap.size wr (w2.alloc (.cells #[.int .i64 l.w.rows,.int .i64 l.w.cols,.slice pa pn pk,.int .i64 l.b.rows,.int .i64 l.b.cols,.slice qa qn qk] 109)) from a_ (b_ (o_ _ _) HB2.out));have HOA:=h_ (HO.out.u_ HBA.out);have HEN:=h_ (show Enc (w2.alloc (.cells #[.int .i64 l.w.rows,.int .i64 l.w.cols,.slice pa pn pk,.int .i64 l.b.rows,.int .i64 l.b.cols,.slice qa qn qk] 109)) (fun b=>u3.ownBlock=some b∨(0≤b∧b<w.heap.size)) (gdS (zeroM l.w,zeroM l.b)) [.int .i64 l.w.rows,.int .i64 l.w.cols,.slice pa pn pk,.int .i64 l.b.rows,.int .i64 l.b.cols,.slice qa qn qk] from enc_gd (d:=(zeroM l.w,zeroM l.b)) ((x_ HS1.out HF1.out (fun b hb=>HGL.out b hb)).u_ (a_ hb2)) ((x_ hs2 hf2 (fun b hb=>Nat.lt_of_lt_of_le (HGL.out b hb) HB1.out.size)).u_ (o_ _ _)));have HNB:=h_ (show Box (w2.alloc (.cells #[.int .i64 l.w.rows,.int .i64 l.w.cols,.slice pa pn pk,.int .i64 l.b.rows,.int .i64 l.b.cols,.slice qa qn qk] 109)) w2.heap.size [.int .i64 l.w.rows,.int .i64 l.w.cols,.slice pa pn pk,.int .i64 l.b.rows,.int .i64 l.b.cols,.slice qa qn qk] from Box.new _ _ _ rfl);have HBS:=h_ (show w.heap.size≤(w2.alloc (.cells #[.int .i64 l.w.rows,.int .i64 l.w.cols,.slice pa pn pk,.int .i64 l.b.rows,.int .i64 l.b.cols,.slice qa qn qk] 109)).heap.size from Nat.le_trans HB.out.size HBA.out.size);clear hs2 hb2 hf2)
     |((try rw[if_pos (by rfl)]);refine wp_append_owns _ _ 23 rfl w.heap.size 109 e0 (.agg #[.int .i64 0,.int .i64 0,.slice none 0 0,.int .i64 0,.int .i64 0,.slice none 0 0]) 6 80 Tryz.underlying23 HEI.out.1 HEI.out.2.1 HEI.out.2.2.1 HEI.out.2.2.2 rfl (by decide) 0 _ _ _ rfl HOA.out ⟨w2.heap.size,0,none⟩ 1 1 [.int .i64 l.w.rows,.int .i64 l.w.cols,.slice pa pn pk,.int .i64 l.b.rows,.int .i64 l.b.cols,.slice qa qn qk] rfl rfl (fun q u hq=>by rw[addr_add];exact HNB.out q u hq) (gdS (zeroM l.w,zeroM l.b)) HEN.out HM1.out HM2.out HBS.out ?_;intro v' w' hown' hgrow hwh;have HOW:=h_ hown';have HBW:=h_ (show Below w.heap.size w w' from (b_ HB.out HBA.out).grown hgrow HBS.out (fun k hk=>(HO.out.lt k hk).1));have HSW:=h_ (show (fun W'=>W'.cell? ⟨wr.heap.size,1,none⟩=some (.int .i64 l.w.rows)∧W'.cell? ⟨wr.heap.size,2,none⟩=some (.int .i64 l.w.cols)∧W'.cell? ⟨wr.heap.size,3,none⟩=some (.slice sa sn sk)∧W'.cell? ⟨wr.heap.size,4,none⟩=some (.int .i64 l.b.rows)∧W'.cell? ⟨wr.heap.size,5,none⟩=some (.int .i64 l.b.cols)∧W'.cell? ⟨wr.heap.size,6,none⟩=some (.slice ta tn tk)) w' from (fun hx:Box w' wr.heap.size [.int .i64 l.k,.int .i64 l.w.rows,.int .i64 l.w.cols,.slice sa sn sk,.int .i64 l.b.rows,.int .i64 l.b.cols,.slice ta tn tk]=>⟨hx 1 _ rfl,hx 2 _ rfl,hx 3 _ rfl,hx 4 _ rfl,hx 5 _ rfl,hx 6 _ rfl⟩) (fun j u hu=>hgrow.cell (((HLB.out.u_ HB2.out).u_ (o_ _ _)) j u hu) HNE.out));clear hown' hgrow hwh))
   all_goals go_wp2
   all_goals go_roundw
   case rel=>exact ⟨i+1,_,by omega,by have:=HXI.out;omega,rfl,by rw[←HTK.out,←flat_snoc];exact HOW.out,HBW.out⟩
   case measure=>have:=HXI.out;simp[intOf];omega
  ·have hin:i=N:=by have:=HXI.out;omega
   have HM:=h_ (show Owns 0 w.heap.size wr 109 6 u3 (zeroD ls).length ((zeroD ls).flatMap gdS) by
    have h:=HO.out
    rw[hin,←HN.out,List.take_length]at h
    rw[show (zeroD ls).length=ls.length by unfold zeroD;simp];exact h)
   clear hin
   go_wp2
   go_ret
   exact ⟨_,rfl,HM.out,HB.out⟩
theorem netzero_any(v:Value)(ls:List Ly)(w:World)(hv:Y_ w v ls)(hle:ls.length≤1599289640355)(hz:∀l∈ls,l.w.cells.length≤17592186043904∧l.b.cells.length≤17592186043904):
  Calls Tryz.prog 11 #[v] w fun e w'=>∃u,e=.returned u∧D_ w' u (zeroD ls)∧Below w.heap.size w w':=by
 refine (netzero_owns v ls w hv hle hz).mono ?_
 rintro e w1 ⟨u,h1,h2,h3⟩
 exact ⟨u,h1,h2.reads,h3⟩
end Go.Proofs.YtniloklglpchfakGreat
