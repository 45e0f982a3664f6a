/- What Go of package net comes to: what stands behind each layer of a net, or what is wrong. -/
import Derived.Test.YtniloklglpchfafPkReg
import Derived.Test.YtniloklglpchfafNetC1
import Derived.Test.YtniloklglpchfafPkLGoL
import Derived.Test.YtniloklglpchfafPkTrC3
namespace Go.Proofs.Ytniloklglpchfaf
open Go.RowKit
theorem Free.put{w:World}{B:Nat}(h:Free w B)(a:Addr)(x:Value):Free (w.setCell a x) B:=fun j=>by rw[World.frozen?_setCell];exact h j
theorem rows_all{m:Mx}(h:q_ m=0):rowsE m 0 m.rows=0∧rowsX m 0 m.rows=m:=by
 obtain ⟨R,C,g⟩:=o__ h
 have hr:=g.r
 have hc:=g.c
 have hE:rowsE m 0 m.rows=0:=by unfold rowsE;rw[if_neg (by simp[h]),if_neg (by omega)]
 refine ⟨hE,?_⟩
 unfold rowsX
 rw[if_pos hE]
 have e1:(m.rows - 0).toNat*m.cols.toNat=m.cells.length:=by rw[g.l,hr,hc];simp
 have e2:(fun q=>(m.cells[(0:Int).toNat*m.cols.toNat+q]?).getD 0)=fun q=>(m.cells[q]?).getD 0:=by funext q;simp
 rw[e1,e2,tab_list,Int.sub_zero]
theorem rows_none{m:Mx}(h:¬q_ m=0):rowsE m 0 m.rows=q_ m∧rowsX m 0 m.rows=noMx:=by
 have hE:rowsE m 0 m.rows=q_ m:=by unfold rowsE;rw[if_pos h]
 exact ⟨hE,rowsX_no (by rw[hE];exact h)⟩
def keepX (m:Mx):Mx:=if q_ m=0 then m else noMx
theorem rows_keep(m:Mx):rowsE m 0 m.rows=q_ m∧rowsX m 0 m.rows=keepX m:=by
 unfold keepX
 by_cases h:q_ m=0
 ·rw[if_pos h,h];exact rows_all h
 ·rw[if_neg h];exact rows_none h
set_option maxHeartbeats 800000 in
set_option maxRecDepth 100000 in
theorem copy_any(v:Value)(m:Mx)(w:World)(hv:M_ w v m):Calls Try.prog 14 #[v] w (MxErr w (keepX m) (q_ m)):=by
 obtain ⟨s,rfl,hs⟩:=hv
 obtain ⟨za,zn,zk,rfl⟩:=hs.shape
 obtain ⟨V,hV⟩:=gM ((w.alloc (.cells #[.int .i64 m.rows,.int .i64 m.cols,.slice za zn zk] 28)).alloc (.cells #[.int .i64 0,.int .i64 0,.slice none 0 0] 28))
 have HV:=h_ hV
 have HWV:Hid (Below w.heap.size w V):=by rw[hV];exact h_ (b_ (o_ _ _) (o_ _ _))
 have HVS:Hid (V.heap.size=w.heap.size+2):=by rw[hV];exact h_ (by simp)
 have HXA:Hid (Box V w.heap.size [.int .i64 m.rows,.int .i64 m.cols,.slice za zn zk]):=by rw[hV];exact h_ ((Box.new w [.int .i64 m.rows,.int .i64 m.cols,.slice za zn zk] 28 rfl).u_ (o_ _ _))
 have HXB:Hid (Box V (w.heap.size+1) [.int .i64 0,.int .i64 0,.slice none 0 0]):=by rw[hV];exact h_ (Box.new _ [.int .i64 0,.int .i64 0,.slice none 0 0] 28 (by simp))
 have HXF:Hid (Free V (w.heap.size+1)):=by rw[hV];exact h_ (Free.new _ _ _ (by simp))
 have HC:=h_ (mrows_any (.agg #[.int .i64 m.rows,.int .i64 m.cols,.slice za zn zk]) m 0 m.rows V ⟨_,rfl,hs.u_ HWV.out⟩)
 rw[(rows_keep m).1,(rows_keep m).2]at HC
 obtain ⟨X,hX⟩:=gN (keepX m)
 obtain ⟨E,hE⟩:=gN (q_ m)
 rw[hX,hE]at HC ⊢
 obtain ⟨r,er⟩:=gN (m.rows)
 obtain ⟨c,ec⟩:=gN (m.cols)
 rw[er,ec]at HXA HC HV ⊢
 obtain ⟨d0,d1,d2⟩:=HXA.out.c3
 rw[HV.out]at d0 d1 d2
 clear hV hs hX hE er ec
 go_enter Try.func14,Try.ntmps14
 go_wp2_with fail
 rw[←HV.out]
 refine HC.out.mono ?_
 rintro e w1 ⟨v',rfl,⟨sx,rfl,hsx⟩,hb1,hf⟩
 obtain ⟨xa,xn,xk,rfl⟩:=hsx.shape
 clear d0 d1 d2 HC
 obtain ⟨t0,t1,t2⟩:=(HXB.out.u_ hb1).c3
 obtain ⟨f0,f1,f2⟩:=(HXF.out.u_ hb1 HXB.out.lt).f3
 have HM:=h_ (show M_ (((w1.setCell ⟨w.heap.size+1,0,none⟩ (.int .i64 X.rows)).setCell ⟨w.heap.size+1,1,none⟩ (.int .i64 X.cols)).setCell ⟨w.heap.size+1,2,none⟩ (.slice xa xn xk)) (.agg #[.int .i64 X.rows,.int .i64 X.cols,.slice xa xn xk]) X from M_.set3 (B:=V.heap.size) ⟨_,rfl,hsx⟩ hf (by have:=HVS.out;omega) _ _ _)
 have HB:=h_ (show Below w.heap.size w (((w1.setCell ⟨w.heap.size+1,0,none⟩ (.int .i64 X.rows)).setCell ⟨w.heap.size+1,1,none⟩ (.int .i64 X.cols)).setCell ⟨w.heap.size+1,2,none⟩ (.slice xa xn xk)) from S_ (b_ HWV.out hb1) (by omega) _ _ _)
 have HF:=h_ (f_ hf HWV.out.size)
 clear hsx hb1 hf
 by_cases hE0:E=0
 ·subst hE0
  rw[e_ rfl]
  go_wp2
  exact bodyPost_ret (v:=.tuple #[.agg #[.int .i64 X.rows,.int .i64 X.cols,.slice xa xn xk],.nilIface]) (by simp[results,Try.results14,go_sem,t0,t1,t2]) rfl ⟨_,rfl,HM.out,HB.out,HF.out⟩
 ·have HE:=h_ hE0
  rw[n_ hE0]
  clear hE0
  go_wp2
  exact bodyPost_ret (v:=.tuple #[.agg #[.int .i64 X.rows,.int .i64 X.cols,.slice xa xn xk],.iface 65 (.int .i64 E)]) (by simp[results,Try.results14,go_sem,t0,t1,t2]) rfl ⟨_,by rw[n_ HE.out],HM.out,HB.out,HF.out⟩
theorem app_keep{w W w':World}{B:Nat}{G:Nat→Prop}{u v' s x:Value}{cs:List Value}{zs:List Int}(hbx:Box W B (x::cs))(hfr:Free W B)(hp:P_ W (fun b=>u.ownBlock=some b∨G b) (.inr zs) s)(hb:Below w.heap.size w W)
  (hu:∀k,u.ownBlock=some k→B+1≤k) (hwB:w.heap.size≤B) (hg:W.grownBy w' u.ownBlock) (hwh:v'.ownBlock=u.ownBlock∨v'.ownBlock=some W.heap.size):
  Box w' B (x::cs)∧Free w' B∧P_ w' (fun b=>v'.ownBlock=some b∨G b) (.inr zs) s∧Below w.heap.size w w':=by
 have hne:some B≠u.ownBlock:=fun e=>by have:=hu _ e.symm;omega
 refine ⟨fun j y hy=>hg.cell (hbx j y hy) hne,fun j=>(World.frozen?_of_block (a:=⟨B,j,none⟩) (hg.block _ hbx.lt hne)).trans (hfr j),hp.grown hg (fun b hb=>.inl hb) (fun b hlt h=>?_),hb.grown hg hb.size (fun k hk=>by have:=hu k hk;omega)⟩
 rcases h with h|h
 ·rcases hwh with hwh|hwh
  ·exact .inl (hwh▸h)
  ·rw[hwh]at h
   have:=Option.some.inj h
   omega
 ·exact .inr h
set_option maxHeartbeats 8000000 in
set_option maxRecDepth 100000 in
theorem netgo_owns(v vx:Value)(ls:List Ly)(x:Mx)(w:World)(hv:Y_ w v ls)(hx:M_ w vx x):
  Calls Try.prog 6 #[v,vx] w fun e w'=>∃v',e=.returned (.tuple #[v',errV (ngE ls x)])∧Owns 0 w.heap.size w' 28 3 v' (ngX ls x).length ((ngX ls x).flatMap mxS)∧Below w.heap.size w w':=by
 obtain ⟨a,cap,rfl,hlc,hcm⟩:=hv.shape
 obtain ⟨sx,rfl,hsx⟩:=hx
 obtain ⟨za,zn,zk,rfl⟩:=hsx.shape
 have HV:=h_ hv
 obtain ⟨N,hN⟩:=gN (ls.length)
 have HN:=h_ hN
 have hNm:N≤maxLen:=by omega
 have HNM:=h_ hNm
 obtain ⟨X,hX⟩:=gN (ngX ls x)
 obtain ⟨E,hE⟩:=gN (ngE ls x)
 have HX:=h_ (And.intro hX hE)
 unfold maxLen at hNm
 rw[hX,hE]
 rw[hN]at HV ⊢
 obtain ⟨V,hV⟩:=gM (w.alloc (.cells #[.int .i64 x.rows,.int .i64 x.cols,.slice za zn zk] 28))
 have HVV:=h_ hV
 have HWV:Hid (Below w.heap.size w V):=by rw[hV];exact h_ (o_ _ _)
 have HBX:Hid (Box V w.heap.size [.int .i64 x.rows,.int .i64 x.cols,.slice za zn zk]):=by rw[hV];exact h_ (Box.new w _ 28 rfl)
 have HC:=h_ (count_any a N cap V HNM.out)
 have HCP:=h_ (copy_any (.agg #[.int .i64 x.rows,.int .i64 x.cols,.slice za zn zk]) x V ⟨_,rfl,hsx.u_ HWV.out⟩)
 obtain ⟨r,er⟩:=gN (x.rows)
 obtain ⟨c,ec⟩:=gN (x.cols)
 rw[er,ec]at HBX HCP HVV ⊢
 clear hX hE hv hN hlc hcm hsx er ec hV
 by_cases h12:12<N
 ·obtain rfl:E=3:=by rw[←HX.out.2];unfold ngE;rw[if_pos (by rw[HN.out];exact h12)]
  obtain rfl:X=[]:=by rw[←HX.out.1];unfold ngX;rw[HX.out.2,if_neg (by decide)]
  rw[if_pos h12,n_ (by decide)]at HC
  clear h12
  go_enter Try.func6,Try.ntmps6
  go_wp2_with fail
  rw[←HVV.out]
  refine HC.out.mono ?_
  rintro e w1 ⟨rfl,rfl⟩
  clear HC
  go_wp2
  exact bodyPost_ret (v:=.tuple #[.slice none 0 0,.iface 65 (.int .i64 3)]) (by simp[results,Try.results6,go_sem]) rfl ⟨_,rfl,Owns.nil _ _ _ _ _,HWV.out⟩
 ·have h12':¬(12:Int)<(N:Int):=by omega
  have HE0:=h_ (show (if q_ x≠0 then q_ x else runE ls x)=E by have h:=HX.out.2;unfold ngE at h;rw[if_neg (by rw[HN.out];exact h12)]at h;exact h)
  have HX0:=h_ (show (if E=0 then x::runT ls x else [])=X by have h:=HX.out.1;unfold ngX at h;rw[HX.out.2]at h;exact h)
  rw[if_neg h12,e_ rfl]at HC
  clear hNm h12
  go_enter Try.func6,Try.ntmps6
  go_wp2_with fail
  rw[←HVV.out]
  refine HC.out.mono ?_
  rintro e w0 ⟨rfl,rfl⟩
  obtain ⟨d0,d1,d2⟩:=HBX.out.c3
  clear HC
  go_wp2_with fail
  refine HCP.out.mono ?_
  clear HCP d0 d1 d2
  by_cases hf:q_ x=0
  ·have hE1:=HE0.out
   rw[if_neg (by simp[hf])]at hE1
   have HE1:=h_ hE1
   rw[show keepX x=x by unfold keepX;rw[if_pos hf],hf]
   rintro e w1 ⟨v',rfl,⟨sy,rfl,hsy⟩,hb1,hfr⟩
   rw[e_ rfl]
   obtain ⟨xa,xn,xk,rfl⟩:=hsy.shape
   obtain ⟨B,hB⟩:=gN (w1.heap.size)
   have HSY:=h_ hsy
   have HFR:=h_ hfr
   have HWB:=h_ (b_ HWV.out hb1)
   have HBS:=h_ (show w.heap.size≤B by have:=HWB.out.size;omega)
   have hmk:=run_mkL 28 32 3 40 _ Try.underlying32 infoMx ((N:Int)+1) (N+1) (by omega) (by omega) (by omega)
   have HMK:=h_ hmk
   clear hE1 hf hsy hfr hb1 hmk
   obtain ⟨r',er'⟩:=gN (x.rows)
   obtain ⟨c',ec'⟩:=gN (x.cols)
   have HRC:=h_ (And.intro er' ec')
   rw[er',ec']at HFR ⊢
   clear er' ec'
   have HX1:=h_ (Box.new w1 [.int .i64 r',.int .i64 c',.slice xa xn xk] 28 hB)
   have HF1:=h_ (Free.new w1 #[.int .i64 r',.int .i64 c',.slice xa xn xk] 28 hB)
   have HG3:=h_ (show Below w1.heap.size w1 (((w1.alloc (.cells #[.int .i64 r',.int .i64 c',.slice xa xn xk] 28)).alloc (.cells (rawCells (.agg #[.int .i64 0,.int .i64 0,.slice none 0 0]) ((N+1)*3)) 28)).alloc (.cells #[.int .i64 r',.int .i64 c',.slice xa xn xk] 28)) from a_ (a_ (a_ (Below.refl _ _))))
   have HX3:=h_ (HX1.out.u_ (a_ (a_ (Below.refl _ _)):Below _ (w1.alloc (.cells #[.int .i64 r',.int .i64 c',.slice xa xn xk] 28)) (((w1.alloc (.cells #[.int .i64 r',.int .i64 c',.slice xa xn xk] 28)).alloc (.cells (rawCells (.agg #[.int .i64 0,.int .i64 0,.slice none 0 0]) ((N+1)*3)) 28)).alloc (.cells #[.int .i64 r',.int .i64 c',.slice xa xn xk] 28))))
   have HF3:=h_ (HF1.out.u_ (a_ (a_ (Below.refl _ _)):Below _ (w1.alloc (.cells #[.int .i64 r',.int .i64 c',.slice xa xn xk] 28)) (((w1.alloc (.cells #[.int .i64 r',.int .i64 c',.slice xa xn xk] 28)).alloc (.cells (rawCells (.agg #[.int .i64 0,.int .i64 0,.slice none 0 0]) ((N+1)*3)) 28)).alloc (.cells #[.int .i64 r',.int .i64 c',.slice xa xn xk] 28))) (by simp[hB]))
   have HO2:=h_ (show OwnsG (fun b=>b<w.heap.size∨b=B) (B+1) ((w1.alloc (.cells #[.int .i64 r',.int .i64 c',.slice xa xn xk] 28)).alloc (.cells (rawCells (.agg #[.int .i64 0,.int .i64 0,.slice none 0 0]) ((N+1)*3)) 28)) 28 3 (.slice (some ⟨B+1,0,none⟩) 0 (N+1)) 0 [] by
    have h:=OwnsG.room (G:=(fun b=>b<w.heap.size∨b=B)) (base:=B+1) (w:=(w1.alloc (.cells #[.int .i64 r',.int .i64 c',.slice xa xn xk] 28))) (e:=28) (size:=3) (cap:=N+1) (rawCells (.agg #[.int .i64 0,.int .i64 0,.slice none 0 0]) ((N+1)*3)) (by simp[hB]) (by unfold maxLen;omega) (rawCells_size _ _)
    simpa [hB] using h)
   have HP3:=h_ (show P_ (((w1.alloc (.cells #[.int .i64 r',.int .i64 c',.slice xa xn xk] 28)).alloc (.cells (rawCells (.agg #[.int .i64 0,.int .i64 0,.slice none 0 0]) ((N+1)*3)) 28)).alloc (.cells #[.int .i64 r',.int .i64 c',.slice xa xn xk] 28)) (fun b=>(Value.slice (some ⟨B+1,0,none⟩) 0 (N+1)).ownBlock=some b∨(b<w.heap.size∨b=B)) (.inr x.cells) (.slice xa xn xk) from part_mid HSY.out HG3.out HFR.out (fun b hb=>by
    rcases hb with hb|hb|hb
    ·have e:B+1=b:=by simpa [Value.ownBlock] using hb
     omega
    ·have:=HWV.out.size;omega
    ·omega))
   have HO3:=h_ (HO2.out.u_ (o_ _ (.cells #[.int .i64 r',.int .i64 c',.slice xa xn xk] 28)))
   have HEN:=h_ (show Enc (((w1.alloc (.cells #[.int .i64 r',.int .i64 c',.slice xa xn xk] 28)).alloc (.cells (rawCells (.agg #[.int .i64 0,.int .i64 0,.slice none 0 0]) ((N+1)*3)) 28)).alloc (.cells #[.int .i64 r',.int .i64 c',.slice xa xn xk] 28)) (fun b=>(Value.slice (some ⟨B+1,0,none⟩) 0 (N+1)).ownBlock=some b∨(b<w.heap.size∨b=B)) (mxS x) [.int .i64 r',.int .i64 c',.slice xa xn xk] by rw[←HRC.out.1,←HRC.out.2]at HP3 ⊢;exact enc_mx HP3.out)
   have HS3:=h_ (show B+1≤(((w1.alloc (.cells #[.int .i64 r',.int .i64 c',.slice xa xn xk] 28)).alloc (.cells (rawCells (.agg #[.int .i64 0,.int .i64 0,.slice none 0 0]) ((N+1)*3)) 28)).alloc (.cells #[.int .i64 r',.int .i64 c',.slice xa xn xk] 28)).heap.size by simp[hB])
   have HNB:=h_ (show Box (((w1.alloc (.cells #[.int .i64 r',.int .i64 c',.slice xa xn xk] 28)).alloc (.cells (rawCells (.agg #[.int .i64 0,.int .i64 0,.slice none 0 0]) ((N+1)*3)) 28)).alloc (.cells #[.int .i64 r',.int .i64 c',.slice xa xn xk] 28)) (B+1+1) [.int .i64 r',.int .i64 c',.slice xa xn xk] from Box.new _ _ _ (by simp[hB]))
   obtain ⟨e0,ei,hz0,hz1,hz2⟩:=info_parts infoMx
   have HEI:=h_ (And.intro ei (And.intro hz0 (And.intro hz1 hz2)))
   clear ei hz0 hz1 hz2
   have hmk:=HMK.out
   have HBB:=h_ hB
   go_wp2_with (at_builtin;refine wpList_append_ownsG rfl _ _ 32 rfl (B+1) 28 e0 (.agg #[.int .i64 0,.int .i64 0,.slice none 0 0]) 3 40 Try.underlying32 HEI.out.1 HEI.out.2.1 HEI.out.2.2.1 HEI.out.2.2.2 rfl (by decide) (fun b=>b<w.heap.size∨b=B) _ _ _ rfl HO3.out ⟨B+1+1,0,none⟩ 1 1 [.int .i64 r',.int .i64 c',.slice xa xn xk] rfl rfl ?c1 (mxS x) HEN.out ?c3 ?c4 HS3.out ?_)
   case c1=>exact fun q u hq=>by rw[addr_add];exact HNB.out q u hq
   case c3=>unfold maxLen;omega
   case c4=>omega
   intro v1 W4 hown hgrow hwh
   clear hmk HMK
   have HR4:=h_ (app_keep HX3.out HF3.out HP3.out (b_ HWB.out HG3.out) (fun k hk=>Nat.le_of_eq (by simpa [Value.ownBlock] using hk)) HBS.out hgrow (hwh.imp id (fun h=>h.trans (by simp[hB]))))
   have HO4:=h_ (show OwnsG (fun b=>b<w.heap.size∨b=B) (B+1) W4 28 3 v1 1 ([x].flatMap mxS) by simpa using hown)
   clear hown hgrow hwh HX1 HF1 HG3 HX3 HF3 HO2 HP3 HO3 HEN HS3 HNB HBB
   go_wp2
   go_loopw [8,9,35] (fun _e o a wr=>∃(i:Nat) (xi:Int) (m:Mx) (pre:List Mx) (qa:Option Addr) (qn qk:Nat),i≤N∧xi=(i:Int)∧a=.int .i64 xi∧pre.length=i+1∧pre++runT (ls.drop i) m=x::runT ls x∧runE (ls.drop i) m=E∧
    OwnsG (fun b=>b<w.heap.size∨b=B) (B+1) wr 28 3 o (i+1) (pre.flatMap mxS)∧Box wr B [.int .i64 m.rows,.int .i64 m.cols,.slice qa qn qk]∧Free wr B∧
    P_ wr (fun b=>o.ownBlock=some b∨(b<w.heap.size∨b=B)) (.inr m.cells) (.slice qa qn qk)∧Below w.heap.size w wr) (fun _ _ a _=>N - (intOf a).toNat)
   case atStart=>
    refine ⟨0,0,x,[x],xa,xn,xk,Nat.zero_le _,rfl,rfl,rfl,rfl,HE1.out,HO4.out,?_,HR4.out.2.1,HR4.out.2.2.1,HR4.out.2.2.2⟩
    rw[HRC.out.1,HRC.out.2];exact HR4.out.1
   case round=>
    obtain ⟨i,xi,m,pre,qa,qn,qk,hi,hxi,rfl,hpl,hpr,he,how,hbx,hfx,hpt,hb⟩:=hrel
    have HXI:=h_ hxi
    have HPL:=h_ (And.intro hpl (And.intro hpr he))
    have HO:=h_ how
    have HBM:=h_ hbx
    have HFM:=h_ hfx
    have HPM:=h_ hpt
    have HB:=h_ hb
    have hxi0:0≤xi:=by omega
    have hxi1:xi≤12:=by omega
    clear hxi hpl hpr he how hbx hfx hpt hb HR4 HO4 HSY HFR HRC
    by_cases hlt:xi<(N:Int)
    ·have hin:i<N:=by have:=HXI.out;omega
     have hxn:xi.toNat=i:=by have:=HXI.out;omega
     obtain ⟨l,hl⟩:∃l,ls[i]?=some l:=⟨ls[i]'(by have:=HN.out;omega),List.getElem?_eq_getElem _⟩
     obtain ⟨b,off,cp,sa,sn,sk,ta,tn,tk,ev,k0,k1,k2,k3,k4,k5,k6,hly⟩:=HV.out.at hl
     injection ev with ev1 ev2 ev3
     clear ev2 ev3
     subst ev1
     rw[←hxn]at k0 k1 k2 k3 k4 k5 k6
     obtain ⟨lk,g0⟩:=gN (l.k)
     obtain ⟨lr,g1⟩:=gN (l.w.rows)
     obtain ⟨lc,g2⟩:=gN (l.w.cols)
     obtain ⟨br,g3⟩:=gN (l.b.rows)
     obtain ⟨bc,g4⟩:=gN (l.b.cols)
     rw[g0,g1,g2,g3,g4]at hly
     rw[g0]at k0
     rw[g1]at k1
     rw[g2]at k2
     rw[g3]at k4
     rw[g4]at k5
     have HK:=h_ (fun W (h:Below w.heap.size w W)=>And.intro (c_ h k0) (And.intro (c_ h k1) (And.intro (c_ h k2) (And.intro (c_ h k3) (And.intro (c_ h k4) (And.intro (c_ h k5) (c_ h k6)))))))
     have HLY:=h_ hly
     have HDR:=h_ (drop_at hl)
     obtain ⟨y,hy⟩:=gN (goX l m)
     obtain ⟨ge,hge⟩:=gN (goE l m)
     have HY:=h_ (And.intro hy hge)
     clear k0 k1 k2 k3 k4 k5 k6 hly hl hxn hy hge g0 g1 g2 g3 g4
     have HU:=h_ (show Below wr.heap.size wr (wr.alloc (.cells #[.int .i64 lk,.int .i64 lr,.int .i64 lc,.slice sa sn sk,.int .i64 br,.int .i64 bc,.slice ta tn tk] 52)) from o_ _ _)
     have HGO:=h_ (lgo_any _ l m (.agg #[.int .i64 m.rows,.int .i64 m.cols,.slice qa qn qk]) (wr.alloc (.cells #[.int .i64 lk,.int .i64 lr,.int .i64 lc,.slice sa sn sk,.int .i64 br,.int .i64 bc,.slice ta tn tk] 52)) (HLY.out.u_ (b_ HB.out HU.out)) ⟨_,rfl,HPM.out.1.u_ HU.out⟩)
     rw[HY.out.1,HY.out.2]at HGO
     obtain ⟨k0,k1,k2,k3,k4,k5,k6⟩:=HK.out wr HB.out
     obtain ⟨d0,d1,d2⟩:=(HBM.out.u_ HU.out).c3
     obtain ⟨hpl,hpr,he⟩:=HPL.out
     rw[HDR.out]at hpr he
     go_wp2_with fail
     refine HGO.out.mono ?_
     rintro e w2 ⟨v',rfl,⟨sy,rfl,hsy⟩,hb2,hf⟩
     obtain ⟨pa,pn,pk,rfl⟩:=hsy.shape
     have D2:=b_ HU.out hb2
     have hlt0:=HBM.out.lt
     obtain ⟨t0,t1,t2⟩:=(HBM.out.u_ D2).c3
     obtain ⟨u0,u1,u2⟩:=(HFM.out.u_ D2 hlt0).f3
     have HW2:=h_ (show Below w.heap.size w (((w2.setCell ⟨B,0,none⟩ (.int .i64 y.rows)).setCell ⟨B,1,none⟩ (.int .i64 y.cols)).setCell ⟨B,2,none⟩ (.slice pa pn pk)) from S_ (b_ HB.out D2) HBS.out _ _ _)
     by_cases hg:ge=0
     ·subst hg
      rw[e_ rfl]
      have he2:runE (ls.drop (i+1)) y=E:=by rw[←he];show _=(if goE l m≠0 then goE l m else runE (ls.drop (i+1)) (goX l m));rw[HY.out.1,HY.out.2,if_neg (by simp)]
      have hpr2:(pre++[y])++runT (ls.drop (i+1)) y=x::runT ls x:=by rw[←hpr];show _=pre++(goX l m::runT (ls.drop (i+1)) (goX l m));rw[HY.out.1];simp
      have HP2:=h_ (And.intro hpl (And.intro hpr2 he2))
      have t:=three_set (HBM.out.u_ D2) (.int .i64 y.rows) (.int .i64 y.cols) (.slice pa pn pk)
      obtain ⟨s0,s1,s2⟩:=t.c3
      have HBT:=h_ (t.u_ (o_ _ (.cells #[.int .i64 y.rows,.int .i64 y.cols,.slice pa pn pk] 28)))
      have HFT:=h_ (show Free ((((w2.setCell ⟨B,0,none⟩ (.int .i64 y.rows)).setCell ⟨B,1,none⟩ (.int .i64 y.cols)).setCell ⟨B,2,none⟩ (.slice pa pn pk)).alloc (.cells #[.int .i64 y.rows,.int .i64 y.cols,.slice pa pn pk] 28)) B from Free.u_ (((Free.put (HFM.out.u_ D2 hlt0) _ _).put _ _).put _ _) (o_ _ _) t.lt)
      have hGlt:∀b,(fun b=>u9.ownBlock=some b∨(b<w.heap.size∨b=B)) b→b<(wr.alloc (.cells #[.int .i64 lk,.int .i64 lr,.int .i64 lc,.slice sa sn sk,.int .i64 br,.int .i64 bc,.slice ta tn tk] 52)).heap.size:=fun b hb=>by
       have h1:=HU.out.size
       rcases hb with hb|hb|hb
       ·have:=(HO.out.lt b hb).2;omega
       ·have:=HBS.out;omega
       ·omega
      have HPY:=h_ (show P_ ((((w2.setCell ⟨B,0,none⟩ (.int .i64 y.rows)).setCell ⟨B,1,none⟩ (.int .i64 y.cols)).setCell ⟨B,2,none⟩ (.slice pa pn pk)).alloc (.cells #[.int .i64 y.rows,.int .i64 y.cols,.slice pa pn pk] 28)) (fun b=>u9.ownBlock=some b∨(b<w.heap.size∨b=B)) (.inr y.cells) (.slice pa pn pk) from ((((x_ hsy hf hGlt).set (.inr (.inr rfl)) 0 _).set (.inr (.inr rfl)) 1 _).set (.inr (.inr rfl)) 2 _).u_ (o_ _ _))
      have HOA:=h_ (show OwnsG (fun b=>b<w.heap.size∨b=B) (B+1) ((((w2.setCell ⟨B,0,none⟩ (.int .i64 y.rows)).setCell ⟨B,1,none⟩ (.int .i64 y.cols)).setCell ⟨B,2,none⟩ (.slice pa pn pk)).alloc (.cells #[.int .i64 y.rows,.int .i64 y.cols,.slice pa pn pk] 28)) 28 3 u9 (i+1) (pre.flatMap mxS) from ((((HO.out.u_ D2).set (.inr rfl) (Nat.lt_succ_self _) 0 _).set (.inr rfl) (Nat.lt_succ_self _) 1 _).set (.inr rfl) (Nat.lt_succ_self _) 2 _).u_ (o_ _ _))
      have HEN:=h_ (enc_mx HPY.out)
      have HSS:=h_ (show B+1≤((((w2.setCell ⟨B,0,none⟩ (.int .i64 y.rows)).setCell ⟨B,1,none⟩ (.int .i64 y.cols)).setCell ⟨B,2,none⟩ (.slice pa pn pk)).alloc (.cells #[.int .i64 y.rows,.int .i64 y.cols,.slice pa pn pk] 28)).heap.size by have:=D2.size;simp;omega)
      have HNB:=h_ (show Box ((((w2.setCell ⟨B,0,none⟩ (.int .i64 y.rows)).setCell ⟨B,1,none⟩ (.int .i64 y.cols)).setCell ⟨B,2,none⟩ (.slice pa pn pk)).alloc (.cells #[.int .i64 y.rows,.int .i64 y.cols,.slice pa pn pk] 28)) w2.heap.size [.int .i64 y.rows,.int .i64 y.cols,.slice pa pn pk] from Box.new _ _ _ (by simp))
      have HWS:=h_ (b_ HW2.out (o_ _ (.cells #[.int .i64 y.rows,.int .i64 y.cols,.slice pa pn pk] 28)))
      clear he he2 hpr hpr2 hpl hsy hb2 hf D2 hlt0 t hGlt HGO HW2 k0 k1 k2 k3 k4 k5 k6 d0 d1 d2
      go_wp2_with (at_builtin;refine wpList_append_ownsG rfl _ _ 32 rfl (B+1) 28 e0 (.agg #[.int .i64 0,.int .i64 0,.slice none 0 0]) 3 40 Try.underlying32 HEI.out.1 HEI.out.2.1 HEI.out.2.2.1 HEI.out.2.2.2 rfl (by decide) (fun b=>b<w.heap.size∨b=B) _ _ _ rfl HOA.out ⟨w2.heap.size,0,none⟩ 1 1 [.int .i64 y.rows,.int .i64 y.cols,.slice pa pn pk] rfl rfl ?c1 (mxS y) HEN.out ?c3 ?c4 HSS.out ?_)
      case c1=>exact fun q u hq=>by rw[addr_add];exact HNB.out q u hq
      case c3=>unfold maxLen;omega
      case c4=>omega
      intro v' w' hown' hgrow hwh
      have HR:=h_ (app_keep HBT.out HFT.out HPY.out HWS.out (fun k hk=>(HO.out.lt k hk).1) HBS.out hgrow (hwh.imp id (fun h=>h.trans (by simp))))
      rw[flat_snoc]at hown'
      have HOW:=h_ hown'
      clear hown' hgrow hwh s0 s1 s2 t0 t1 t2 u0 u1 u2
      go_wp2
      go_roundw
      case rel=>exact ⟨i+1,_,y,pre++[y],pa,pn,pk,by omega,by have:=HXI.out;omega,rfl,by rw[List.length_append,HP2.out.1];rfl,HP2.out.2.1,HP2.out.2.2,HOW.out,HR.out.1,HR.out.2.1,HR.out.2.2.1,HR.out.2.2.2⟩
      case measure=>have:=HXI.out;simp[intOf];omega
     ·have hEE:ge=E:=by rw[←he];show _=(if goE l m≠0 then goE l m else runE (ls.drop (i+1)) (goX l m));rw[HY.out.2,if_pos hg]
      obtain rfl:X=[]:=by rw[←HX0.out,if_neg (by rw[←hEE];exact hg)]
      subst hEE
      have HG:=h_ hg
      rw[n_ hg]
      clear hg hpl hpr he k0 k1 k2 k3 k4 k5 k6 d0 d1 d2 HGO hsy hb2 hf D2 hlt0
      go_wp2
      exact bodyPost_ret (v:=.tuple #[.slice none 0 0,.iface 65 (.int .i64 ge)]) (by simp[results,Try.results6,go_sem]) rfl ⟨_,by rw[n_ HG.out],Owns.nil _ _ _ _ _,HW2.out⟩
    ·have hin:i=N:=by have:=HXI.out;omega
     obtain ⟨hpl,hpr,he⟩:=HPL.out
     rw[hin,←HN.out,List.drop_length]at hpr he
     replace hpr:pre=x::runT ls x:=by rw[←hpr];show pre=pre++[];simp
     replace he:0=E:=he
     subst he
     obtain rfl:pre=X:=by rw[hpr,←HX0.out,if_pos rfl]
     have HM:=h_ (show Owns 0 w.heap.size wr 28 3 u9 pre.length (pre.flatMap mxS) by rw[hpl];exact HO.out.owns (by have:=HBS.out;omega) (fun b hb=>.inl hb))
     clear hpr hin hpl
     go_wp2
     exact bodyPost_ret (v:=.tuple #[u9,.nilIface]) (by simp[results,Try.results6,go_sem]) rfl ⟨_,rfl,HM.out,HB.out⟩
  ·obtain rfl:q_ x=E:=by rw[←HE0.out,if_pos hf]
   obtain rfl:X=[]:=by rw[←HX0.out,if_neg hf]
   rintro e w1 ⟨v',rfl,⟨sy,rfl,hsy⟩,hb1,hfr⟩
   have HG:=h_ hf
   rw[n_ hf]
   obtain ⟨xa,xn,xk,rfl⟩:=hsy.shape
   obtain ⟨j,hj⟩:=gN (q_ x)
   have HJ:=h_ hj
   have HB1:=h_ (a_ (o:=.cells #[.int .i64 (keepX x).rows,.int .i64 (keepX x).cols,.slice xa xn xk] 28) (b_ HWV.out hb1))
   rw[hj]
   clear hf hsy hb1 hfr hj
   go_wp2
   exact bodyPost_ret (v:=.tuple #[.slice none 0 0,.iface 65 (.int .i64 j)]) (by simp[results,Try.results6,go_sem]) rfl ⟨_,by rw[n_ HG.out,HJ.out],Owns.nil _ _ _ _ _,HB1.out⟩
theorem netgo_any(v vx:Value)(ls:List Ly)(x:Mx)(w:World)(hv:Y_ w v ls)(hx:M_ w vx x):
  Calls Try.prog 6 #[v,vx] w fun e w'=>∃v',e=.returned (.tuple #[v',errV (ngE ls x)])∧IsMxs w' v' (ngX ls x)∧Below w.heap.size w w':=by
 refine (netgo_owns v vx ls x w hv hx).mono ?_
 rintro e w1 ⟨u,h1,h2,h3⟩
 exact ⟨u,h1,reads_mxs h2.reads,h3⟩
end Go.Proofs.Ytniloklglpchfaf
