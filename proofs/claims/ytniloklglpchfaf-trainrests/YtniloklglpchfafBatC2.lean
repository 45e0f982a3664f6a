/- What rowsOf and Split of package batch come to: some rows of a batch, and a batch in parts. -/
import Derived.Test.YtniloklglpchfafBatC1
import Derived.Test.YtniloklglpchfafMOps1
import Derived.Test.YtniloklglpchfafPkTrC3
import Derived.Test.YtniloklglpchfafPkReg
namespace Go.Proofs.Ytniloklglpchfaf
open Go.RowKit
theorem rows_good{va:Value}{ma:Mx}(f t:Int)(w:World)(hva:M_ w va ma)(X:Mx)(hX:rowsX ma f t=X)(hE:rowsE ma f t=0):Calls Try.prog 28 #[va,.int .i64 f,.int .i64 t] w fun e w'=>∃a n k,e=.returned (.tuple #[.agg #[.int .i64 X.rows,.int .i64 X.cols,.slice a n k],.nilIface])∧I_ w' (.slice a n k) X.cells∧Below w.heap.size w w'∧F_ w.heap.size (.agg #[.int .i64 X.rows,.int .i64 X.cols,.slice a n k]):=by
 refine (mrows_any va ma f t w hva).mono ?_
 intro e w' h
 obtain ⟨v',rfl,⟨s,rfl,hs⟩,hb,hf⟩:=h
 obtain ⟨a,n,k,rfl⟩:=hs.shape
 rw[hE,e_ rfl]
 rw[hX]at hs hf
 exact ⟨a,n,k,by rw[hX],hs,hb,hf⟩
set_option maxHeartbeats 8000000 in
set_option maxRecDepth 100000 in
theorem browsof_any(b:Mx×Mx)(X1 X2:Mx)(f t:Int)(sa:Option Addr)(sn sk:Nat)(ta:Option Addr)(tn tk:Nat)(w:World)(hs:I_ w (.slice sa sn sk) b.1.cells)(ht:I_ w (.slice ta tn tk) b.2.cells)(e1:rowsX b.1 f t=X1)(e2:rowsX b.2 f t=X2)(z1:rowsE b.1 f t=0)(z2:rowsE b.2 f t=0):
  Calls Try.prog 57 #[.agg #[.int .i64 b.1.rows,.int .i64 b.1.cols,.slice sa sn sk,.int .i64 b.2.rows,.int .i64 b.2.cols,.slice ta tn tk],.int .i64 f,.int .i64 t] w fun e w'=>∃pa pn pk qa qn qk,e=.returned (.tuple #[.agg #[.int .i64 X1.rows,.int .i64 X1.cols,.slice pa pn pk,.int .i64 X2.rows,.int .i64 X2.cols,.slice qa qn qk],.nilIface])∧I_ w' (.slice pa pn pk) X1.cells∧I_ w' (.slice qa qn qk) X2.cells∧F_ w.heap.size (.agg #[.int .i64 X1.rows,.int .i64 X1.cols,.slice pa pn pk])∧F_ w.heap.size (.agg #[.int .i64 X2.rows,.int .i64 X2.cols,.slice qa qn qk])∧Below w.heap.size w w':=by
 obtain ⟨V,hV⟩:=gM ((w.alloc (.cells #[.int .i64 b.1.rows,.int .i64 b.1.cols,.slice sa sn sk,.int .i64 b.2.rows,.int .i64 b.2.cols,.slice ta tn tk] 42)).alloc (.cells #[.int .i64 0,.int .i64 0,.slice none 0 0,.int .i64 0,.int .i64 0,.slice none 0 0] 42))
 have HV:=h_ hV
 have HWV:Hid (Below w.heap.size w V):=by rw[hV];exact h_ (a_ (o_ _ _))
 have HVS:Hid (V.heap.size=w.heap.size+2):=by rw[hV];exact h_ (by simp)
 have HBX:Hid (Box V w.heap.size [.int .i64 b.1.rows,.int .i64 b.1.cols,.slice sa sn sk,.int .i64 b.2.rows,.int .i64 b.2.cols,.slice ta tn tk]):=by rw[hV];exact h_ ((Box.new w _ 42 rfl).u_ (o_ _ _))
 have HXZ:Hid (Box V (w.heap.size+1) [.int .i64 0,.int .i64 0,.slice none 0 0,.int .i64 0,.int .i64 0,.slice none 0 0]):=by rw[hV];exact h_ (Box.new _ [.int .i64 0,.int .i64 0,.slice none 0 0,.int .i64 0,.int .i64 0,.slice none 0 0] 42 (by simp))
 have HXF:Hid (Free V (w.heap.size+1)):=by rw[hV];exact h_ (Free.new _ _ _ (by simp))
 have HC1:=h_ (rows_good f t V (va:=.agg #[.int .i64 b.1.rows,.int .i64 b.1.cols,.slice sa sn sk]) (ma:=b.1) ⟨_,rfl,hs.u_ HWV.out⟩ X1 e1 z1)
 have HC2:=h_ (fun W (h:Below w.heap.size w W)=>rows_good f t W (va:=.agg #[.int .i64 b.2.rows,.int .i64 b.2.cols,.slice ta tn tk]) (ma:=b.2) ⟨_,rfl,ht.u_ h⟩ X2 e2 z2)
 obtain ⟨d0,d1,d2⟩:=HBX.out.c3
 rw[HV.out]at d0 d1 d2
 clear hV hs ht e1 e2 z1 z2
 go_enter Try.func57,Try.ntmps57
 go_wp2_with fail
 rw[←HV.out]
 refine HC1.out.mono ?_
 rintro e w1 ⟨pa,pn,pk,rfl,hp,hb1,hf1⟩
 have HP:=h_ hp
 have HF1:=h_ hf1
 have HB1:=h_ (show Below V.heap.size V (w1.alloc (.cells #[.int .i64 X1.rows,.int .i64 X1.cols,.slice pa pn pk] 28)) from a_ hb1)
 have HBB:=h_ (Box.new w1 [.int .i64 X1.rows,.int .i64 X1.cols,.slice pa pn pk] 28 rfl)
 have HP1:=h_ (hp.u_ (o_ w1 (.cells #[.int .i64 X1.rows,.int .i64 X1.cols,.slice pa pn pk] 28)))
 clear hp hf1 hb1 d0 d1 d2 HC1
 obtain ⟨d3,d4,d5⟩:=(HBX.out.u_ HB1.out).c35
 have HX2:=h_ (HC2.out _ (b_ HWV.out HB1.out))
 go_wp2_with fail
 refine HX2.out.mono ?_
 rintro e w2 ⟨qa,qn,qk,rfl,hq,hb2,hf2⟩
 have HQ:=h_ hq
 have HF2:=h_ (f_ hf2 HB1.out.size)
 have HB2:=h_ (b_ HB1.out hb2)
 have HPP:=h_ (HP1.out.u_ hb2)
 have HB3:=h_ (show Below V.heap.size V (w2.alloc (.cells #[.int .i64 X2.rows,.int .i64 X2.cols,.slice qa qn qk] 28)) from a_ HB2.out)
 obtain ⟨c0,c1,c2⟩:=(HBB.out.u_ (a_ (o:=(.cells #[.int .i64 X2.rows,.int .i64 X2.cols,.slice qa qn qk] 28)) hb2)).c3
 clear hq hf2 hb2 d3 d4 d5 HX2
 have t0:=(HXZ.out.u_ HB3.out) 0 _ rfl;have f0:=(HXF.out.u_ HB3.out HXZ.out.lt) 0;have t1:=(HXZ.out.u_ HB3.out) 1 _ rfl;have f1:=(HXF.out.u_ HB3.out HXZ.out.lt) 1;have t2:=(HXZ.out.u_ HB3.out) 2 _ rfl;have f2:=(HXF.out.u_ HB3.out HXZ.out.lt) 2;have t3:=(HXZ.out.u_ HB3.out) 3 _ rfl;have f3:=(HXF.out.u_ HB3.out HXZ.out.lt) 3;have t4:=(HXZ.out.u_ HB3.out) 4 _ rfl;have f4:=(HXF.out.u_ HB3.out HXZ.out.lt) 4;have t5:=(HXZ.out.u_ HB3.out) 5 _ rfl;have f5:=(HXF.out.u_ HB3.out HXZ.out.lt) 5
 have HI1:=h_ (show I_ (((((((w2.alloc (.cells #[.int .i64 X2.rows,.int .i64 X2.cols,.slice qa qn qk] 28)).setCell ⟨w.heap.size+1,0,none⟩ (.int .i64 X1.rows)).setCell ⟨w.heap.size+1,1,none⟩ (.int .i64 X1.cols)).setCell ⟨w.heap.size+1,2,none⟩ (.slice pa pn pk)).setCell ⟨w.heap.size+1,3,none⟩ (.int .i64 X2.rows)).setCell ⟨w.heap.size+1,4,none⟩ (.int .i64 X2.cols)).setCell ⟨w.heap.size+1,5,none⟩ (.slice qa qn qk)) (.slice pa pn pk) X1.cells from I_.aboveF HPP.out HF1.out ((v_ (v_ (v_ (v_ (v_ (v_ (abv_alloc (Above.refl _ _)) (by have:=HVS.out;omega)) (by have:=HVS.out;omega)) (by have:=HVS.out;omega)) (by have:=HVS.out;omega)) (by have:=HVS.out;omega)) (by have:=HVS.out;omega))))
 have HI2:=h_ (show I_ (((((((w2.alloc (.cells #[.int .i64 X2.rows,.int .i64 X2.cols,.slice qa qn qk] 28)).setCell ⟨w.heap.size+1,0,none⟩ (.int .i64 X1.rows)).setCell ⟨w.heap.size+1,1,none⟩ (.int .i64 X1.cols)).setCell ⟨w.heap.size+1,2,none⟩ (.slice pa pn pk)).setCell ⟨w.heap.size+1,3,none⟩ (.int .i64 X2.rows)).setCell ⟨w.heap.size+1,4,none⟩ (.int .i64 X2.cols)).setCell ⟨w.heap.size+1,5,none⟩ (.slice qa qn qk)) (.slice qa qn qk) X2.cells from I_.aboveF HQ.out HF2.out ((v_ (v_ (v_ (v_ (v_ (v_ (abv_alloc (Above.refl _ _)) (by have:=HVS.out;omega)) (by have:=HVS.out;omega)) (by have:=HVS.out;omega)) (by have:=HVS.out;omega)) (by have:=HVS.out;omega)) (by have:=HVS.out;omega))))
 have HBE:=h_ (show Below w.heap.size w (((((((w2.alloc (.cells #[.int .i64 X2.rows,.int .i64 X2.cols,.slice qa qn qk] 28)).setCell ⟨w.heap.size+1,0,none⟩ (.int .i64 X1.rows)).setCell ⟨w.heap.size+1,1,none⟩ (.int .i64 X1.cols)).setCell ⟨w.heap.size+1,2,none⟩ (.slice pa pn pk)).setCell ⟨w.heap.size+1,3,none⟩ (.int .i64 X2.rows)).setCell ⟨w.heap.size+1,4,none⟩ (.int .i64 X2.cols)).setCell ⟨w.heap.size+1,5,none⟩ (.slice qa qn qk)) from t_ (t_ (t_ (t_ (t_ (t_ (b_ HWV.out HB3.out) (by omega)) (by omega)) (by omega)) (by omega)) (by omega)) (by omega))
 go_wp2
 exact bodyPost_ret (v:=.tuple #[.agg #[.int .i64 X1.rows,.int .i64 X1.cols,.slice pa pn pk,.int .i64 X2.rows,.int .i64 X2.cols,.slice qa qn qk],.nilIface]) (by simp[results,Try.results57,go_sem,t0,t1,t2,t3,t4,t5]) rfl ⟨pa,pn,pk,qa,qn,qk,rfl,HI1.out,HI2.out,f_ HF1.out HWV.out.size,f_ HF2.out HWV.out.size,HBE.out⟩
set_option maxHeartbeats 16000000 in
set_option maxRecDepth 100000 in
theorem bsplit_any(b:Mx×Mx)(parts:Int)(sa:Option Addr)(sn sk:Nat)(ta:Option Addr)(tn tk:Nat)(w:World)(hs:I_ w (.slice sa sn sk) b.1.cells)(ht:I_ w (.slice ta tn tk) b.2.cells):
  Calls Try.prog 37 #[.agg #[.int .i64 b.1.rows,.int .i64 b.1.cols,.slice sa sn sk,.int .i64 b.2.rows,.int .i64 b.2.cols,.slice ta tn tk],.int .i64 parts] w fun e w'=>∃u,e=.returned (.tuple #[u,errV (splE b parts)])∧IsBts w' u (splX b parts)∧Below w.heap.size w w':=by
 obtain ⟨V,hV⟩:=gM (w.alloc (.cells #[.int .i64 b.1.rows,.int .i64 b.1.cols,.slice sa sn sk,.int .i64 b.2.rows,.int .i64 b.2.cols,.slice ta tn tk] 42))
 have HV:=h_ hV
 have HWV:Hid (Below w.heap.size w V):=by rw[hV];exact h_ (o_ _ _)
 have HBX:Hid (Box V w.heap.size [.int .i64 b.1.rows,.int .i64 b.1.cols,.slice sa sn sk,.int .i64 b.2.rows,.int .i64 b.2.cols,.slice ta tn tk]):=by rw[hV];exact h_ (Box.new w _ 42 rfl)
 obtain ⟨E,hE⟩:=gN (splE b parts)
 obtain ⟨X,hX⟩:=gN (splX b parts)
 have HE:=h_ (show (if batE b≠0 then batE b else szE b.1.rows parts)=E by rw[←hE];rfl)
 have HX:=h_ (show (if E=0 then (List.range parts.toNat).map (partX b parts.toNat b.1.rows.toNat) else [])=X by rw[←hX,←hE];rfl)
 rw[hE,hX]
 have HI:=h_ (And.intro hs ht)
 have HF:=h_ (bcheck_any b sa sn sk ta tn tk V (hs.u_ HWV.out) (ht.u_ HWV.out))
 obtain ⟨g1,hg1⟩:=gN (batE b)
 rw[hg1]at HF HE
 have HG1:=h_ hg1
 have d0:=HBX.out 0 _ rfl;have d1:=HBX.out 1 _ rfl;have d2:=HBX.out 2 _ rfl;have d3:=HBX.out 3 _ rfl;have d4:=HBX.out 4 _ rfl;have d5:=HBX.out 5 _ rfl
 rw[HV.out]at d0 d1 d2 d3 d4 d5
 clear hV hE hX hs ht hg1
 by_cases c1:g1=0
 case neg=>
  obtain rfl:g1=E:=by rw[←HE.out,if_pos c1]
  obtain rfl:X=[]:=by rw[←HX.out,if_neg c1]
  rw[n_ c1]at HF ⊢
  clear c1
  go_enter Try.func37,Try.ntmps37
  go_wp2_with fail
  rw[←HV.out]
  refine HF.out.mono ?_
  rintro e w1 ⟨rfl,hb1⟩
  have HW1:=h_ (b_ HWV.out hb1)
  clear hb1 d0 d1 d2 d3 d4 d5 HF
  go_wp2
  exact bodyPost_ret (v:=.tuple #[.slice none 0 0,.iface 65 (.int .i64 g1)]) (by simp[results,Try.results37,go_sem]) rfl ⟨_,rfl,isBts_nil _,HW1.out⟩
 case pos=>
 subst c1
 rw[e_ rfl]at HF
 have HE2:=h_ (show szE b.1.rows parts=E by rw[←HE.out,if_neg (by simp)])
 have HZ:=h_ (fun W=>bsizes_any b.1.rows parts W)
 rw[HE2.out]at HZ
 by_cases c2:E=0
 case neg=>
  obtain rfl:X=[]:=by rw[←HX.out,if_neg c2]
  rw[n_ c2]at HZ ⊢
  clear c2
  go_enter Try.func37,Try.ntmps37
  go_wp2_with fail
  rw[←HV.out]
  refine HF.out.mono ?_
  rintro e w1 ⟨rfl,hb1⟩
  have HB1:=h_ hb1
  have HW1:=h_ (b_ HWV.out hb1)
  clear hb1 d0 d1 d2 d3 d4 d5 HF
  have d0:=(HBX.out.u_ HB1.out) 0 _ rfl
  go_wp2_with fail
  refine (HZ.out w1).mono ?_
  rintro e W2 ⟨z,rfl,hz,hb2,_⟩
  have HW2:=h_ (b_ HW1.out hb2)
  obtain ⟨za,zn,zk,rfl⟩:=hz.shape
  clear hz hb2 d0 HZ
  go_wp2
  exact bodyPost_ret (v:=.tuple #[.slice none 0 0,.iface 65 (.int .i64 E)]) (by simp[results,Try.results37,go_sem]) rfl ⟨_,rfl,isBts_nil _,HW2.out⟩
 case pos=>
 subst c2
 rw[e_ rfl]at HZ
 rw[e_ rfl]
 obtain ⟨h1,h2,h3,h4⟩:=bat_good HG1.out
 have hsz:¬(b.1.rows<1∨24<b.1.rows∨parts<1∨12<parts)∧¬b.1.rows<parts:=by
  have h:=HE2.out
  unfold szE at h
  by_cases a1:b.1.rows<1∨24<b.1.rows∨parts<1∨12<parts
  ·rw[if_pos a1]at h;cases h
  ·rw[if_neg a1]at h
   by_cases a2:b.1.rows<parts
   ·rw[if_pos a2]at h;cases h
   ·exact ⟨a1,a2⟩
 obtain ⟨P,hP⟩:∃P:Nat,parts=(P:Int):=⟨parts.toNat,by omega⟩
 obtain ⟨Q,hQ⟩:∃Q:Nat,b.1.rows=(Q:Int):=⟨b.1.rows.toNat,by omega⟩
 have HXE:Hid (X=(List.range P).map (partX b P Q)):=h_ (by rw[←HX.out,if_pos rfl,hP,hQ];simp)
 have HPQ:=h_ (show parts=(P:Int)∧b.1.rows=(Q:Int)∧b.2.rows=(Q:Int)∧0<P∧P≤12∧Q≤24 from ⟨hP,hQ,by omega,by omega,by omega,by omega⟩)
 have HFF:=h_ (And.intro h1 h2)
 have HZX:Hid (szX b.1.rows parts=tab P (fun j=>cnt P j Q)):=h_ (by unfold szX;rw[if_pos HE2.out,hP,hQ];simp)
 have hmk:=run_mkL 42 85 6 80 _ Try.underlying85 infoBt (P:Int) P rfl (by omega) (by omega)
 obtain ⟨e0,ei,hz0,hz1,hz2⟩:=info_parts infoBt
 have HEI:=h_ (And.intro ei (And.intro hz0 (And.intro hz1 hz2)))
 have hP12:P≤12:=by omega
 clear h1 h2 h3 h4 hsz hP hQ ei hz0 hz1 hz2
 go_enter Try.func37,Try.ntmps37
 go_wp2_with fail
 rw[←HV.out]
 refine HF.out.mono ?_
 rintro e w1 ⟨rfl,hb1⟩
 have HB1:=h_ hb1
 have HW1:=h_ (b_ HWV.out hb1)
 clear hb1 d0 d1 d2 d3 d4 d5 HF
 have d0:=(HBX.out.u_ HB1.out) 0 _ rfl
 go_wp2_with fail
 refine (HZ.out w1).mono ?_
 rintro e W2 ⟨z,rfl,hz,hb2,_⟩
 have HZI:=h_ hz
 have HB2:=h_ (b_ HB1.out hb2)
 have HW2:=h_ (b_ HW1.out hb2)
 clear hz hb2 d0 HZ
 obtain ⟨za,zn,zk,rfl⟩:=HZI.out.shape
 have hzn:zn=P:=by
  obtain ⟨_,_,e1,_⟩:=HZI.out
  have e2:=(Value.slice.inj e1).2.1
  rw[HZX.out,tab_len]at e2;exact e2
 subst hzn
 go_wp2
 clear hmk
 go_loopw [9,10,36] (fun u f c wr=>∃(i:Nat) (xi xf:Int),i≤zn∧xi=(i:Int)∧c=.int .i64 xi∧f=.int .i64 xf∧xf=begAt zn Q i∧Owns W2.heap.size W2.heap.size wr 42 6 u i (((List.range i).map (partX b zn Q)).flatMap gdS)∧Below W2.heap.size W2 wr) (fun _ _ c _=>zn - (intOf c).toNat)
 case atStart=>exact ⟨0,0,0,Nat.zero_le _,rfl,rfl,rfl,rfl,Owns.room (rawCells (.agg #[.int .i64 0,.int .i64 0,.slice none 0 0,.int .i64 0,.int .i64 0,.slice none 0 0]) (zn*6)) (Nat.le_refl _) (by unfold maxLen;omega) (rawCells_size _ _),o_ _ _⟩
 case round=>
  obtain ⟨i,xi,xf,hi,hxi,rfl,rfl,hxf,how,hb⟩:=hrel
  have HXI:=h_ hxi
  have HXF:=h_ hxf
  have HO:=h_ how
  have HB:=h_ hb
  have hxi0:0≤xi:=by omega
  have hxi1:xi≤12:=by omega
  have hf0:0≤xf:=by have:=begAt_nonneg zn Q i;omega
  have hf1:xf≤24:=by have:=begAt_le zn i Q;have:=HPQ.out;omega
  clear hxi hxf how hb
  by_cases hlt:xi<(zn:Int)
  ·have hin:i<zn:=by have:=HXI.out;omega
   have hxn:xi.toNat=i:=by have:=HXI.out;omega
   obtain ⟨si,hsi⟩:=gN (cnt zn i Q)
   have hs0:0≤si:=by have:=cnt_nonneg zn i Q;omega
   have hs1:si≤24:=by have:=cnt_le zn i Q;have:=HPQ.out;omega
   have hnx:begAt zn Q (i+1)=xf+si:=by show begAt zn Q i+cnt zn i Q=_;rw[hsi,←HXF.out]
   have hle:xf+si≤(Q:Int):=by rw[←hnx];exact begAt_le zn (i+1) Q
   have HNX:=h_ hnx
   obtain ⟨zo',zcap,hz1,_,_,h4z⟩:=HZI.out
   have hzi:(szX b.1.rows parts)[i]?=some si:=by rw[HZX.out,tab_at hin,hsi]
   obtain ⟨zb,zo,rz,hclz⟩:=h4z.resolve_left (fun e=>by rw[e]at hzi;simp at hzi)
   replace hz1:=(Value.slice.inj hz1).1
   rw[rz]at hz1
   subst hz1
   have m0:=c_ HB.out (show W2.cell? ⟨zb,zo+xi.toNat,none⟩=some (.int .i64 si) by rw[hxn];exact hclz _ _ hzi)
   have rE1:rowsE b.1 xf (xf+si)=0:=by unfold rowsE;rw[if_neg (by simp[HFF.out.1]),if_neg (by have:=HPQ.out.2.1;omega)]
   have rE2:rowsE b.2 xf (xf+si)=0:=by unfold rowsE;rw[if_neg (by simp[HFF.out.2]),if_neg (by have:=HPQ.out.2.2.1;omega)]
   obtain ⟨X1,ex1⟩:=gN (rowsX b.1 xf (xf+si))
   obtain ⟨X2,ex2⟩:=gN (rowsX b.2 xf (xf+si))
   have HPX:=h_ (show partX b zn Q i=(X1,X2) by unfold partX;rw[hnx,←HXF.out,ex1,ex2])
   have HT:=h_ (browsof_any b X1 X2 xf (xf+si) sa sn sk ta tn tk wr (HI.out.1.u_ (b_ HW2.out HB.out)) (HI.out.2.u_ (b_ HW2.out HB.out)) ex1 ex2 rE1 rE2)
   have HBR:=h_ (HBX.out.u_ (b_ HB2.out HB.out))
   have d0:=HBR.out 0 _ rfl;have d1:=HBR.out 1 _ rfl;have d2:=HBR.out 2 _ rfl;have d3:=HBR.out 3 _ rfl;have d4:=HBR.out 4 _ rfl;have d5:=HBR.out 5 _ rfl
   clear hclz h4z rz hzi rE1 rE2 ex1 ex2 hsi hnx hxn
   go_wp2_with fail
   refine HT.out.mono ?_
   rintro e wa ⟨pa,pn,pk,qa,qn,qk,rfl,hp,hq,hf1,hf2,hba⟩
   have HDA:=h_ (show Below wr.heap.size wr (wa.alloc (.cells #[.int .i64 X1.rows,.int .i64 X1.cols,.slice pa pn pk,.int .i64 X2.rows,.int .i64 X2.cols,.slice qa qn qk] 42)) from a_ hba)
   have HBA:=h_ (b_ HB.out HDA.out)
   have HGL:=h_ (show ∀x,(fun b=>u9.ownBlock=some b∨(W2.heap.size≤b∧b<W2.heap.size)) x→x<wr.heap.size from fun x hx=>by
    rcases hx with hx|hx
    ·exact (HO.out.lt x hx).2
    ·omega)
   have HPR:=h_ (And.intro (x_ hp hf1 HGL.out) (x_ hq hf2 HGL.out))
   have HOA:=h_ (HO.out.u_ (a_ (o:=(.cells #[.int .i64 X1.rows,.int .i64 X1.cols,.slice pa pn pk,.int .i64 X2.rows,.int .i64 X2.cols,.slice qa qn qk] 42)) HDA.out))
   have HEN:=h_ (show Enc ((wa.alloc (.cells #[.int .i64 X1.rows,.int .i64 X1.cols,.slice pa pn pk,.int .i64 X2.rows,.int .i64 X2.cols,.slice qa qn qk] 42)).alloc (.cells #[.int .i64 X1.rows,.int .i64 X1.cols,.slice pa pn pk,.int .i64 X2.rows,.int .i64 X2.cols,.slice qa qn qk] 42)) (fun b=>u9.ownBlock=some b∨(W2.heap.size≤b∧b<W2.heap.size)) (gdS (X1,X2)) [.int .i64 X1.rows,.int .i64 X1.cols,.slice pa pn pk,.int .i64 X2.rows,.int .i64 X2.cols,.slice qa qn qk] from enc_gd (d:=(X1,X2)) ((HPR.out.1.u_ (o_ _ _)).u_ (o_ _ _)) ((HPR.out.2.u_ (o_ _ _)).u_ (o_ _ _)))
   have HNB:=h_ (show Box ((wa.alloc (.cells #[.int .i64 X1.rows,.int .i64 X1.cols,.slice pa pn pk,.int .i64 X2.rows,.int .i64 X2.cols,.slice qa qn qk] 42)).alloc (.cells #[.int .i64 X1.rows,.int .i64 X1.cols,.slice pa pn pk,.int .i64 X2.rows,.int .i64 X2.cols,.slice qa qn qk] 42)) (wa.heap.size+1) [.int .i64 X1.rows,.int .i64 X1.cols,.slice pa pn pk,.int .i64 X2.rows,.int .i64 X2.cols,.slice qa qn qk] from Box.new _ _ _ (World.size_alloc _ _))
   have HBS:=h_ (show W2.heap.size≤((wa.alloc (.cells #[.int .i64 X1.rows,.int .i64 X1.cols,.slice pa pn pk,.int .i64 X2.rows,.int .i64 X2.cols,.slice qa qn qk] 42)).alloc (.cells #[.int .i64 X1.rows,.int .i64 X1.cols,.slice pa pn pk,.int .i64 X2.rows,.int .i64 X2.cols,.slice qa qn qk] 42)).heap.size from Nat.le_trans HBA.out.size (o_ (wa.alloc (.cells #[.int .i64 X1.rows,.int .i64 X1.cols,.slice pa pn pk,.int .i64 X2.rows,.int .i64 X2.cols,.slice qa qn qk] 42)) (.cells #[.int .i64 X1.rows,.int .i64 X1.cols,.slice pa pn pk,.int .i64 X2.rows,.int .i64 X2.cols,.slice qa qn qk] 42)).size)
   clear hp hq hf1 hf2 hba d0 d1 d2 d3 d4 d5 HT HPR m0
   go_wp2_with (at_builtin;refine wpList_append_owns rfl _ _ 85 rfl W2.heap.size 42 e0 (.agg #[.int .i64 0,.int .i64 0,.slice none 0 0,.int .i64 0,.int .i64 0,.slice none 0 0]) 6 80 Try.underlying85 HEI.out.1 HEI.out.2.1 HEI.out.2.2.1 HEI.out.2.2.2 rfl (by decide) W2.heap.size _ _ _ rfl HOA.out ⟨wa.heap.size+1,0,none⟩ 1 1 [.int .i64 X1.rows,.int .i64 X1.cols,.slice pa pn pk,.int .i64 X2.rows,.int .i64 X2.cols,.slice qa qn qk] rfl rfl (fun q u hq=>by rw[addr_add];exact HNB.out q u hq) (gdS (X1,X2)) HEN.out ?d3 ?d4 HBS.out ?_)
   case d3=>unfold maxLen;omega
   case d4=>omega
   intro v9 w9 hown hgrow hwh
   have HB9:=h_ (show Below W2.heap.size W2 w9 from (a_ (o:=(.cells #[.int .i64 X1.rows,.int .i64 X1.cols,.slice pa pn pk,.int .i64 X2.rows,.int .i64 X2.cols,.slice qa qn qk] 42)) HBA.out).grown hgrow HBS.out (fun k hk=>(HO.out.lt k hk).1))
   rw[flat_snoc,←HPX.out,range_map_snoc]at hown
   have HOW:=h_ hown
   clear hown hgrow hwh
   go_wp2
   go_roundw
   case rel=>exact ⟨i+1,_,_,by omega,by have:=HXI.out;omega,rfl,rfl,HNX.out.symm,HOW.out,HB9.out⟩
   case measure=>have:=HXI.out;simp[intOf];omega
  ·have hin:i=zn:=by have:=HXI.out;omega
   have HM:=h_ (show IsBts wr u9 X by
    rw[HXE.out]
    show Reads _ _ ((List.range zn).map (partX b zn Q)).length _
    rw[List.length_map,List.length_range]
    have h:=HO.out.reads
    rw[hin]at h;exact h)
   clear hin
   go_wp2
   exact bodyPost_ret (v:=.tuple #[u9,.nilIface]) (by simp[results,Try.results37,go_sem]) rfl ⟨_,rfl,HM.out,b_ HW2.out HB.out⟩
end Go.Proofs.Ytniloklglpchfaf
