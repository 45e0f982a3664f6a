/- What state of package keep's reader does: a state is read. -/
import Derived.Test.YtaajlggpjholeajDoorKpX2
import Derived.Deep.RegionHeld3
namespace Go.Proofs.YtaajlggpjholeajDoor
open Go.RowKit
def KsEnd (w w':World) (B:Nat) (v:Value) (l:List Int) (e:Ending):Prop:=∃o t n L D st,e=.returned (.agg #[o,t,.int .i64 n])∧(∃base,w.heap.size≤base∧LstX base w' o t L.length D.length L D)∧KRd w' B v l st∧w.grownBy w' (some B)∧match rdF l with
 |none=>st=none
 |some (n',xs)=>st≠none∧n=n'∧L=xs.map (·.1)∧D=xs.map (·.2)
theorem KsEnd.of{w w':World}{B:Nat}{v:Value}{l:List Int}{o t:Value}{n:Int}{xs:List (Ly×(Mx×Mx))}{st:Option (List Int)}{base i:Nat}(ho:LstX base w' o t i i (xs.map (·.1)) (xs.map (·.2)))(hx:xs.length=i)(hb:w.heap.size≤base)(hk:KRd w' B v l st)(hg:w.grownBy w' (some B))(h:match rdF l with
  |none=>st=none
  |some (n',ys)=>st≠none∧n=n'∧xs=ys):KsEnd w w' B v l (.returned (.agg #[o,t,.int .i64 n])):=by
 refine ⟨o,t,n,xs.map (·.1),xs.map (·.2),st,rfl,⟨base,hb,by rw[List.length_map,List.length_map,hx];exact ho⟩,hk,hg,?_⟩
 cases hr:rdF l with
 |none=>rw[hr]at h;exact h
 |some p=>
  obtain ⟨n',ys⟩:=p
  rw[hr]at h
  obtain ⟨h1,h2,h3⟩:=h
  exact ⟨h1,h2,by rw[h3],by rw[h3]⟩
set_option maxHeartbeats 32000000 in
set_option maxRecDepth 100000 in
theorem kstate_any(v:Value)(l:List Int)(B:Nat)(w0 w:World)(hv:IsBys w0 v l)(h0:Below w0.heap.size w0 w)(hwB:w0.heap.size≤B)(h:WBk w B #[v,.int .i64 0,.nilIface] 63):Calls Tryd.prog 24 #[.pointer (some ⟨B,0,none⟩)] w (fun e w'=>KsEnd w w' B v l e):=by
 have HV:=h_ hv
 have H0:=h_ h0
 have HWB:=h_ hwB
 have HBL:=h_ h.lt
 obtain ⟨W0,hW0⟩:=gM (w.alloc (.cells #[.slice none 0 0,.slice none 0 0,.int .i64 0] 26))
 have HW0:=h_ hW0
 have HG0:=h_ (show w.grownBy W0 (some B) by rw[hW0];exact World.grownBy_alloc _ _ _)
 have HR0:=h_ (show WBk W0 w.heap.size #[.slice none 0 0,.slice none 0 0,.int .i64 0] 26 by rw[hW0];exact WBk.new _ _ _)
 have HQ:=h_ (show ∀k:Nat,some B=some k→w.heap.size≤k∨k=B from fun k e=>.inr (Option.some.inj e).symm)
 have HL0:=h_ (show Below w0.heap.size w0 W0 by rw[hW0];exact bel_on h0 (o_ _ _))
 have HHD:=h_ (khead_any v l B w0 W0 hv HL0.out (by rw[hW0];exact h.kept (o_ _ _)))
 obtain ⟨s0,hs0⟩:=gN (hdS l)
 rw[hs0]at HHD
 obtain ⟨n,hn⟩:=gN ((nxN s0).1)
 obtain ⟨s1,hs1⟩:=gN ((nxN s0).2)
 obtain ⟨k,hk⟩:=gN ((nxN s1).1)
 obtain ⟨s2,hs2⟩:=gN ((nxN s1).2)
 obtain ⟨s3,hs3⟩:=gN (dmS (decide (k≤12)) s2)
 have HE:=h_ (show rdS l=match stE3 k.toNat s3 with|none=>none|some (xs,t)=>some ((n,xs),t) by
  have h:=rdS_steps (l:=l) (s1:=s1) (s2:=s2) (s3:=s3) (by rw[hs0,hs1]) hs2.symm (by rw[hk];exact hs3.symm)
  rw[hs0,hn,hk]at h
  exact h)
 have HK12:=h_ (show s3=none∨k≤12 by
  by_cases c:k≤12
  ·exact .inr c
  ·refine .inl ?_
   rw[←hs3,decide_eq_false c]
   rfl)
 have HN1:=h_ (And.intro hn hs1)
 have HN2:=h_ (And.intro hk hs2)
 have HS3:=h_ hs3
 have HNE:=h_ (show B≠w.heap.size from Nat.ne_of_lt h.lt)
 clear hv h0 hwB h hW0 hs0 hn hs1 hk hs2 hs3
 go_enter Tryd.func24,Tryd.ntmps24
 go_wp2_with fail
 rw[←HW0.out]
 refine HHD.out.mono ?_
 rintro e w1 ⟨rfl,hk,hg⟩
 have HK1:=h_ hk
 have HG1:=h_ (grw_trans HG0.out hg HQ.out)
 have HL1:=h_ (show Below w0.heap.size w0 w1 from HL0.out.grown hg HL0.out.size (fun k e=>by rw[←Option.some.inj e];exact HWB.out))
 have HR1:=h_ (show WBk w1 w.heap.size #[.slice none 0 0,.slice none 0 0,.int .i64 0] 26 from (hg.block _ HR0.out.lt (fun e=>HNE.out (Option.some.inj e).symm)).trans HR0.out)
 have HC1:=h_ (knumber_any v l B s0 w0 w1 HV.out HL1.out hk)
 rw[HN1.out.1,HN1.out.2]at HC1
 clear hk hg
 go_wp2_with fail
 refine HC1.out.mono ?_
 rintro e w2 ⟨rfl,hk,hg⟩
 obtain ⟨V2,hV2⟩:=gM (w2.alloc (.cells #[.slice none 0 0,.slice none 0 0,.int .i64 n] 26))
 have HV2:=h_ hV2
 have hb2:Below w2.heap.size w2 V2:=by rw[hV2];exact o_ _ _
 have HK2:=h_ (hk.kept hb2)
 have HG2:=h_ (grw_bel (grw_trans HG1.out hg HQ.out) hb2 (grw_trans HG1.out hg HQ.out).size)
 have HL2:=h_ (show Below w0.heap.size w0 V2 from bel_on (HL1.out.grown hg HL1.out.size (fun k e=>by rw[←Option.some.inj e];exact HWB.out)) hb2)
 have HR2:=h_ (show WBk V2 w.heap.size #[.slice none 0 0,.slice none 0 0,.int .i64 0] 26 from WBk.kept ((hg.block _ HR1.out.lt (fun e=>HNE.out (Option.some.inj e).symm)).trans HR1.out) hb2)
 have HS2:=h_ (show WBk V2 w2.heap.size #[.slice none 0 0,.slice none 0 0,.int .i64 n] 26 by rw[hV2];exact WBk.new _ _ _)
 have HRS:=h_ (show w.heap.size≠w2.heap.size∧B≠w2.heap.size by
  have h1:=HR1.out.lt
  have h2:=hg.size
  have h3:=hk.lt
  omega)
 have HSW1:=h_ hg.size
 have HSZ2:=h_ (show w.heap.size<w2.heap.size from Nat.lt_of_lt_of_le HR1.out.lt hg.size)
 have HC2:=h_ (knumber_any v l B s1 w0 V2 HV.out HL2.out HK2.out)
 rw[HN2.out.1,HN2.out.2]at HC2
 clear hk hg hb2 hV2
 go_wp2_with fail
 rw[←HV2.out]
 refine HC2.out.mono ?_
 rintro e w3 ⟨rfl,hk,hg⟩
 have HC3:=h_ (kdemand_any v l B (decide (k≤12)) s2 w3 hk)
 rw[HS3.out]at HC3
 have HG3:=h_ (grw_trans HG2.out hg HQ.out)
 have HL3:=h_ (show Below w0.heap.size w0 w3 from HL2.out.grown hg HL2.out.size (fun k e=>by rw[←Option.some.inj e];exact HWB.out))
 have HR3:=h_ (show WBk w3 w.heap.size #[.slice none 0 0,.slice none 0 0,.int .i64 0] 26 from (hg.block _ HR2.out.lt (fun e=>HNE.out (Option.some.inj e).symm)).trans HR2.out)
 have HS3b:=h_ (show WBk w3 w2.heap.size #[.slice none 0 0,.slice none 0 0,.int .i64 n] 26 from (hg.block _ HS2.out.lt (fun e=>HRS.out.2 (Option.some.inj e).symm)).trans HS2.out)
 clear hk hg
 go_wp2_with fail
 refine HC3.out.mono ?_
 rintro e w4 ⟨rfl,hk,hg⟩
 have HK4:=h_ hk
 have HG4:=h_ (grw_trans HG3.out hg HQ.out)
 have HL4:=h_ (show Below w0.heap.size w0 w4 from HL3.out.grown hg HL3.out.size (fun k e=>by rw[←Option.some.inj e];exact HWB.out))
 have HR4:=h_ (show WBk w4 w.heap.size #[.slice none 0 0,.slice none 0 0,.int .i64 0] 26 from (hg.block _ HR3.out.lt (fun e=>HNE.out (Option.some.inj e).symm)).trans HR3.out)
 have HS4:=h_ (show WBk w4 w2.heap.size #[.slice none 0 0,.slice none 0 0,.int .i64 n] 26 from (hg.block _ HS3b.out.lt (fun e=>HRS.out.2 (Option.some.inj e).symm)).trans HS3b.out)
 obtain ⟨base,hbase⟩:=gM (w2.heap.size+1)
 have HBS:=h_ (show B<base∧w.heap.size<base∧w2.heap.size<base∧base≤w4.heap.size by
  have h1:=HR1.out.lt
  have h2:=HS4.out.lt
  have h3:=HK1.out.lt
  have h4:=HG2.out.size
  have h5:=HSW1.out
  omega)
 have HINV:=h_ (show KInv (stE3 k.toNat s3) k.toNat 0 [] s3 from KInv.first _ _)
 obtain ⟨E,hE⟩:=gN (stE3 k.toNat s3)
 rw[hE]at HE HINV
 clear hk hg hE hbase
 go_wp2
 go_loopw [5] (fun q wr=>∃(i:Nat) (xi:Int) (o t:Value) (xs:List (Ly×(Mx×Mx))) (st:Option (List Int)),xi=(i:Int)∧0≤xi∧xi≤13∧q=.int .i64 xi∧xs.length=i∧KInv E k.toNat i xs st∧(st=none∨k≤12)∧LstX base wr o t i i (xs.map (·.1)) (xs.map (·.2))∧KRd wr B v l st∧WBk wr w2.heap.size #[o,t,.int .i64 n] 26∧WBk wr w.heap.size #[.slice none 0 0,.slice none 0 0,.int .i64 0] 26∧w.grownBy wr (some B)∧base≤wr.heap.size∧Below w0.heap.size w0 wr) (fun q _=>14 - (intOf q).toNat)
 case atStart=>exact ⟨0,0,_,_,[],s3,rfl,Int.le_refl _,by omega,rfl,rfl,HINV.out,HK12.out,LstX.nil _ _,HK4.out,HS4.out,HR4.out,HG4.out,HBS.out.2.2.2,HL4.out⟩
 case round=>
  obtain ⟨i,xi,o,t,xs,st,hxi,hx0,hx1,rfl,hxl,hinv,h12,hls,hkr,hsb,hrb,hgw,hbw,hlw⟩:=hrel
  have HXI:=h_ hxi
  have HXL:=h_ hxl
  have HIN:=h_ hinv
  have H12:=h_ h12
  have HLS:=h_ hls
  have HKR:=h_ hkr
  have HSB:=h_ hsb
  have HRB:=h_ hrb
  have HGW:=h_ hgw
  have HBW:=h_ hbw
  have HLW:=h_ hlw
  have HST:=h_ (kstopped_any v l B st wr hkr)
  obtain ⟨a,ha,hka,hta⟩:=hkr.cells
  have HTL:=h_ (ktail_any v l B a st w0 wr HV.out hlw ha hka hta)
  have HAT:=h_ (And.intro ha hta)
  obtain ⟨b,hb⟩:=gN (decide (l.drop a=sumsG 0 0 (l.take a)))
  have HBB:=h_ hb
  rw[hb]at HTL
  obtain ⟨oa,ok,ho,_,_⟩:=(hls.lys (by rw[List.length_map,hxl])).shape
  obtain ⟨ta,tk,ht,_,_⟩:=(hls.gds (by rw[List.length_map,hxl])).shape
  rw[List.length_map,hxl]at ho ht
  subst ho ht
  clear hxi hxl hinv h12 hls hkr hsb hrb hgw hbw hlw ha hka hta hb
  by_cases hlt:xi<k
  ·cases st with
   |none=>
    go_wp2_with (go_at_call 25;refine HST.out.mono ?_;rintro e w' ⟨rfl,hw⟩;rw[hw];clear hw w')
    go_wp2_with fail
    refine HTL.out.mono ?_
    rintro e wf ⟨rfl,hk,hg⟩
    have HKF:=h_ hk
    have HGF:=h_ (grw_trans HGW.out hg HQ.out)
    have HSF:=h_ (show WBk wf w2.heap.size #[.slice oa i ok,.slice ta i tk,.int .i64 n] 26 from (hg.block _ HSB.out.lt (fun e=>HRS.out.2 (Option.some.inj e).symm)).trans HSB.out)
    have HRF:=h_ (show WBk wf w.heap.size #[.slice none 0 0,.slice none 0 0,.int .i64 0] 26 from (hg.block _ HRB.out.lt (fun e=>HNE.out (Option.some.inj e).symm)).trans HRB.out)
    have HLF:=h_ (HLS.out.low hg HBS.out.1)
    have HFN:=h_ (kfin HE.out HIN.out (.inl rfl) HAT.out.1 HAT.out.2)
    rw[HBB.out]at HFN
    obtain ⟨e0,e1,e2⟩:=HSF.out.q3
    obtain ⟨y0,y1,y2⟩:=HRF.out.q3
    obtain ⟨z0,z1,z2⟩:=HRF.out.f3
    have HF:=h_ (bk3 HRF.out (.slice oa i ok) (.slice ta i tk) (.int .i64 n))
    obtain ⟨q0,q1,q2⟩:=HF.out.q3
    have HG5:=h_ (grw3 wf w.heap.size (.slice oa i ok) (.slice ta i tk) (.int .i64 n))
    have HKG:=h_ (((HKF.out.other HNE.out 0 (.slice oa i ok)).other HNE.out 1 (.slice ta i tk)).other HNE.out 2 (.int .i64 n))
    have HLG:=h_ (HLF.out.low HG5.out HBS.out.2.1)
    clear hk hg
    go_wp2
    refine bodyPost_ret (v:=.agg #[.slice oa i ok,.slice ta i tk,.int .i64 n]) (by simp[results,Tryd.results24,go_sem,q0,q1,q2]) rfl ?_
    exact KsEnd.of HLG.out HXL.out (Nat.le_of_lt HBS.out.2.1) HKG.out (grw_trans HGF.out HG5.out (fun k e=>.inl (by rw[←Option.some.inj e];exact Nat.le_refl _))) HFN.out
   |some rest=>
    have hk12:k≤12:=H12.out.resolve_left (by simp)
    have hik:i<k.toNat:=by have:=HXI.out;omega
    have HI1000:=h_ (show i≤1000 by omega)
    have HK12B:=h_ hk12
    have HXK:=h_ (show xi+1≤13 by omega)
    clear hk12
    obtain ⟨kd,hkd⟩:=gN ((nxN (some rest)).1)
    obtain ⟨t1,ht1⟩:=gN ((nxN (some rest)).2)
    obtain ⟨⟨r1,c1,z1⟩,hm1⟩:∃x,(nxM t1).1=x:=⟨_,rfl⟩
    obtain ⟨t2,ht2⟩:=gN ((nxM t1).2)
    obtain ⟨⟨r2,c2,z2⟩,hm2⟩:∃x,(nxM t2).1=x:=⟨_,rfl⟩
    obtain ⟨t3,ht3⟩:=gN ((nxM t2).2)
    obtain ⟨⟨r3,c3,z3⟩,hm3⟩:∃x,(nxM t3).1=x:=⟨_,rfl⟩
    obtain ⟨t4,ht4⟩:=gN ((nxM t3).2)
    obtain ⟨⟨r4,c4,z4⟩,hm4⟩:∃x,(nxM t4).1=x:=⟨_,rfl⟩
    obtain ⟨t5,ht5⟩:=gN ((nxM t4).2)
    have HNX:=h_ (HIN.out.next hik ht1.symm ht2.symm ht3.symm ht4.symm ht5.symm)
    rw[hkd,hm1,hm2,hm3,hm4]at HNX
    have HM1:=h_ (And.intro hm1 ht2)
    have HM2:=h_ (And.intro hm2 ht3)
    have HM3:=h_ (And.intro hm3 ht4)
    have HM4:=h_ (And.intro hm4 ht5)
    have HC0:=h_ (show KC w0 w B w2.heap.size base from ⟨HWB.out,HBL.out,by have:=HRS.out.1;have:=HR2.out.lt;have:=HSZ2.out;omega,HBS.out.2.2.1⟩)
    have HKM:=h_ (show KM w0 w B w2.heap.size base v l n wr.drew (.slice oa i ok) (.slice ta i tk) i i (xs.map (·.1)) (xs.map (·.2)) (some rest) from KM.drew ⟨HLS.out,HKR.out,HSB.out,HRB.out,HGW.out,HBW.out,HLW.out⟩)
    have HNUM:=h_ (knumber_any v l B (some rest) w0 wr.drew HV.out HKM.out.be HKM.out.rd)
    rw[hkd,ht1]at HNUM
    have HS0:=h_ HKM.out.cells.1
    have hs0:=HKM.out.cells.1
    clear hkd ht1 hm1 ht2 hm2 ht3 hm3 ht4 hm4 ht5 hik
    go_wp2_with (go_at_call 25;refine HST.out.mono ?_;rintro e w' ⟨rfl,hw⟩;rw[hw];clear hw w')
    go_cut [38] from 27 to 38 (fun _ wx=>∃va8 vk8,KM w0 w B w2.heap.size base v l n wx (.slice va8 (i+1) vk8) (.slice ta i tk) (i+1) i (xs.map (·.1)++[⟨kd,⟨r1,c1,z1⟩,⟨r2,c2,z2⟩⟩]) (xs.map (·.2)) t3)
    case first=>
     refine wp_region_held_drew (S:=fun _=>True) (by kernel_rfl) trivial (fun hHeld=>?_)
     refine wpAnyH_take (i := 0) (oi := { dst := some 27, op := .fieldAddr 26 (.tmp 3) 0, type := 0, pos := "reader.go:52", after := #[], guard := none }) (v := ?v8001) rfl (by kernel_rfl) (by kernel_rfl) (by kernel_rfl) (fun _ _ _ h => h) (Or.inl ⟨by rfl, ?hy8001⟩) (by assumption) ?rest8001
     case hy8001=>(intro w hSw;(try dsimp only at hSw);go_simp;(try with_reducible rfl))
     try simp only[Act.put,List.setIfInBounds_toArray,List.set_cons_zero,List.set_cons_succ]
     refine wpAnyH_take (i := 2) (oi := { dst := some 29, op := .move (.tmp 0), type := 79, pos := "reader.go:52", after := #[], guard := none }) (v := ?v8002) rfl (by kernel_rfl) (by kernel_rfl) (by kernel_rfl) (fun _ _ _ h => h) (Or.inl ⟨by rfl, ?hy8002⟩) (by assumption) ?rest8002
     case hy8002=>(intro w hSw;(try dsimp only at hSw);go_simp;(try with_reducible rfl))
     try simp only[Act.put,List.setIfInBounds_toArray,List.set_cons_zero,List.set_cons_succ]
     refine wpAnyH_take (i := 4) (oi := { dst := some 31, op := .move (.tmp 0), type := 79, pos := "reader.go:52", after := #[], guard := none }) (v := ?v8003) rfl (by kernel_rfl) (by kernel_rfl) (by kernel_rfl) (fun _ _ _ h => h) (Or.inl ⟨by rfl, ?hy8003⟩) (by assumption) ?rest8003
     case hy8003=>(intro w hSw;(try dsimp only at hSw);go_simp;(try with_reducible rfl))
     try simp only[Act.put,List.setIfInBounds_toArray,List.set_cons_zero,List.set_cons_succ]
     refine wpAnyH_take (i := 6) (oi := { dst := some 33, op := .move (.tmp 0), type := 79, pos := "reader.go:52", after := #[], guard := none }) (v := ?v8004) rfl (by kernel_rfl) (by kernel_rfl) (by kernel_rfl) (fun _ _ _ h => h) (Or.inl ⟨by rfl, ?hy8004⟩) (by assumption) ?rest8004
     case hy8004=>(intro w hSw;(try dsimp only at hSw);go_simp;(try with_reducible rfl))
     try simp only[Act.put,List.setIfInBounds_toArray,List.set_cons_zero,List.set_cons_succ]
     refine wpAnyH_ready (rs:=[1,3]) (by kernel_rfl) (by simp) ?_
     refine AllReadyH.cons (o := { dst := some 28, op := .load 22 (.tmp 27), type := 22, pos := "reader.go:52", after := #[{ on := 0, ground := .data }], guard := none }) rfl (fun K hK => ?way8005) ?more8005
     case way8005=>
      go_simp
      refine hK.out _ _ ?hS8006 (fun hHeld=>?_)
      case hS8006=>trivial
      clear hK K
      try simp only[Act.put,List.setIfInBounds_toArray,List.set_cons_zero,List.set_cons_succ]
      refine wpAnyH_ready (rs:=[3]) (by kernel_rfl) (by simp) ?_
      refine AllReadyH.cons (o := { dst := some 30, op := .call { callee := .value (.func 37), args := #[.tmp 29], argTypes := #[79] }, type := 3, pos := "reader.go:52", after := #[{ on := 2, ground := .data }], guard := none }) rfl (fun K hK => ?_) AllReadyH.nil
      go_simp
      go_at_call 37
      refine HNUM.out.mono ?_
      rintro e a1 ⟨rfl,hk,hg⟩
      have HA1:=h_ (KM.read HC0.out HKM.out hg hk)
      have hs1:=HA1.out.cells.1
      clear hk hg
      go_wp2_with fail
      refine hK.out _ _ ?hS8007 (fun hHeld=>?_)
      case hS8007=>trivial
      clear hK K
      try simp only[Act.put,List.setIfInBounds_toArray,List.set_cons_zero,List.set_cons_succ]
      refine wpAnyH_ready (rs:=[5]) (by kernel_rfl) (by simp) ?_
      refine AllReadyH.cons (o := { dst := some 32, op := .call { callee := .value (.func 39), args := #[.tmp 31], argTypes := #[79] }, type := 51, pos := "reader.go:52", after := #[{ on := 4, ground := .data }, { on := 3, ground := .chain }], guard := none }) rfl (fun K hK => ?_) AllReadyH.nil
      go_simp
      go_at_call 39
      refine (kmatrix_any v l B t1 w0 a1 HV.out HA1.out.be HA1.out.rd).mono ?_
      rintro e a2 ⟨hmx,hk,hg⟩
      rw[HM1.out.1]at hmx
      rw[HM1.out.2]at hk
      obtain ⟨p1,p2,p3,rfl,ho⟩:=hmx
      have HA2:=h_ (KM.read HC0.out HA1.out hg hk)
      have HPA:=h_ (HA1.out.ls.part HA1.out.ba ho)
      have hs2:=HA2.out.cells.1
      clear hk hg ho
      go_wp2_with fail
      refine hK.out _ _ ?hS8008 (fun hHeld=>?_)
      case hS8008=>trivial
      clear hK K
      try simp only[Act.put,List.setIfInBounds_toArray,List.set_cons_zero,List.set_cons_succ]
      refine wpAnyH_ready (rs:=[7]) (by kernel_rfl) (by simp) ?_
      refine AllReadyH.cons (o := { dst := some 34, op := .call { callee := .value (.func 39), args := #[.tmp 33], argTypes := #[79] }, type := 51, pos := "reader.go:52", after := #[{ on := 6, ground := .data }, { on := 5, ground := .chain }], guard := none }) rfl (fun K hK => ?_) AllReadyH.nil
      go_simp
      go_at_call 39
      refine (kmatrix_any v l B t2 w0 a2 HV.out HA2.out.be HA2.out.rd).mono ?_
      rintro e a3 ⟨hmx,hk,hg⟩
      rw[HM2.out.1]at hmx
      rw[HM2.out.2]at hk
      obtain ⟨q1,q2,q3,rfl,ho⟩:=hmx
      have HA3:=h_ (KM.read HC0.out HA2.out hg hk)
      have HBO:=h_ (o_ a3 (.cells #[.int .i64 kd,.int .i64 r1,.int .i64 c1,.slice p1 p2 p3,.int .i64 r2,.int .i64 c2,.slice q1 q2 q3] 53))
      have HLA:=h_ (HA3.out.ls.u_ HBO.out)
      have HCB:=h_ (WBk.new a3 #[.int .i64 kd,.int .i64 r1,.int .i64 c1,.slice p1 p2 p3,.int .i64 r2,.int .i64 c2,.slice q1 q2 q3] 53)
      have HP1:=h_ ((part_low HPA.out hg HBS.out.1).u_ HBO.out)
      have HP2:=h_ ((HA2.out.ls.part HA2.out.ba ho).u_ HBO.out)
      have HBA:=h_ (Nat.le_trans HA3.out.ba HBO.out.size)
      have hs3:=HA3.out.cells.1
      have hs4:=c_ HBO.out HA3.out.cells.1
      clear hk hg ho
      go_wp2_with fail
      refine hK.out _ _ ?hS8009 (fun hHeld=>?_)
      case hS8009=>trivial
      clear hK K
      try simp only[Act.put,List.setIfInBounds_toArray,List.set_cons_zero,List.set_cons_succ]
      refine wpAnyH_take (i := 8) (oi := { dst := some 35, op := .build 53 #[(0, .tmp 30), (1, .tmp 32), (2, .tmp 34)], type := 53, pos := "reader.go:52", after := #[{ on := 3, ground := .data }, { on := 5, ground := .data }, { on := 7, ground := .data }], guard := none }) (v := ?v8010) rfl (by kernel_rfl) (by kernel_rfl) (by kernel_rfl) (fun _ _ _ h => h) (Or.inl ⟨by rfl, ?hy8010⟩) (by assumption) ?rest8010
      case hy8010=>(intro w hSw;(try dsimp only at hSw);go_simp;(try with_reducible rfl))
      try simp only[Act.put,List.setIfInBounds_toArray,List.set_cons_zero,List.set_cons_succ]
      refine wpAnyH_ready (rs:=[9]) (by kernel_rfl) (by simp) ?_
      refine AllReadyH.cons (o := { dst := some 36, op := .buildSlice 22 1 #[(0, .tmp 35)], type := 22, pos := "reader.go:52", after := #[{ on := 8, ground := .data }], guard := none }) rfl (fun K hK => ?_) AllReadyH.nil
      go_simp
      refine hK.out _ _ ?hS8011 (fun hHeld=>?_)
      case hS8011=>trivial
      clear hK K
      try simp only[Act.put,List.setIfInBounds_toArray,List.set_cons_zero,List.set_cons_succ]
      refine wpAnyH_ready (rs:=[10]) (by kernel_rfl) (by simp) ?_
      refine AllReadyH.cons (o := { dst := some 37, op := .call { callee := .builtin .append, args := #[.tmp 28, .tmp 36], argTypes := #[22, 22] }, type := 22, pos := "reader.go:52", after := #[{ on := 1, ground := .data }, { on := 9, ground := .data }, { on := 7, ground := .chain }], guard := none }) rfl (fun K hK => ?_) AllReadyH.nil
      (try rw[if_pos (by rfl)])
      refine wp_app_ly _ _ rfl base (.slice oa i ok) (.slice ta i tk) i i (xs.map (·.1)) (xs.map (·.2)) rfl HLA.out a3.heap.size ⟨kd,⟨r1,c1,z1⟩,⟨r2,c2,z2⟩⟩ (.slice p1 p2 p3) (.slice q1 q2 q3) rfl HCB.out HP1.out HP2.out HI1000.out HBA.out ?_
      intro v8 a4 hl8 hg8
      obtain ⟨va8,vk8,hv8,_,_⟩:=(hl8.lys (by rw[List.length_append,List.length_map,HXL.out];rfl)).shape
      rw[List.length_append,List.length_map,HXL.out]at hv8
      replace hv8:v8=.slice va8 (i+1) vk8:=hv8
      subst hv8
      have HX8:=h_ (KM.put1 HC0.out HA3.out HBO.out hl8 hg8)
      have hq8:=(KM.lay HC0.out HA3.out HBO.out (fun b e=>(HA3.out.ls.1.lt b e).1) hg8).2.1
      have y0:=hq8.q3.1
      have z0:=hq8.f 0
      clear hl8 hg8 hq8
      refine hK.out _ _ ?hS8012 (fun hHeld=>?_)
      case hS8012=>trivial
      clear hK K
      try simp only[Act.put,List.setIfInBounds_toArray,List.set_cons_zero,List.set_cons_succ]
      refine wpAnyH_take (i := 11) (oi := { dst := some 38, op := .fieldAddr 26 (.tmp 3) 0, type := 0, pos := "reader.go:52", after := #[{ on := 0, ground := .phase }, { on := 1, ground := .phase }, { on := 2, ground := .phase }, { on := 3, ground := .phase }, { on := 4, ground := .phase }, { on := 5, ground := .phase }, { on := 6, ground := .phase }, { on := 7, ground := .phase }, { on := 8, ground := .phase }, { on := 9, ground := .phase }, { on := 10, ground := .phase }], guard := none }) (v := ?v8013) rfl (by kernel_rfl) (by kernel_rfl) (by kernel_rfl) (fun _ _ _ h => h) (Or.inl ⟨by rfl, ?hy8013⟩) (by assumption) ?rest8013
      case hy8013=>(intro w hSw;(try dsimp only at hSw);go_simp;(try with_reducible rfl))
      try simp only[Act.put,List.setIfInBounds_toArray,List.set_cons_zero,List.set_cons_succ]
      refine wpAnyH_ready (rs:=[12]) (by kernel_rfl) (by simp) ?_
      refine AllReadyH.cons (o := { dst := none, op := .store 22 (.tmp 38) (.tmp 37), type := 0, pos := "reader.go:52", after := #[{ on := 11, ground := .data }, { on := 10, ground := .data }, { on := 10, ground := .chain }, { on := 0, ground := .phase }, { on := 1, ground := .phase }, { on := 2, ground := .phase }, { on := 3, ground := .phase }, { on := 4, ground := .phase }, { on := 5, ground := .phase }, { on := 6, ground := .phase }, { on := 7, ground := .phase }, { on := 8, ground := .phase }, { on := 9, ground := .phase }, { on := 10, ground := .phase }], guard := none }) rfl (fun K hK => ?_) AllReadyH.nil
      go_simp
      refine hK.out _ _ ?hS8014 (fun hHeld=>?_)
      case hS8014=>trivial
      clear hK K
      try simp only[Act.put,List.setIfInBounds_toArray,List.set_cons_zero,List.set_cons_succ]
      refine wpAnyH_done (by kernel_rfl) ?_ _
      go_wp2
      go_meet
      exact ⟨va8,vk8,HX8.out⟩
     case more8005=>
      refine AllReadyH.cons (o := { dst := some 30, op := .call { callee := .value (.func 37), args := #[.tmp 29], argTypes := #[79] }, type := 3, pos := "reader.go:52", after := #[{ on := 2, ground := .data }], guard := none }) rfl (fun K hK => ?_) AllReadyH.nil
      go_simp
      go_at_call 37
      refine HNUM.out.mono ?_
      rintro e a1 ⟨rfl,hk,hg⟩
      have HA1:=h_ (KM.read HC0.out HKM.out hg hk)
      have hs1:=HA1.out.cells.1
      clear hk hg
      go_wp2_with fail
      refine hK.out _ _ ?hS8015 (fun hHeld=>?_)
      case hS8015=>trivial
      clear hK K
      try simp only[Act.put,List.setIfInBounds_toArray,List.set_cons_zero,List.set_cons_succ]
      refine wpAnyH_ready (rs:=[1,5]) (by kernel_rfl) (by simp) ?_
      refine AllReadyH.cons (o := { dst := some 28, op := .load 22 (.tmp 27), type := 22, pos := "reader.go:52", after := #[{ on := 0, ground := .data }], guard := none }) rfl (fun K hK => ?way8016) ?more8016
      case way8016=>
       go_simp
       refine hK.out _ _ ?hS8017 (fun hHeld=>?_)
       case hS8017=>trivial
       clear hK K
       try simp only[Act.put,List.setIfInBounds_toArray,List.set_cons_zero,List.set_cons_succ]
       refine wpAnyH_ready (rs:=[5]) (by kernel_rfl) (by simp) ?_
       refine AllReadyH.cons (o := { dst := some 32, op := .call { callee := .value (.func 39), args := #[.tmp 31], argTypes := #[79] }, type := 51, pos := "reader.go:52", after := #[{ on := 4, ground := .data }, { on := 3, ground := .chain }], guard := none }) rfl (fun K hK => ?_) AllReadyH.nil
       go_simp
       go_at_call 39
       refine (kmatrix_any v l B t1 w0 a1 HV.out HA1.out.be HA1.out.rd).mono ?_
       rintro e a2 ⟨hmx,hk,hg⟩
       rw[HM1.out.1]at hmx
       rw[HM1.out.2]at hk
       obtain ⟨p1,p2,p3,rfl,ho⟩:=hmx
       have HA2:=h_ (KM.read HC0.out HA1.out hg hk)
       have HPA:=h_ (HA1.out.ls.part HA1.out.ba ho)
       have hs2:=HA2.out.cells.1
       clear hk hg ho
       go_wp2_with fail
       refine hK.out _ _ ?hS8018 (fun hHeld=>?_)
       case hS8018=>trivial
       clear hK K
       try simp only[Act.put,List.setIfInBounds_toArray,List.set_cons_zero,List.set_cons_succ]
       refine wpAnyH_ready (rs:=[7]) (by kernel_rfl) (by simp) ?_
       refine AllReadyH.cons (o := { dst := some 34, op := .call { callee := .value (.func 39), args := #[.tmp 33], argTypes := #[79] }, type := 51, pos := "reader.go:52", after := #[{ on := 6, ground := .data }, { on := 5, ground := .chain }], guard := none }) rfl (fun K hK => ?_) AllReadyH.nil
       go_simp
       go_at_call 39
       refine (kmatrix_any v l B t2 w0 a2 HV.out HA2.out.be HA2.out.rd).mono ?_
       rintro e a3 ⟨hmx,hk,hg⟩
       rw[HM2.out.1]at hmx
       rw[HM2.out.2]at hk
       obtain ⟨q1,q2,q3,rfl,ho⟩:=hmx
       have HA3:=h_ (KM.read HC0.out HA2.out hg hk)
       have HBO:=h_ (o_ a3 (.cells #[.int .i64 kd,.int .i64 r1,.int .i64 c1,.slice p1 p2 p3,.int .i64 r2,.int .i64 c2,.slice q1 q2 q3] 53))
       have HLA:=h_ (HA3.out.ls.u_ HBO.out)
       have HCB:=h_ (WBk.new a3 #[.int .i64 kd,.int .i64 r1,.int .i64 c1,.slice p1 p2 p3,.int .i64 r2,.int .i64 c2,.slice q1 q2 q3] 53)
       have HP1:=h_ ((part_low HPA.out hg HBS.out.1).u_ HBO.out)
       have HP2:=h_ ((HA2.out.ls.part HA2.out.ba ho).u_ HBO.out)
       have HBA:=h_ (Nat.le_trans HA3.out.ba HBO.out.size)
       have hs3:=HA3.out.cells.1
       have hs4:=c_ HBO.out HA3.out.cells.1
       clear hk hg ho
       go_wp2_with fail
       refine hK.out _ _ ?hS8019 (fun hHeld=>?_)
       case hS8019=>trivial
       clear hK K
       try simp only[Act.put,List.setIfInBounds_toArray,List.set_cons_zero,List.set_cons_succ]
       refine wpAnyH_take (i := 8) (oi := { dst := some 35, op := .build 53 #[(0, .tmp 30), (1, .tmp 32), (2, .tmp 34)], type := 53, pos := "reader.go:52", after := #[{ on := 3, ground := .data }, { on := 5, ground := .data }, { on := 7, ground := .data }], guard := none }) (v := ?v8020) rfl (by kernel_rfl) (by kernel_rfl) (by kernel_rfl) (fun _ _ _ h => h) (Or.inl ⟨by rfl, ?hy8020⟩) (by assumption) ?rest8020
       case hy8020=>(intro w hSw;(try dsimp only at hSw);go_simp;(try with_reducible rfl))
       try simp only[Act.put,List.setIfInBounds_toArray,List.set_cons_zero,List.set_cons_succ]
       refine wpAnyH_ready (rs:=[9]) (by kernel_rfl) (by simp) ?_
       refine AllReadyH.cons (o := { dst := some 36, op := .buildSlice 22 1 #[(0, .tmp 35)], type := 22, pos := "reader.go:52", after := #[{ on := 8, ground := .data }], guard := none }) rfl (fun K hK => ?_) AllReadyH.nil
       go_simp
       refine hK.out _ _ ?hS8021 (fun hHeld=>?_)
       case hS8021=>trivial
       clear hK K
       try simp only[Act.put,List.setIfInBounds_toArray,List.set_cons_zero,List.set_cons_succ]
       refine wpAnyH_ready (rs:=[10]) (by kernel_rfl) (by simp) ?_
       refine AllReadyH.cons (o := { dst := some 37, op := .call { callee := .builtin .append, args := #[.tmp 28, .tmp 36], argTypes := #[22, 22] }, type := 22, pos := "reader.go:52", after := #[{ on := 1, ground := .data }, { on := 9, ground := .data }, { on := 7, ground := .chain }], guard := none }) rfl (fun K hK => ?_) AllReadyH.nil
       (try rw[if_pos (by rfl)])
       refine wp_app_ly _ _ rfl base (.slice oa i ok) (.slice ta i tk) i i (xs.map (·.1)) (xs.map (·.2)) rfl HLA.out a3.heap.size ⟨kd,⟨r1,c1,z1⟩,⟨r2,c2,z2⟩⟩ (.slice p1 p2 p3) (.slice q1 q2 q3) rfl HCB.out HP1.out HP2.out HI1000.out HBA.out ?_
       intro v8 a4 hl8 hg8
       obtain ⟨va8,vk8,hv8,_,_⟩:=(hl8.lys (by rw[List.length_append,List.length_map,HXL.out];rfl)).shape
       rw[List.length_append,List.length_map,HXL.out]at hv8
       replace hv8:v8=.slice va8 (i+1) vk8:=hv8
       subst hv8
       have HX8:=h_ (KM.put1 HC0.out HA3.out HBO.out hl8 hg8)
       have hq8:=(KM.lay HC0.out HA3.out HBO.out (fun b e=>(HA3.out.ls.1.lt b e).1) hg8).2.1
       have y0:=hq8.q3.1
       have z0:=hq8.f 0
       clear hl8 hg8 hq8
       refine hK.out _ _ ?hS8022 (fun hHeld=>?_)
       case hS8022=>trivial
       clear hK K
       try simp only[Act.put,List.setIfInBounds_toArray,List.set_cons_zero,List.set_cons_succ]
       refine wpAnyH_take (i := 11) (oi := { dst := some 38, op := .fieldAddr 26 (.tmp 3) 0, type := 0, pos := "reader.go:52", after := #[{ on := 0, ground := .phase }, { on := 1, ground := .phase }, { on := 2, ground := .phase }, { on := 3, ground := .phase }, { on := 4, ground := .phase }, { on := 5, ground := .phase }, { on := 6, ground := .phase }, { on := 7, ground := .phase }, { on := 8, ground := .phase }, { on := 9, ground := .phase }, { on := 10, ground := .phase }], guard := none }) (v := ?v8023) rfl (by kernel_rfl) (by kernel_rfl) (by kernel_rfl) (fun _ _ _ h => h) (Or.inl ⟨by rfl, ?hy8023⟩) (by assumption) ?rest8023
       case hy8023=>(intro w hSw;(try dsimp only at hSw);go_simp;(try with_reducible rfl))
       try simp only[Act.put,List.setIfInBounds_toArray,List.set_cons_zero,List.set_cons_succ]
       refine wpAnyH_ready (rs:=[12]) (by kernel_rfl) (by simp) ?_
       refine AllReadyH.cons (o := { dst := none, op := .store 22 (.tmp 38) (.tmp 37), type := 0, pos := "reader.go:52", after := #[{ on := 11, ground := .data }, { on := 10, ground := .data }, { on := 10, ground := .chain }, { on := 0, ground := .phase }, { on := 1, ground := .phase }, { on := 2, ground := .phase }, { on := 3, ground := .phase }, { on := 4, ground := .phase }, { on := 5, ground := .phase }, { on := 6, ground := .phase }, { on := 7, ground := .phase }, { on := 8, ground := .phase }, { on := 9, ground := .phase }, { on := 10, ground := .phase }], guard := none }) rfl (fun K hK => ?_) AllReadyH.nil
       go_simp
       refine hK.out _ _ ?hS8024 (fun hHeld=>?_)
       case hS8024=>trivial
       clear hK K
       try simp only[Act.put,List.setIfInBounds_toArray,List.set_cons_zero,List.set_cons_succ]
       refine wpAnyH_done (by kernel_rfl) ?_ _
       go_wp2
       go_meet
       exact ⟨va8,vk8,HX8.out⟩
      case more8016=>
       refine AllReadyH.cons (o := { dst := some 32, op := .call { callee := .value (.func 39), args := #[.tmp 31], argTypes := #[79] }, type := 51, pos := "reader.go:52", after := #[{ on := 4, ground := .data }, { on := 3, ground := .chain }], guard := none }) rfl (fun K hK => ?_) AllReadyH.nil
       go_simp
       go_at_call 39
       refine (kmatrix_any v l B t1 w0 a1 HV.out HA1.out.be HA1.out.rd).mono ?_
       rintro e a2 ⟨hmx,hk,hg⟩
       rw[HM1.out.1]at hmx
       rw[HM1.out.2]at hk
       obtain ⟨p1,p2,p3,rfl,ho⟩:=hmx
       have HA2:=h_ (KM.read HC0.out HA1.out hg hk)
       have HPA:=h_ (HA1.out.ls.part HA1.out.ba ho)
       have hs2:=HA2.out.cells.1
       clear hk hg ho
       go_wp2_with fail
       refine hK.out _ _ ?hS8025 (fun hHeld=>?_)
       case hS8025=>trivial
       clear hK K
       try simp only[Act.put,List.setIfInBounds_toArray,List.set_cons_zero,List.set_cons_succ]
       refine wpAnyH_ready (rs:=[1,7]) (by kernel_rfl) (by simp) ?_
       refine AllReadyH.cons (o := { dst := some 28, op := .load 22 (.tmp 27), type := 22, pos := "reader.go:52", after := #[{ on := 0, ground := .data }], guard := none }) rfl (fun K hK => ?way8026) ?more8026
       case way8026=>
        go_simp
        refine hK.out _ _ ?hS8027 (fun hHeld=>?_)
        case hS8027=>trivial
        clear hK K
        try simp only[Act.put,List.setIfInBounds_toArray,List.set_cons_zero,List.set_cons_succ]
        refine wpAnyH_ready (rs:=[7]) (by kernel_rfl) (by simp) ?_
        refine AllReadyH.cons (o := { dst := some 34, op := .call { callee := .value (.func 39), args := #[.tmp 33], argTypes := #[79] }, type := 51, pos := "reader.go:52", after := #[{ on := 6, ground := .data }, { on := 5, ground := .chain }], guard := none }) rfl (fun K hK => ?_) AllReadyH.nil
        go_simp
        go_at_call 39
        refine (kmatrix_any v l B t2 w0 a2 HV.out HA2.out.be HA2.out.rd).mono ?_
        rintro e a3 ⟨hmx,hk,hg⟩
        rw[HM2.out.1]at hmx
        rw[HM2.out.2]at hk
        obtain ⟨q1,q2,q3,rfl,ho⟩:=hmx
        have HA3:=h_ (KM.read HC0.out HA2.out hg hk)
        have HBO:=h_ (o_ a3 (.cells #[.int .i64 kd,.int .i64 r1,.int .i64 c1,.slice p1 p2 p3,.int .i64 r2,.int .i64 c2,.slice q1 q2 q3] 53))
        have HLA:=h_ (HA3.out.ls.u_ HBO.out)
        have HCB:=h_ (WBk.new a3 #[.int .i64 kd,.int .i64 r1,.int .i64 c1,.slice p1 p2 p3,.int .i64 r2,.int .i64 c2,.slice q1 q2 q3] 53)
        have HP1:=h_ ((part_low HPA.out hg HBS.out.1).u_ HBO.out)
        have HP2:=h_ ((HA2.out.ls.part HA2.out.ba ho).u_ HBO.out)
        have HBA:=h_ (Nat.le_trans HA3.out.ba HBO.out.size)
        have hs3:=HA3.out.cells.1
        have hs4:=c_ HBO.out HA3.out.cells.1
        clear hk hg ho
        go_wp2_with fail
        refine hK.out _ _ ?hS8028 (fun hHeld=>?_)
        case hS8028=>trivial
        clear hK K
        try simp only[Act.put,List.setIfInBounds_toArray,List.set_cons_zero,List.set_cons_succ]
        refine wpAnyH_take (i := 8) (oi := { dst := some 35, op := .build 53 #[(0, .tmp 30), (1, .tmp 32), (2, .tmp 34)], type := 53, pos := "reader.go:52", after := #[{ on := 3, ground := .data }, { on := 5, ground := .data }, { on := 7, ground := .data }], guard := none }) (v := ?v8029) rfl (by kernel_rfl) (by kernel_rfl) (by kernel_rfl) (fun _ _ _ h => h) (Or.inl ⟨by rfl, ?hy8029⟩) (by assumption) ?rest8029
        case hy8029=>(intro w hSw;(try dsimp only at hSw);go_simp;(try with_reducible rfl))
        try simp only[Act.put,List.setIfInBounds_toArray,List.set_cons_zero,List.set_cons_succ]
        refine wpAnyH_ready (rs:=[9]) (by kernel_rfl) (by simp) ?_
        refine AllReadyH.cons (o := { dst := some 36, op := .buildSlice 22 1 #[(0, .tmp 35)], type := 22, pos := "reader.go:52", after := #[{ on := 8, ground := .data }], guard := none }) rfl (fun K hK => ?_) AllReadyH.nil
        go_simp
        refine hK.out _ _ ?hS8030 (fun hHeld=>?_)
        case hS8030=>trivial
        clear hK K
        try simp only[Act.put,List.setIfInBounds_toArray,List.set_cons_zero,List.set_cons_succ]
        refine wpAnyH_ready (rs:=[10]) (by kernel_rfl) (by simp) ?_
        refine AllReadyH.cons (o := { dst := some 37, op := .call { callee := .builtin .append, args := #[.tmp 28, .tmp 36], argTypes := #[22, 22] }, type := 22, pos := "reader.go:52", after := #[{ on := 1, ground := .data }, { on := 9, ground := .data }, { on := 7, ground := .chain }], guard := none }) rfl (fun K hK => ?_) AllReadyH.nil
        (try rw[if_pos (by rfl)])
        refine wp_app_ly _ _ rfl base (.slice oa i ok) (.slice ta i tk) i i (xs.map (·.1)) (xs.map (·.2)) rfl HLA.out a3.heap.size ⟨kd,⟨r1,c1,z1⟩,⟨r2,c2,z2⟩⟩ (.slice p1 p2 p3) (.slice q1 q2 q3) rfl HCB.out HP1.out HP2.out HI1000.out HBA.out ?_
        intro v8 a4 hl8 hg8
        obtain ⟨va8,vk8,hv8,_,_⟩:=(hl8.lys (by rw[List.length_append,List.length_map,HXL.out];rfl)).shape
        rw[List.length_append,List.length_map,HXL.out]at hv8
        replace hv8:v8=.slice va8 (i+1) vk8:=hv8
        subst hv8
        have HX8:=h_ (KM.put1 HC0.out HA3.out HBO.out hl8 hg8)
        have hq8:=(KM.lay HC0.out HA3.out HBO.out (fun b e=>(HA3.out.ls.1.lt b e).1) hg8).2.1
        have y0:=hq8.q3.1
        have z0:=hq8.f 0
        clear hl8 hg8 hq8
        refine hK.out _ _ ?hS8031 (fun hHeld=>?_)
        case hS8031=>trivial
        clear hK K
        try simp only[Act.put,List.setIfInBounds_toArray,List.set_cons_zero,List.set_cons_succ]
        refine wpAnyH_take (i := 11) (oi := { dst := some 38, op := .fieldAddr 26 (.tmp 3) 0, type := 0, pos := "reader.go:52", after := #[{ on := 0, ground := .phase }, { on := 1, ground := .phase }, { on := 2, ground := .phase }, { on := 3, ground := .phase }, { on := 4, ground := .phase }, { on := 5, ground := .phase }, { on := 6, ground := .phase }, { on := 7, ground := .phase }, { on := 8, ground := .phase }, { on := 9, ground := .phase }, { on := 10, ground := .phase }], guard := none }) (v := ?v8032) rfl (by kernel_rfl) (by kernel_rfl) (by kernel_rfl) (fun _ _ _ h => h) (Or.inl ⟨by rfl, ?hy8032⟩) (by assumption) ?rest8032
        case hy8032=>(intro w hSw;(try dsimp only at hSw);go_simp;(try with_reducible rfl))
        try simp only[Act.put,List.setIfInBounds_toArray,List.set_cons_zero,List.set_cons_succ]
        refine wpAnyH_ready (rs:=[12]) (by kernel_rfl) (by simp) ?_
        refine AllReadyH.cons (o := { dst := none, op := .store 22 (.tmp 38) (.tmp 37), type := 0, pos := "reader.go:52", after := #[{ on := 11, ground := .data }, { on := 10, ground := .data }, { on := 10, ground := .chain }, { on := 0, ground := .phase }, { on := 1, ground := .phase }, { on := 2, ground := .phase }, { on := 3, ground := .phase }, { on := 4, ground := .phase }, { on := 5, ground := .phase }, { on := 6, ground := .phase }, { on := 7, ground := .phase }, { on := 8, ground := .phase }, { on := 9, ground := .phase }, { on := 10, ground := .phase }], guard := none }) rfl (fun K hK => ?_) AllReadyH.nil
        go_simp
        refine hK.out _ _ ?hS8033 (fun hHeld=>?_)
        case hS8033=>trivial
        clear hK K
        try simp only[Act.put,List.setIfInBounds_toArray,List.set_cons_zero,List.set_cons_succ]
        refine wpAnyH_done (by kernel_rfl) ?_ _
        go_wp2
        go_meet
        exact ⟨va8,vk8,HX8.out⟩
       case more8026=>
        refine AllReadyH.cons (o := { dst := some 34, op := .call { callee := .value (.func 39), args := #[.tmp 33], argTypes := #[79] }, type := 51, pos := "reader.go:52", after := #[{ on := 6, ground := .data }, { on := 5, ground := .chain }], guard := none }) rfl (fun K hK => ?_) AllReadyH.nil
        go_simp
        go_at_call 39
        refine (kmatrix_any v l B t2 w0 a2 HV.out HA2.out.be HA2.out.rd).mono ?_
        rintro e a3 ⟨hmx,hk,hg⟩
        rw[HM2.out.1]at hmx
        rw[HM2.out.2]at hk
        obtain ⟨q1,q2,q3,rfl,ho⟩:=hmx
        have HA3:=h_ (KM.read HC0.out HA2.out hg hk)
        have HBO:=h_ (o_ a3 (.cells #[.int .i64 kd,.int .i64 r1,.int .i64 c1,.slice p1 p2 p3,.int .i64 r2,.int .i64 c2,.slice q1 q2 q3] 53))
        have HLA:=h_ (HA3.out.ls.u_ HBO.out)
        have HCB:=h_ (WBk.new a3 #[.int .i64 kd,.int .i64 r1,.int .i64 c1,.slice p1 p2 p3,.int .i64 r2,.int .i64 c2,.slice q1 q2 q3] 53)
        have HP1:=h_ ((part_low HPA.out hg HBS.out.1).u_ HBO.out)
        have HP2:=h_ ((HA2.out.ls.part HA2.out.ba ho).u_ HBO.out)
        have HBA:=h_ (Nat.le_trans HA3.out.ba HBO.out.size)
        have hs3:=HA3.out.cells.1
        have hs4:=c_ HBO.out HA3.out.cells.1
        clear hk hg ho
        go_wp2_with fail
        refine hK.out _ _ ?hS8034 (fun hHeld=>?_)
        case hS8034=>trivial
        clear hK K
        try simp only[Act.put,List.setIfInBounds_toArray,List.set_cons_zero,List.set_cons_succ]
        refine wpAnyH_take (i := 8) (oi := { dst := some 35, op := .build 53 #[(0, .tmp 30), (1, .tmp 32), (2, .tmp 34)], type := 53, pos := "reader.go:52", after := #[{ on := 3, ground := .data }, { on := 5, ground := .data }, { on := 7, ground := .data }], guard := none }) (v := ?v8035) rfl (by kernel_rfl) (by kernel_rfl) (by kernel_rfl) (fun _ _ _ h => h) (Or.inl ⟨by rfl, ?hy8035⟩) (by assumption) ?rest8035
        case hy8035=>(intro w hSw;(try dsimp only at hSw);go_simp;(try with_reducible rfl))
        try simp only[Act.put,List.setIfInBounds_toArray,List.set_cons_zero,List.set_cons_succ]
        refine wpAnyH_ready (rs:=[1,9]) (by kernel_rfl) (by simp) ?_
        refine AllReadyH.cons (o := { dst := some 28, op := .load 22 (.tmp 27), type := 22, pos := "reader.go:52", after := #[{ on := 0, ground := .data }], guard := none }) rfl (fun K hK => ?way8036) ?more8036
        case way8036=>
         go_simp
         refine hK.out _ _ ?hS8037 (fun hHeld=>?_)
         case hS8037=>trivial
         clear hK K
         try simp only[Act.put,List.setIfInBounds_toArray,List.set_cons_zero,List.set_cons_succ]
         refine wpAnyH_ready (rs:=[9]) (by kernel_rfl) (by simp) ?_
         refine AllReadyH.cons (o := { dst := some 36, op := .buildSlice 22 1 #[(0, .tmp 35)], type := 22, pos := "reader.go:52", after := #[{ on := 8, ground := .data }], guard := none }) rfl (fun K hK => ?_) AllReadyH.nil
         go_simp
         refine hK.out _ _ ?hS8038 (fun hHeld=>?_)
         case hS8038=>trivial
         clear hK K
         try simp only[Act.put,List.setIfInBounds_toArray,List.set_cons_zero,List.set_cons_succ]
         refine wpAnyH_ready (rs:=[10]) (by kernel_rfl) (by simp) ?_
         refine AllReadyH.cons (o := { dst := some 37, op := .call { callee := .builtin .append, args := #[.tmp 28, .tmp 36], argTypes := #[22, 22] }, type := 22, pos := "reader.go:52", after := #[{ on := 1, ground := .data }, { on := 9, ground := .data }, { on := 7, ground := .chain }], guard := none }) rfl (fun K hK => ?_) AllReadyH.nil
         (try rw[if_pos (by rfl)])
         refine wp_app_ly _ _ rfl base (.slice oa i ok) (.slice ta i tk) i i (xs.map (·.1)) (xs.map (·.2)) rfl HLA.out a3.heap.size ⟨kd,⟨r1,c1,z1⟩,⟨r2,c2,z2⟩⟩ (.slice p1 p2 p3) (.slice q1 q2 q3) rfl HCB.out HP1.out HP2.out HI1000.out HBA.out ?_
         intro v8 a4 hl8 hg8
         obtain ⟨va8,vk8,hv8,_,_⟩:=(hl8.lys (by rw[List.length_append,List.length_map,HXL.out];rfl)).shape
         rw[List.length_append,List.length_map,HXL.out]at hv8
         replace hv8:v8=.slice va8 (i+1) vk8:=hv8
         subst hv8
         have HX8:=h_ (KM.put1 HC0.out HA3.out HBO.out hl8 hg8)
         have hq8:=(KM.lay HC0.out HA3.out HBO.out (fun b e=>(HA3.out.ls.1.lt b e).1) hg8).2.1
         have y0:=hq8.q3.1
         have z0:=hq8.f 0
         clear hl8 hg8 hq8
         refine hK.out _ _ ?hS8039 (fun hHeld=>?_)
         case hS8039=>trivial
         clear hK K
         try simp only[Act.put,List.setIfInBounds_toArray,List.set_cons_zero,List.set_cons_succ]
         refine wpAnyH_take (i := 11) (oi := { dst := some 38, op := .fieldAddr 26 (.tmp 3) 0, type := 0, pos := "reader.go:52", after := #[{ on := 0, ground := .phase }, { on := 1, ground := .phase }, { on := 2, ground := .phase }, { on := 3, ground := .phase }, { on := 4, ground := .phase }, { on := 5, ground := .phase }, { on := 6, ground := .phase }, { on := 7, ground := .phase }, { on := 8, ground := .phase }, { on := 9, ground := .phase }, { on := 10, ground := .phase }], guard := none }) (v := ?v8040) rfl (by kernel_rfl) (by kernel_rfl) (by kernel_rfl) (fun _ _ _ h => h) (Or.inl ⟨by rfl, ?hy8040⟩) (by assumption) ?rest8040
         case hy8040=>(intro w hSw;(try dsimp only at hSw);go_simp;(try with_reducible rfl))
         try simp only[Act.put,List.setIfInBounds_toArray,List.set_cons_zero,List.set_cons_succ]
         refine wpAnyH_ready (rs:=[12]) (by kernel_rfl) (by simp) ?_
         refine AllReadyH.cons (o := { dst := none, op := .store 22 (.tmp 38) (.tmp 37), type := 0, pos := "reader.go:52", after := #[{ on := 11, ground := .data }, { on := 10, ground := .data }, { on := 10, ground := .chain }, { on := 0, ground := .phase }, { on := 1, ground := .phase }, { on := 2, ground := .phase }, { on := 3, ground := .phase }, { on := 4, ground := .phase }, { on := 5, ground := .phase }, { on := 6, ground := .phase }, { on := 7, ground := .phase }, { on := 8, ground := .phase }, { on := 9, ground := .phase }, { on := 10, ground := .phase }], guard := none }) rfl (fun K hK => ?_) AllReadyH.nil
         go_simp
         refine hK.out _ _ ?hS8041 (fun hHeld=>?_)
         case hS8041=>trivial
         clear hK K
         try simp only[Act.put,List.setIfInBounds_toArray,List.set_cons_zero,List.set_cons_succ]
         refine wpAnyH_done (by kernel_rfl) ?_ _
         go_wp2
         go_meet
         exact ⟨va8,vk8,HX8.out⟩
        case more8036=>
         refine AllReadyH.cons (o := { dst := some 36, op := .buildSlice 22 1 #[(0, .tmp 35)], type := 22, pos := "reader.go:52", after := #[{ on := 8, ground := .data }], guard := none }) rfl (fun K hK => ?_) AllReadyH.nil
         go_simp
         refine hK.out _ _ ?hS8042 (fun hHeld=>?_)
         case hS8042=>trivial
         clear hK K
         try simp only[Act.put,List.setIfInBounds_toArray,List.set_cons_zero,List.set_cons_succ]
         refine wpAnyH_ready (rs:=[1]) (by kernel_rfl) (by simp) ?_
         refine AllReadyH.cons (o := { dst := some 28, op := .load 22 (.tmp 27), type := 22, pos := "reader.go:52", after := #[{ on := 0, ground := .data }], guard := none }) rfl (fun K hK => ?_) AllReadyH.nil
         go_simp
         refine hK.out _ _ ?hS8043 (fun hHeld=>?_)
         case hS8043=>trivial
         clear hK K
         try simp only[Act.put,List.setIfInBounds_toArray,List.set_cons_zero,List.set_cons_succ]
         refine wpAnyH_ready (rs:=[10]) (by kernel_rfl) (by simp) ?_
         refine AllReadyH.cons (o := { dst := some 37, op := .call { callee := .builtin .append, args := #[.tmp 28, .tmp 36], argTypes := #[22, 22] }, type := 22, pos := "reader.go:52", after := #[{ on := 1, ground := .data }, { on := 9, ground := .data }, { on := 7, ground := .chain }], guard := none }) rfl (fun K hK => ?_) AllReadyH.nil
         (try rw[if_pos (by rfl)])
         refine wp_app_ly _ _ rfl base (.slice oa i ok) (.slice ta i tk) i i (xs.map (·.1)) (xs.map (·.2)) rfl HLA.out a3.heap.size ⟨kd,⟨r1,c1,z1⟩,⟨r2,c2,z2⟩⟩ (.slice p1 p2 p3) (.slice q1 q2 q3) rfl HCB.out HP1.out HP2.out HI1000.out HBA.out ?_
         intro v8 a4 hl8 hg8
         obtain ⟨va8,vk8,hv8,_,_⟩:=(hl8.lys (by rw[List.length_append,List.length_map,HXL.out];rfl)).shape
         rw[List.length_append,List.length_map,HXL.out]at hv8
         replace hv8:v8=.slice va8 (i+1) vk8:=hv8
         subst hv8
         have HX8:=h_ (KM.put1 HC0.out HA3.out HBO.out hl8 hg8)
         have hq8:=(KM.lay HC0.out HA3.out HBO.out (fun b e=>(HA3.out.ls.1.lt b e).1) hg8).2.1
         have y0:=hq8.q3.1
         have z0:=hq8.f 0
         clear hl8 hg8 hq8
         refine hK.out _ _ ?hS8044 (fun hHeld=>?_)
         case hS8044=>trivial
         clear hK K
         try simp only[Act.put,List.setIfInBounds_toArray,List.set_cons_zero,List.set_cons_succ]
         refine wpAnyH_take (i := 11) (oi := { dst := some 38, op := .fieldAddr 26 (.tmp 3) 0, type := 0, pos := "reader.go:52", after := #[{ on := 0, ground := .phase }, { on := 1, ground := .phase }, { on := 2, ground := .phase }, { on := 3, ground := .phase }, { on := 4, ground := .phase }, { on := 5, ground := .phase }, { on := 6, ground := .phase }, { on := 7, ground := .phase }, { on := 8, ground := .phase }, { on := 9, ground := .phase }, { on := 10, ground := .phase }], guard := none }) (v := ?v8045) rfl (by kernel_rfl) (by kernel_rfl) (by kernel_rfl) (fun _ _ _ h => h) (Or.inl ⟨by rfl, ?hy8045⟩) (by assumption) ?rest8045
         case hy8045=>(intro w hSw;(try dsimp only at hSw);go_simp;(try with_reducible rfl))
         try simp only[Act.put,List.setIfInBounds_toArray,List.set_cons_zero,List.set_cons_succ]
         refine wpAnyH_ready (rs:=[12]) (by kernel_rfl) (by simp) ?_
         refine AllReadyH.cons (o := { dst := none, op := .store 22 (.tmp 38) (.tmp 37), type := 0, pos := "reader.go:52", after := #[{ on := 11, ground := .data }, { on := 10, ground := .data }, { on := 10, ground := .chain }, { on := 0, ground := .phase }, { on := 1, ground := .phase }, { on := 2, ground := .phase }, { on := 3, ground := .phase }, { on := 4, ground := .phase }, { on := 5, ground := .phase }, { on := 6, ground := .phase }, { on := 7, ground := .phase }, { on := 8, ground := .phase }, { on := 9, ground := .phase }, { on := 10, ground := .phase }], guard := none }) rfl (fun K hK => ?_) AllReadyH.nil
         go_simp
         refine hK.out _ _ ?hS8046 (fun hHeld=>?_)
         case hS8046=>trivial
         clear hK K
         try simp only[Act.put,List.setIfInBounds_toArray,List.set_cons_zero,List.set_cons_succ]
         refine wpAnyH_done (by kernel_rfl) ?_ _
         go_wp2
         go_meet
         exact ⟨va8,vk8,HX8.out⟩
    case rest=>
     obtain ⟨va8,vk8,hx8⟩:=hcut
     have HKN:=h_ hx8.drew
     have hg0:=hx8.cells.2.1
     clear hx8
     go_wp2
     refine wp_region_held_drew (S:=fun _=>True) (by kernel_rfl) trivial (fun hHeld=>?_)
     refine wpAnyH_take (i := 0) (oi := { dst := some 39, op := .fieldAddr 26 (.tmp 3) 1, type := 0, pos := "reader.go:53", after := #[], guard := none }) (v := ?v9001) rfl (by kernel_rfl) (by kernel_rfl) (by kernel_rfl) (fun _ _ _ h => h) (Or.inl ⟨by rfl, ?hy9001⟩) (by assumption) ?rest9001
     case hy9001=>(intro w hSw;(try dsimp only at hSw);go_simp;(try with_reducible rfl))
     try simp only[Act.put,List.setIfInBounds_toArray,List.set_cons_zero,List.set_cons_succ]
     refine wpAnyH_take (i := 2) (oi := { dst := some 41, op := .move (.tmp 0), type := 79, pos := "reader.go:53", after := #[], guard := none }) (v := ?v9002) rfl (by kernel_rfl) (by kernel_rfl) (by kernel_rfl) (fun _ _ _ h => h) (Or.inl ⟨by rfl, ?hy9002⟩) (by assumption) ?rest9002
     case hy9002=>(intro w hSw;(try dsimp only at hSw);go_simp;(try with_reducible rfl))
     try simp only[Act.put,List.setIfInBounds_toArray,List.set_cons_zero,List.set_cons_succ]
     refine wpAnyH_take (i := 4) (oi := { dst := some 43, op := .move (.tmp 0), type := 79, pos := "reader.go:53", after := #[], guard := none }) (v := ?v9003) rfl (by kernel_rfl) (by kernel_rfl) (by kernel_rfl) (fun _ _ _ h => h) (Or.inl ⟨by rfl, ?hy9003⟩) (by assumption) ?rest9003
     case hy9003=>(intro w hSw;(try dsimp only at hSw);go_simp;(try with_reducible rfl))
     try simp only[Act.put,List.setIfInBounds_toArray,List.set_cons_zero,List.set_cons_succ]
     refine wpAnyH_ready (rs:=[1,3]) (by kernel_rfl) (by simp) ?_
     refine AllReadyH.cons (o := { dst := some 40, op := .load 23 (.tmp 39), type := 23, pos := "reader.go:53", after := #[{ on := 0, ground := .data }], guard := none }) rfl (fun K hK => ?way9004) ?more9004
     case way9004=>
      go_simp
      refine hK.out _ _ ?hS9005 (fun hHeld=>?_)
      case hS9005=>trivial
      clear hK K
      try simp only[Act.put,List.setIfInBounds_toArray,List.set_cons_zero,List.set_cons_succ]
      refine wpAnyH_ready (rs:=[3]) (by kernel_rfl) (by simp) ?_
      refine AllReadyH.cons (o := { dst := some 42, op := .call { callee := .value (.func 39), args := #[.tmp 41], argTypes := #[79] }, type := 51, pos := "reader.go:53", after := #[{ on := 2, ground := .data }], guard := none }) rfl (fun K hK => ?_) AllReadyH.nil
      go_simp
      go_at_call 39
      refine (kmatrix_any v l B t3 w0 wc.drew HV.out HKN.out.be HKN.out.rd).mono ?_
      rintro e b1 ⟨hmx,hk,hg⟩
      rw[HM3.out.1]at hmx
      rw[HM3.out.2]at hk
      obtain ⟨p1,p2,p3,rfl,ho⟩:=hmx
      have HB1:=h_ (KM.read HC0.out HKN.out hg hk)
      have HPA:=h_ (HKN.out.ls.part2 HKN.out.ba ho)
      have hg1:=HB1.out.cells.2.1
      clear hk hg ho
      go_wp2_with fail
      refine hK.out _ _ ?hS9006 (fun hHeld=>?_)
      case hS9006=>trivial
      clear hK K
      try simp only[Act.put,List.setIfInBounds_toArray,List.set_cons_zero,List.set_cons_succ]
      refine wpAnyH_ready (rs:=[5]) (by kernel_rfl) (by simp) ?_
      refine AllReadyH.cons (o := { dst := some 44, op := .call { callee := .value (.func 39), args := #[.tmp 43], argTypes := #[79] }, type := 51, pos := "reader.go:53", after := #[{ on := 4, ground := .data }, { on := 3, ground := .chain }], guard := none }) rfl (fun K hK => ?_) AllReadyH.nil
      go_simp
      go_at_call 39
      refine (kmatrix_any v l B t4 w0 b1 HV.out HB1.out.be HB1.out.rd).mono ?_
      rintro e b2 ⟨hmx,hk,hg⟩
      rw[HM4.out.1]at hmx
      rw[HM4.out.2]at hk
      obtain ⟨q1,q2,q3,rfl,ho⟩:=hmx
      have HB2:=h_ (KM.read HC0.out HB1.out hg hk)
      have HBO:=h_ (o_ b2 (.cells #[.int .i64 r3,.int .i64 c3,.slice p1 p2 p3,.int .i64 r4,.int .i64 c4,.slice q1 q2 q3] 56))
      have HLA:=h_ (HB2.out.ls.u_ HBO.out)
      have HCB:=h_ (WBk.new b2 #[.int .i64 r3,.int .i64 c3,.slice p1 p2 p3,.int .i64 r4,.int .i64 c4,.slice q1 q2 q3] 56)
      have HP1:=h_ ((part_low HPA.out hg HBS.out.1).u_ HBO.out)
      have HP2:=h_ ((HB1.out.ls.part2 HB1.out.ba ho).u_ HBO.out)
      have HBA:=h_ (Nat.le_trans HB2.out.ba HBO.out.size)
      have hg2:=HB2.out.cells.2.1
      have hg3:=c_ HBO.out HB2.out.cells.2.1
      clear hk hg ho
      go_wp2_with fail
      refine hK.out _ _ ?hS9007 (fun hHeld=>?_)
      case hS9007=>trivial
      clear hK K
      try simp only[Act.put,List.setIfInBounds_toArray,List.set_cons_zero,List.set_cons_succ]
      refine wpAnyH_take (i := 6) (oi := { dst := some 45, op := .build 56 #[(0, .tmp 42), (1, .tmp 44)], type := 56, pos := "reader.go:53", after := #[{ on := 3, ground := .data }, { on := 5, ground := .data }], guard := none }) (v := ?v9008) rfl (by kernel_rfl) (by kernel_rfl) (by kernel_rfl) (fun _ _ _ h => h) (Or.inl ⟨by rfl, ?hy9008⟩) (by assumption) ?rest9008
      case hy9008=>(intro w hSw;(try dsimp only at hSw);go_simp;(try with_reducible rfl))
      try simp only[Act.put,List.setIfInBounds_toArray,List.set_cons_zero,List.set_cons_succ]
      refine wpAnyH_ready (rs:=[7]) (by kernel_rfl) (by simp) ?_
      refine AllReadyH.cons (o := { dst := some 46, op := .buildSlice 23 1 #[(0, .tmp 45)], type := 23, pos := "reader.go:53", after := #[{ on := 6, ground := .data }], guard := none }) rfl (fun K hK => ?_) AllReadyH.nil
      go_simp
      refine hK.out _ _ ?hS9009 (fun hHeld=>?_)
      case hS9009=>trivial
      clear hK K
      try simp only[Act.put,List.setIfInBounds_toArray,List.set_cons_zero,List.set_cons_succ]
      refine wpAnyH_ready (rs:=[8]) (by kernel_rfl) (by simp) ?_
      refine AllReadyH.cons (o := { dst := some 47, op := .call { callee := .builtin .append, args := #[.tmp 40, .tmp 46], argTypes := #[23, 23] }, type := 23, pos := "reader.go:53", after := #[{ on := 1, ground := .data }, { on := 7, ground := .data }, { on := 5, ground := .chain }], guard := none }) rfl (fun K hK => ?_) AllReadyH.nil
      (try rw[if_pos (by rfl)])
      refine wp_app_gd _ _ rfl base (.slice va8 (i+1) vk8) (.slice ta i tk) (i+1) i (xs.map (·.1)++[⟨kd,⟨r1,c1,z1⟩,⟨r2,c2,z2⟩⟩]) (xs.map (·.2)) rfl HLA.out b2.heap.size (⟨r3,c3,z3⟩,⟨r4,c4,z4⟩) (.slice p1 p2 p3) (.slice q1 q2 q3) rfl HCB.out HP1.out HP2.out HI1000.out HBA.out ?_
      intro v9 b3 hl9 hg9
      obtain ⟨va9,vk9,hv9,_,_⟩:=(hl9.gds (by rw[List.length_append,List.length_map,HXL.out];rfl)).shape
      rw[List.length_append,List.length_map,HXL.out]at hv9
      replace hv9:v9=.slice va9 (i+1) vk9:=hv9
      subst hv9
      have HX9:=h_ (KM.put2 HC0.out HB2.out HBO.out hl9 hg9)
      have hq9:=(KM.lay HC0.out HB2.out HBO.out (fun b e=>(HB2.out.ls.2.1.lt b e).1) hg9).2.1
      have y1:=hq9.q3.2.1
      have zf1:=hq9.f 1
      clear hl9 hg9 hq9
      refine hK.out _ _ ?hS9010 (fun hHeld=>?_)
      case hS9010=>trivial
      clear hK K
      try simp only[Act.put,List.setIfInBounds_toArray,List.set_cons_zero,List.set_cons_succ]
      refine wpAnyH_take (i := 9) (oi := { dst := some 48, op := .fieldAddr 26 (.tmp 3) 1, type := 0, pos := "reader.go:53", after := #[{ on := 0, ground := .phase }, { on := 1, ground := .phase }, { on := 2, ground := .phase }, { on := 3, ground := .phase }, { on := 4, ground := .phase }, { on := 5, ground := .phase }, { on := 6, ground := .phase }, { on := 7, ground := .phase }, { on := 8, ground := .phase }], guard := none }) (v := ?v9011) rfl (by kernel_rfl) (by kernel_rfl) (by kernel_rfl) (fun _ _ _ h => h) (Or.inl ⟨by rfl, ?hy9011⟩) (by assumption) ?rest9011
      case hy9011=>(intro w hSw;(try dsimp only at hSw);go_simp;(try with_reducible rfl))
      try simp only[Act.put,List.setIfInBounds_toArray,List.set_cons_zero,List.set_cons_succ]
      refine wpAnyH_ready (rs:=[10]) (by kernel_rfl) (by simp) ?_
      refine AllReadyH.cons (o := { dst := none, op := .store 23 (.tmp 48) (.tmp 47), type := 0, pos := "reader.go:53", after := #[{ on := 9, ground := .data }, { on := 8, ground := .data }, { on := 8, ground := .chain }, { on := 0, ground := .phase }, { on := 1, ground := .phase }, { on := 2, ground := .phase }, { on := 3, ground := .phase }, { on := 4, ground := .phase }, { on := 5, ground := .phase }, { on := 6, ground := .phase }, { on := 7, ground := .phase }, { on := 8, ground := .phase }], guard := none }) rfl (fun K hK => ?_) AllReadyH.nil
      go_simp
      refine hK.out _ _ ?hS9012 (fun hHeld=>?_)
      case hS9012=>trivial
      clear hK K
      try simp only[Act.put,List.setIfInBounds_toArray,List.set_cons_zero,List.set_cons_succ]
      refine wpAnyH_done (by kernel_rfl) ?_ _
      go_wp2
      go_roundw
      case rel=>exact ⟨i+1,_,_,_,xs++[(⟨kd,⟨r1,c1,z1⟩,⟨r2,c2,z2⟩⟩,(⟨r3,c3,z3⟩,⟨r4,c4,z4⟩))],t5,by have:=HXI.out;omega,by have:=HXI.out;omega,HXK.out,rfl,by rw[List.length_append,HXL.out];rfl,HNX.out,.inr HK12B.out,by rw[List.map_append,List.map_append];exact HX9.out.ls,HX9.out.rd,HX9.out.sb,HX9.out.rb,HX9.out.gr,HX9.out.ba,HX9.out.be⟩
      case measure=>have:=HXI.out;simp[intOf];omega
     case more9004=>
      refine AllReadyH.cons (o := { dst := some 42, op := .call { callee := .value (.func 39), args := #[.tmp 41], argTypes := #[79] }, type := 51, pos := "reader.go:53", after := #[{ on := 2, ground := .data }], guard := none }) rfl (fun K hK => ?_) AllReadyH.nil
      go_simp
      go_at_call 39
      refine (kmatrix_any v l B t3 w0 wc.drew HV.out HKN.out.be HKN.out.rd).mono ?_
      rintro e b1 ⟨hmx,hk,hg⟩
      rw[HM3.out.1]at hmx
      rw[HM3.out.2]at hk
      obtain ⟨p1,p2,p3,rfl,ho⟩:=hmx
      have HB1:=h_ (KM.read HC0.out HKN.out hg hk)
      have HPA:=h_ (HKN.out.ls.part2 HKN.out.ba ho)
      have hg1:=HB1.out.cells.2.1
      clear hk hg ho
      go_wp2_with fail
      refine hK.out _ _ ?hS9013 (fun hHeld=>?_)
      case hS9013=>trivial
      clear hK K
      try simp only[Act.put,List.setIfInBounds_toArray,List.set_cons_zero,List.set_cons_succ]
      refine wpAnyH_ready (rs:=[1,5]) (by kernel_rfl) (by simp) ?_
      refine AllReadyH.cons (o := { dst := some 40, op := .load 23 (.tmp 39), type := 23, pos := "reader.go:53", after := #[{ on := 0, ground := .data }], guard := none }) rfl (fun K hK => ?way9014) ?more9014
      case way9014=>
       go_simp
       refine hK.out _ _ ?hS9015 (fun hHeld=>?_)
       case hS9015=>trivial
       clear hK K
       try simp only[Act.put,List.setIfInBounds_toArray,List.set_cons_zero,List.set_cons_succ]
       refine wpAnyH_ready (rs:=[5]) (by kernel_rfl) (by simp) ?_
       refine AllReadyH.cons (o := { dst := some 44, op := .call { callee := .value (.func 39), args := #[.tmp 43], argTypes := #[79] }, type := 51, pos := "reader.go:53", after := #[{ on := 4, ground := .data }, { on := 3, ground := .chain }], guard := none }) rfl (fun K hK => ?_) AllReadyH.nil
       go_simp
       go_at_call 39
       refine (kmatrix_any v l B t4 w0 b1 HV.out HB1.out.be HB1.out.rd).mono ?_
       rintro e b2 ⟨hmx,hk,hg⟩
       rw[HM4.out.1]at hmx
       rw[HM4.out.2]at hk
       obtain ⟨q1,q2,q3,rfl,ho⟩:=hmx
       have HB2:=h_ (KM.read HC0.out HB1.out hg hk)
       have HBO:=h_ (o_ b2 (.cells #[.int .i64 r3,.int .i64 c3,.slice p1 p2 p3,.int .i64 r4,.int .i64 c4,.slice q1 q2 q3] 56))
       have HLA:=h_ (HB2.out.ls.u_ HBO.out)
       have HCB:=h_ (WBk.new b2 #[.int .i64 r3,.int .i64 c3,.slice p1 p2 p3,.int .i64 r4,.int .i64 c4,.slice q1 q2 q3] 56)
       have HP1:=h_ ((part_low HPA.out hg HBS.out.1).u_ HBO.out)
       have HP2:=h_ ((HB1.out.ls.part2 HB1.out.ba ho).u_ HBO.out)
       have HBA:=h_ (Nat.le_trans HB2.out.ba HBO.out.size)
       have hg2:=HB2.out.cells.2.1
       have hg3:=c_ HBO.out HB2.out.cells.2.1
       clear hk hg ho
       go_wp2_with fail
       refine hK.out _ _ ?hS9016 (fun hHeld=>?_)
       case hS9016=>trivial
       clear hK K
       try simp only[Act.put,List.setIfInBounds_toArray,List.set_cons_zero,List.set_cons_succ]
       refine wpAnyH_take (i := 6) (oi := { dst := some 45, op := .build 56 #[(0, .tmp 42), (1, .tmp 44)], type := 56, pos := "reader.go:53", after := #[{ on := 3, ground := .data }, { on := 5, ground := .data }], guard := none }) (v := ?v9017) rfl (by kernel_rfl) (by kernel_rfl) (by kernel_rfl) (fun _ _ _ h => h) (Or.inl ⟨by rfl, ?hy9017⟩) (by assumption) ?rest9017
       case hy9017=>(intro w hSw;(try dsimp only at hSw);go_simp;(try with_reducible rfl))
       try simp only[Act.put,List.setIfInBounds_toArray,List.set_cons_zero,List.set_cons_succ]
       refine wpAnyH_ready (rs:=[7]) (by kernel_rfl) (by simp) ?_
       refine AllReadyH.cons (o := { dst := some 46, op := .buildSlice 23 1 #[(0, .tmp 45)], type := 23, pos := "reader.go:53", after := #[{ on := 6, ground := .data }], guard := none }) rfl (fun K hK => ?_) AllReadyH.nil
       go_simp
       refine hK.out _ _ ?hS9018 (fun hHeld=>?_)
       case hS9018=>trivial
       clear hK K
       try simp only[Act.put,List.setIfInBounds_toArray,List.set_cons_zero,List.set_cons_succ]
       refine wpAnyH_ready (rs:=[8]) (by kernel_rfl) (by simp) ?_
       refine AllReadyH.cons (o := { dst := some 47, op := .call { callee := .builtin .append, args := #[.tmp 40, .tmp 46], argTypes := #[23, 23] }, type := 23, pos := "reader.go:53", after := #[{ on := 1, ground := .data }, { on := 7, ground := .data }, { on := 5, ground := .chain }], guard := none }) rfl (fun K hK => ?_) AllReadyH.nil
       (try rw[if_pos (by rfl)])
       refine wp_app_gd _ _ rfl base (.slice va8 (i+1) vk8) (.slice ta i tk) (i+1) i (xs.map (·.1)++[⟨kd,⟨r1,c1,z1⟩,⟨r2,c2,z2⟩⟩]) (xs.map (·.2)) rfl HLA.out b2.heap.size (⟨r3,c3,z3⟩,⟨r4,c4,z4⟩) (.slice p1 p2 p3) (.slice q1 q2 q3) rfl HCB.out HP1.out HP2.out HI1000.out HBA.out ?_
       intro v9 b3 hl9 hg9
       obtain ⟨va9,vk9,hv9,_,_⟩:=(hl9.gds (by rw[List.length_append,List.length_map,HXL.out];rfl)).shape
       rw[List.length_append,List.length_map,HXL.out]at hv9
       replace hv9:v9=.slice va9 (i+1) vk9:=hv9
       subst hv9
       have HX9:=h_ (KM.put2 HC0.out HB2.out HBO.out hl9 hg9)
       have hq9:=(KM.lay HC0.out HB2.out HBO.out (fun b e=>(HB2.out.ls.2.1.lt b e).1) hg9).2.1
       have y1:=hq9.q3.2.1
       have zf1:=hq9.f 1
       clear hl9 hg9 hq9
       refine hK.out _ _ ?hS9019 (fun hHeld=>?_)
       case hS9019=>trivial
       clear hK K
       try simp only[Act.put,List.setIfInBounds_toArray,List.set_cons_zero,List.set_cons_succ]
       refine wpAnyH_take (i := 9) (oi := { dst := some 48, op := .fieldAddr 26 (.tmp 3) 1, type := 0, pos := "reader.go:53", after := #[{ on := 0, ground := .phase }, { on := 1, ground := .phase }, { on := 2, ground := .phase }, { on := 3, ground := .phase }, { on := 4, ground := .phase }, { on := 5, ground := .phase }, { on := 6, ground := .phase }, { on := 7, ground := .phase }, { on := 8, ground := .phase }], guard := none }) (v := ?v9020) rfl (by kernel_rfl) (by kernel_rfl) (by kernel_rfl) (fun _ _ _ h => h) (Or.inl ⟨by rfl, ?hy9020⟩) (by assumption) ?rest9020
       case hy9020=>(intro w hSw;(try dsimp only at hSw);go_simp;(try with_reducible rfl))
       try simp only[Act.put,List.setIfInBounds_toArray,List.set_cons_zero,List.set_cons_succ]
       refine wpAnyH_ready (rs:=[10]) (by kernel_rfl) (by simp) ?_
       refine AllReadyH.cons (o := { dst := none, op := .store 23 (.tmp 48) (.tmp 47), type := 0, pos := "reader.go:53", after := #[{ on := 9, ground := .data }, { on := 8, ground := .data }, { on := 8, ground := .chain }, { on := 0, ground := .phase }, { on := 1, ground := .phase }, { on := 2, ground := .phase }, { on := 3, ground := .phase }, { on := 4, ground := .phase }, { on := 5, ground := .phase }, { on := 6, ground := .phase }, { on := 7, ground := .phase }, { on := 8, ground := .phase }], guard := none }) rfl (fun K hK => ?_) AllReadyH.nil
       go_simp
       refine hK.out _ _ ?hS9021 (fun hHeld=>?_)
       case hS9021=>trivial
       clear hK K
       try simp only[Act.put,List.setIfInBounds_toArray,List.set_cons_zero,List.set_cons_succ]
       refine wpAnyH_done (by kernel_rfl) ?_ _
       go_wp2
       go_roundw
       case rel=>exact ⟨i+1,_,_,_,xs++[(⟨kd,⟨r1,c1,z1⟩,⟨r2,c2,z2⟩⟩,(⟨r3,c3,z3⟩,⟨r4,c4,z4⟩))],t5,by have:=HXI.out;omega,by have:=HXI.out;omega,HXK.out,rfl,by rw[List.length_append,HXL.out];rfl,HNX.out,.inr HK12B.out,by rw[List.map_append,List.map_append];exact HX9.out.ls,HX9.out.rd,HX9.out.sb,HX9.out.rb,HX9.out.gr,HX9.out.ba,HX9.out.be⟩
       case measure=>have:=HXI.out;simp[intOf];omega
      case more9014=>
       refine AllReadyH.cons (o := { dst := some 44, op := .call { callee := .value (.func 39), args := #[.tmp 43], argTypes := #[79] }, type := 51, pos := "reader.go:53", after := #[{ on := 4, ground := .data }, { on := 3, ground := .chain }], guard := none }) rfl (fun K hK => ?_) AllReadyH.nil
       go_simp
       go_at_call 39
       refine (kmatrix_any v l B t4 w0 b1 HV.out HB1.out.be HB1.out.rd).mono ?_
       rintro e b2 ⟨hmx,hk,hg⟩
       rw[HM4.out.1]at hmx
       rw[HM4.out.2]at hk
       obtain ⟨q1,q2,q3,rfl,ho⟩:=hmx
       have HB2:=h_ (KM.read HC0.out HB1.out hg hk)
       have HBO:=h_ (o_ b2 (.cells #[.int .i64 r3,.int .i64 c3,.slice p1 p2 p3,.int .i64 r4,.int .i64 c4,.slice q1 q2 q3] 56))
       have HLA:=h_ (HB2.out.ls.u_ HBO.out)
       have HCB:=h_ (WBk.new b2 #[.int .i64 r3,.int .i64 c3,.slice p1 p2 p3,.int .i64 r4,.int .i64 c4,.slice q1 q2 q3] 56)
       have HP1:=h_ ((part_low HPA.out hg HBS.out.1).u_ HBO.out)
       have HP2:=h_ ((HB1.out.ls.part2 HB1.out.ba ho).u_ HBO.out)
       have HBA:=h_ (Nat.le_trans HB2.out.ba HBO.out.size)
       have hg2:=HB2.out.cells.2.1
       have hg3:=c_ HBO.out HB2.out.cells.2.1
       clear hk hg ho
       go_wp2_with fail
       refine hK.out _ _ ?hS9022 (fun hHeld=>?_)
       case hS9022=>trivial
       clear hK K
       try simp only[Act.put,List.setIfInBounds_toArray,List.set_cons_zero,List.set_cons_succ]
       refine wpAnyH_take (i := 6) (oi := { dst := some 45, op := .build 56 #[(0, .tmp 42), (1, .tmp 44)], type := 56, pos := "reader.go:53", after := #[{ on := 3, ground := .data }, { on := 5, ground := .data }], guard := none }) (v := ?v9023) rfl (by kernel_rfl) (by kernel_rfl) (by kernel_rfl) (fun _ _ _ h => h) (Or.inl ⟨by rfl, ?hy9023⟩) (by assumption) ?rest9023
       case hy9023=>(intro w hSw;(try dsimp only at hSw);go_simp;(try with_reducible rfl))
       try simp only[Act.put,List.setIfInBounds_toArray,List.set_cons_zero,List.set_cons_succ]
       refine wpAnyH_ready (rs:=[1,7]) (by kernel_rfl) (by simp) ?_
       refine AllReadyH.cons (o := { dst := some 40, op := .load 23 (.tmp 39), type := 23, pos := "reader.go:53", after := #[{ on := 0, ground := .data }], guard := none }) rfl (fun K hK => ?way9024) ?more9024
       case way9024=>
        go_simp
        refine hK.out _ _ ?hS9025 (fun hHeld=>?_)
        case hS9025=>trivial
        clear hK K
        try simp only[Act.put,List.setIfInBounds_toArray,List.set_cons_zero,List.set_cons_succ]
        refine wpAnyH_ready (rs:=[7]) (by kernel_rfl) (by simp) ?_
        refine AllReadyH.cons (o := { dst := some 46, op := .buildSlice 23 1 #[(0, .tmp 45)], type := 23, pos := "reader.go:53", after := #[{ on := 6, ground := .data }], guard := none }) rfl (fun K hK => ?_) AllReadyH.nil
        go_simp
        refine hK.out _ _ ?hS9026 (fun hHeld=>?_)
        case hS9026=>trivial
        clear hK K
        try simp only[Act.put,List.setIfInBounds_toArray,List.set_cons_zero,List.set_cons_succ]
        refine wpAnyH_ready (rs:=[8]) (by kernel_rfl) (by simp) ?_
        refine AllReadyH.cons (o := { dst := some 47, op := .call { callee := .builtin .append, args := #[.tmp 40, .tmp 46], argTypes := #[23, 23] }, type := 23, pos := "reader.go:53", after := #[{ on := 1, ground := .data }, { on := 7, ground := .data }, { on := 5, ground := .chain }], guard := none }) rfl (fun K hK => ?_) AllReadyH.nil
        (try rw[if_pos (by rfl)])
        refine wp_app_gd _ _ rfl base (.slice va8 (i+1) vk8) (.slice ta i tk) (i+1) i (xs.map (·.1)++[⟨kd,⟨r1,c1,z1⟩,⟨r2,c2,z2⟩⟩]) (xs.map (·.2)) rfl HLA.out b2.heap.size (⟨r3,c3,z3⟩,⟨r4,c4,z4⟩) (.slice p1 p2 p3) (.slice q1 q2 q3) rfl HCB.out HP1.out HP2.out HI1000.out HBA.out ?_
        intro v9 b3 hl9 hg9
        obtain ⟨va9,vk9,hv9,_,_⟩:=(hl9.gds (by rw[List.length_append,List.length_map,HXL.out];rfl)).shape
        rw[List.length_append,List.length_map,HXL.out]at hv9
        replace hv9:v9=.slice va9 (i+1) vk9:=hv9
        subst hv9
        have HX9:=h_ (KM.put2 HC0.out HB2.out HBO.out hl9 hg9)
        have hq9:=(KM.lay HC0.out HB2.out HBO.out (fun b e=>(HB2.out.ls.2.1.lt b e).1) hg9).2.1
        have y1:=hq9.q3.2.1
        have zf1:=hq9.f 1
        clear hl9 hg9 hq9
        refine hK.out _ _ ?hS9027 (fun hHeld=>?_)
        case hS9027=>trivial
        clear hK K
        try simp only[Act.put,List.setIfInBounds_toArray,List.set_cons_zero,List.set_cons_succ]
        refine wpAnyH_take (i := 9) (oi := { dst := some 48, op := .fieldAddr 26 (.tmp 3) 1, type := 0, pos := "reader.go:53", after := #[{ on := 0, ground := .phase }, { on := 1, ground := .phase }, { on := 2, ground := .phase }, { on := 3, ground := .phase }, { on := 4, ground := .phase }, { on := 5, ground := .phase }, { on := 6, ground := .phase }, { on := 7, ground := .phase }, { on := 8, ground := .phase }], guard := none }) (v := ?v9028) rfl (by kernel_rfl) (by kernel_rfl) (by kernel_rfl) (fun _ _ _ h => h) (Or.inl ⟨by rfl, ?hy9028⟩) (by assumption) ?rest9028
        case hy9028=>(intro w hSw;(try dsimp only at hSw);go_simp;(try with_reducible rfl))
        try simp only[Act.put,List.setIfInBounds_toArray,List.set_cons_zero,List.set_cons_succ]
        refine wpAnyH_ready (rs:=[10]) (by kernel_rfl) (by simp) ?_
        refine AllReadyH.cons (o := { dst := none, op := .store 23 (.tmp 48) (.tmp 47), type := 0, pos := "reader.go:53", after := #[{ on := 9, ground := .data }, { on := 8, ground := .data }, { on := 8, ground := .chain }, { on := 0, ground := .phase }, { on := 1, ground := .phase }, { on := 2, ground := .phase }, { on := 3, ground := .phase }, { on := 4, ground := .phase }, { on := 5, ground := .phase }, { on := 6, ground := .phase }, { on := 7, ground := .phase }, { on := 8, ground := .phase }], guard := none }) rfl (fun K hK => ?_) AllReadyH.nil
        go_simp
        refine hK.out _ _ ?hS9029 (fun hHeld=>?_)
        case hS9029=>trivial
        clear hK K
        try simp only[Act.put,List.setIfInBounds_toArray,List.set_cons_zero,List.set_cons_succ]
        refine wpAnyH_done (by kernel_rfl) ?_ _
        go_wp2
        go_roundw
        case rel=>exact ⟨i+1,_,_,_,xs++[(⟨kd,⟨r1,c1,z1⟩,⟨r2,c2,z2⟩⟩,(⟨r3,c3,z3⟩,⟨r4,c4,z4⟩))],t5,by have:=HXI.out;omega,by have:=HXI.out;omega,HXK.out,rfl,by rw[List.length_append,HXL.out];rfl,HNX.out,.inr HK12B.out,by rw[List.map_append,List.map_append];exact HX9.out.ls,HX9.out.rd,HX9.out.sb,HX9.out.rb,HX9.out.gr,HX9.out.ba,HX9.out.be⟩
        case measure=>have:=HXI.out;simp[intOf];omega
       case more9024=>
        refine AllReadyH.cons (o := { dst := some 46, op := .buildSlice 23 1 #[(0, .tmp 45)], type := 23, pos := "reader.go:53", after := #[{ on := 6, ground := .data }], guard := none }) rfl (fun K hK => ?_) AllReadyH.nil
        go_simp
        refine hK.out _ _ ?hS9030 (fun hHeld=>?_)
        case hS9030=>trivial
        clear hK K
        try simp only[Act.put,List.setIfInBounds_toArray,List.set_cons_zero,List.set_cons_succ]
        refine wpAnyH_ready (rs:=[1]) (by kernel_rfl) (by simp) ?_
        refine AllReadyH.cons (o := { dst := some 40, op := .load 23 (.tmp 39), type := 23, pos := "reader.go:53", after := #[{ on := 0, ground := .data }], guard := none }) rfl (fun K hK => ?_) AllReadyH.nil
        go_simp
        refine hK.out _ _ ?hS9031 (fun hHeld=>?_)
        case hS9031=>trivial
        clear hK K
        try simp only[Act.put,List.setIfInBounds_toArray,List.set_cons_zero,List.set_cons_succ]
        refine wpAnyH_ready (rs:=[8]) (by kernel_rfl) (by simp) ?_
        refine AllReadyH.cons (o := { dst := some 47, op := .call { callee := .builtin .append, args := #[.tmp 40, .tmp 46], argTypes := #[23, 23] }, type := 23, pos := "reader.go:53", after := #[{ on := 1, ground := .data }, { on := 7, ground := .data }, { on := 5, ground := .chain }], guard := none }) rfl (fun K hK => ?_) AllReadyH.nil
        (try rw[if_pos (by rfl)])
        refine wp_app_gd _ _ rfl base (.slice va8 (i+1) vk8) (.slice ta i tk) (i+1) i (xs.map (·.1)++[⟨kd,⟨r1,c1,z1⟩,⟨r2,c2,z2⟩⟩]) (xs.map (·.2)) rfl HLA.out b2.heap.size (⟨r3,c3,z3⟩,⟨r4,c4,z4⟩) (.slice p1 p2 p3) (.slice q1 q2 q3) rfl HCB.out HP1.out HP2.out HI1000.out HBA.out ?_
        intro v9 b3 hl9 hg9
        obtain ⟨va9,vk9,hv9,_,_⟩:=(hl9.gds (by rw[List.length_append,List.length_map,HXL.out];rfl)).shape
        rw[List.length_append,List.length_map,HXL.out]at hv9
        replace hv9:v9=.slice va9 (i+1) vk9:=hv9
        subst hv9
        have HX9:=h_ (KM.put2 HC0.out HB2.out HBO.out hl9 hg9)
        have hq9:=(KM.lay HC0.out HB2.out HBO.out (fun b e=>(HB2.out.ls.2.1.lt b e).1) hg9).2.1
        have y1:=hq9.q3.2.1
        have zf1:=hq9.f 1
        clear hl9 hg9 hq9
        refine hK.out _ _ ?hS9032 (fun hHeld=>?_)
        case hS9032=>trivial
        clear hK K
        try simp only[Act.put,List.setIfInBounds_toArray,List.set_cons_zero,List.set_cons_succ]
        refine wpAnyH_take (i := 9) (oi := { dst := some 48, op := .fieldAddr 26 (.tmp 3) 1, type := 0, pos := "reader.go:53", after := #[{ on := 0, ground := .phase }, { on := 1, ground := .phase }, { on := 2, ground := .phase }, { on := 3, ground := .phase }, { on := 4, ground := .phase }, { on := 5, ground := .phase }, { on := 6, ground := .phase }, { on := 7, ground := .phase }, { on := 8, ground := .phase }], guard := none }) (v := ?v9033) rfl (by kernel_rfl) (by kernel_rfl) (by kernel_rfl) (fun _ _ _ h => h) (Or.inl ⟨by rfl, ?hy9033⟩) (by assumption) ?rest9033
        case hy9033=>(intro w hSw;(try dsimp only at hSw);go_simp;(try with_reducible rfl))
        try simp only[Act.put,List.setIfInBounds_toArray,List.set_cons_zero,List.set_cons_succ]
        refine wpAnyH_ready (rs:=[10]) (by kernel_rfl) (by simp) ?_
        refine AllReadyH.cons (o := { dst := none, op := .store 23 (.tmp 48) (.tmp 47), type := 0, pos := "reader.go:53", after := #[{ on := 9, ground := .data }, { on := 8, ground := .data }, { on := 8, ground := .chain }, { on := 0, ground := .phase }, { on := 1, ground := .phase }, { on := 2, ground := .phase }, { on := 3, ground := .phase }, { on := 4, ground := .phase }, { on := 5, ground := .phase }, { on := 6, ground := .phase }, { on := 7, ground := .phase }, { on := 8, ground := .phase }], guard := none }) rfl (fun K hK => ?_) AllReadyH.nil
        go_simp
        refine hK.out _ _ ?hS9034 (fun hHeld=>?_)
        case hS9034=>trivial
        clear hK K
        try simp only[Act.put,List.setIfInBounds_toArray,List.set_cons_zero,List.set_cons_succ]
        refine wpAnyH_done (by kernel_rfl) ?_ _
        go_wp2
        go_roundw
        case rel=>exact ⟨i+1,_,_,_,xs++[(⟨kd,⟨r1,c1,z1⟩,⟨r2,c2,z2⟩⟩,(⟨r3,c3,z3⟩,⟨r4,c4,z4⟩))],t5,by have:=HXI.out;omega,by have:=HXI.out;omega,HXK.out,rfl,by rw[List.length_append,HXL.out];rfl,HNX.out,.inr HK12B.out,by rw[List.map_append,List.map_append];exact HX9.out.ls,HX9.out.rd,HX9.out.sb,HX9.out.rb,HX9.out.gr,HX9.out.ba,HX9.out.be⟩
        case measure=>have:=HXI.out;simp[intOf];omega
  ·have hki:k.toNat≤i:=by have:=HXI.out;omega
   have HKI:=h_ hki
   clear hki
   go_wp2_with fail
   refine HTL.out.mono ?_
   rintro e wf ⟨rfl,hk,hg⟩
   have HKF:=h_ hk
   have HGF:=h_ (grw_trans HGW.out hg HQ.out)
   have HSF:=h_ (show WBk wf w2.heap.size #[.slice oa i ok,.slice ta i tk,.int .i64 n] 26 from (hg.block _ HSB.out.lt (fun e=>HRS.out.2 (Option.some.inj e).symm)).trans HSB.out)
   have HRF:=h_ (show WBk wf w.heap.size #[.slice none 0 0,.slice none 0 0,.int .i64 0] 26 from (hg.block _ HRB.out.lt (fun e=>HNE.out (Option.some.inj e).symm)).trans HRB.out)
   have HLF:=h_ (HLS.out.low hg HBS.out.1)
   have HFN:=h_ (kfin HE.out HIN.out (.inr HKI.out) HAT.out.1 HAT.out.2)
   rw[HBB.out]at HFN
   obtain ⟨e0,e1,e2⟩:=HSF.out.q3
   obtain ⟨y0,y1,y2⟩:=HRF.out.q3
   obtain ⟨z0,z1,z2⟩:=HRF.out.f3
   have HF:=h_ (bk3 HRF.out (.slice oa i ok) (.slice ta i tk) (.int .i64 n))
   obtain ⟨q0,q1,q2⟩:=HF.out.q3
   have HG5:=h_ (grw3 wf w.heap.size (.slice oa i ok) (.slice ta i tk) (.int .i64 n))
   have HKG:=h_ (((HKF.out.other HNE.out 0 (.slice oa i ok)).other HNE.out 1 (.slice ta i tk)).other HNE.out 2 (.int .i64 n))
   have HLG:=h_ (HLF.out.low HG5.out HBS.out.2.1)
   clear hk hg
   go_wp2
   refine bodyPost_ret (v:=.agg #[.slice oa i ok,.slice ta i tk,.int .i64 n]) (by simp[results,Tryd.results24,go_sem,q0,q1,q2]) rfl ?_
   exact KsEnd.of HLG.out HXL.out (Nat.le_of_lt HBS.out.2.1) HKG.out (grw_trans HGF.out HG5.out (fun k e=>.inl (by rw[←Option.some.inj e];exact Nat.le_refl _))) HFN.out
end Go.Proofs.YtaajlggpjholeajDoor
