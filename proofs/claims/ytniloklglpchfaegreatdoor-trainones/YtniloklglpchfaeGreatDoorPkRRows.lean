/- What MatRows of the document's answer comes to: some rows of a matrix. -/
import Derived.Test.YtniloklglpchfaeGreatDoorPkRTurn
import Derived.StillTailTactics
namespace Go.Proofs.YtniloklglpchfaeGreatDoor
open Go.RowKit
def rowsF (cs:List Int) (s i q:Nat):Int:=if q<i then (cs[s+q]?).getD 0 else 0
theorem rowsF_step(cs:List Int)(s i n:Nat)(x:Int)(hx:cs[s+i]?=some x):(tab n (rowsF cs s i)).set i x=tab n (rowsF cs s (i+1)):=by
 rw[tab_set]
 refine tab_congr (fun q _=>?_)
 unfold rowsF
 by_cases hq:q=i
 ·subst hq;rw[if_pos rfl,if_pos (by omega),hx];rfl
 ·rw[if_neg hq]
  by_cases h:q<i
  ·rw[if_pos h,if_pos (by omega)]
  ·rw[if_neg h,if_neg (by omega)]
theorem rowsF_zero(cs:List Int)(s n:Nat):tab n (fun _=>0)=tab n (rowsF cs s 0):=tab_congr (fun q _=>by unfold rowsF;rw[if_neg (by omega)])
theorem rowsF_end(cs:List Int)(s n:Nat):tab n (rowsF cs s n)=tab n (fun q=>(cs[s+q]?).getD 0):=tab_congr (fun q hq=>by unfold rowsF;rw[if_pos hq])
set_option maxHeartbeats 1600000 in
set_option maxRecDepth 100000 in
theorem rrows_any(v:Value)(m:Mx)(R C:Nat)(f t:Nat)(w:World)(hv:M_ w v m)(hc:m.cols=(C:Int))(hR:R≤24)(hC:C≤24)(hl:m.cells.length=R*C)(hft:f≤t)(htR:t≤R):
  Calls Tryz.prog 86 #[v,.int .i64 (f:Int),.int .i64 (t:Int)] w fun e w'=>
  ∃v',e=.returned v'∧M_ w' v' ⟨((t - f:Nat):Int),C,tab ((t - f)*C) (fun q=>(m.cells[f*C+q]?).getD 0)⟩∧Below w.heap.size w w'∧F_ w.heap.size v':=by
 obtain ⟨s,rfl,hs⟩:=hv
 obtain ⟨r,er⟩:=gN (m.rows)
 obtain ⟨c,ec⟩:=gN (m.cols)
 obtain ⟨n,en⟩:=gN ((t - f)*C)
 obtain ⟨xf,exf⟩:=gN ((f:Int))
 obtain ⟨xt,ext⟩:=gN ((t:Int))
 have hn1:n≤R*C - f*C:=by rw[←en,←Nat.sub_mul];exact Nat.mul_le_mul_right C (by omega)
 have hn2:f*C+n≤R*C:=by have:=Nat.mul_le_mul_right C (show f≤R by omega);omega
 have hRC:=Nat.mul_le_mul hR hC
 rw[er,ec,exf,ext]
 rw[ec]at hc
 have hb:=fun W=>blank_any (xt - xf) c n W (by rw[hc,←en,←exf,←ext,←Int.ofNat_sub hft];simp) (by omega)
 have HB:=h_ hb
 have HS:=h_ hs
 have HL:=h_ hl
 have Hc:=h_ hc
 have HN:=h_ en
 have HF:=h_ exf.symm
 have HT:=h_ ext.symm
 have HN2:=h_ hn2
 have hnb:n≤576:=by omega
 have hxf0:0≤xf:=by omega
 have hxt1:xt≤24:=by omega
 have hxft:xf≤xt:=by omega
 have tb:=mul_bds exf.symm hc (by omega) hC
 clear hb hs hl hc er ec en exf ext hn1 hn2 hRC
 go_enter Tryz.func86,Tryz.ntmps86
 go_wp2_with fail
 refine (HB.out _).mono ?_
 rintro e w1 ⟨g,rfl,hg,hrow,hb1⟩
 generalize hV:((w.alloc (.cells #[.int .i64 r,.int .i64 c,s] 28)).alloc (.cells #[.int .i64 0,.int .i64 0,.slice none 0 0] 28))=V at*
 have hVs:V.heap.size=w.heap.size+2:=by rw[←hV];simp
 have v0:V.cell? ⟨w.heap.size,1,none⟩=some (.int .i64 c):=by rw[←hV];exact p_ (by simp) _
 have v1:V.cell? ⟨w.heap.size,2,none⟩=some s:=by rw[←hV];exact p_ (by simp) _
 have r0:V.cell? ⟨w.heap.size+1,0,none⟩=some (.int .i64 0):=by rw[←hV];simp
 have r1:V.cell? ⟨w.heap.size+1,1,none⟩=some (.int .i64 0):=by rw[←hV];simp
 have r2:V.cell? ⟨w.heap.size+1,2,none⟩=some (.slice none 0 0):=by rw[←hV];simp
 have rf:∀j,V.frozen? ⟨w.heap.size+1,j,none⟩=false:=fun j=>by rw[←hV];simp
 have hwV:Below w.heap.size w V:=by rw[←hV];exact ((Below.refl _ w).alloc (Nat.le_refl _) _).alloc (by simp) _
 have hglt:g<w1.heap.size:=hrow.lt
 have HV:=h_ (And.intro v0 (And.intro v1 (And.intro r0 (And.intro r1 r2))))
 have HRF:=h_ rf
 have HWV:=h_ hwV
 have HB1:=h_ hb1
 have HG:=h_ hg
 have HVS:=h_ hVs
 have HR:=h_ (hrow.alloc (.cells #[.int .i64 (xt - xf),.int .i64 c,.slice (some ⟨g,0,none⟩) n n] 28))
 clear v0 v1 r0 r1 r2 rf hwV hb1 hg hrow hVs
 go_wp2
 clear hV
 go_loopw [8] (fun a wr=>∃(i:Nat) (xi:Int),i≤n∧xi=(i:Int)∧a=.int .i64 xi∧RowAt 3 wr g (tab n (rowsF m.cells (f*C) i))∧(w1.alloc (.cells #[.int .i64 (xt - xf),.int .i64 c,.slice (some ⟨g,0,none⟩) n n] 28)).grownBy wr (some g)) (fun a _=>n - (intOf a).toNat)
 case atStart=>exact ⟨0,0,Nat.zero_le _,rfl,rfl,by rw[←rowsF_zero];exact HR.out,World.grownBy.refl _ _⟩
 case round=>
  obtain ⟨i,xi,hi,hxi,rfl,hro,hgr⟩:=hrel
  have p2:=X_ hglt hgr (j:=2) rfl
  have HRO:=h_ hro
  have HGR:=h_ hgr
  have HXI:=h_ hxi
  have hxi0:0≤xi:=by omega
  have hxi1:xi≤576:=by omega
  clear hro hgr hxi
  by_cases hlt:xi<(n:Int)
  ·obtain ⟨x,hx⟩:∃x,m.cells[f*C+i]?=some x:=⟨m.cells[f*C+i]'(by have:=HL.out;have:=HN2.out;have:=HXI.out;omega),List.getElem?_eq_getElem _⟩
   obtain ⟨aa,cap,hsv,_,_,h4⟩:=HS.out
   obtain ⟨b,off,rfl,hcl⟩:=h4.resolve_left (fun e=>by rw[e]at hx;simp at hx)
   have cx:wr.cell? ⟨b,off+(xf*c+xi).toNat,none⟩=some (.int .i64 x):=by
    rw[idx_nat HF.out HXI.out Hc.out]
    have h0:=hcl _ _ hx
    exact k_ HB1.out HG.out HGR.out ((HWV.out.cell (p:=⟨b,off+(f*C+i),none⟩) (World.block_lt_of_cell? w _ h0)).trans h0)
   have dx:∃y,wr.cell? ⟨g,xi.toNat,none⟩=some (.int .i64 y):=⟨_,by rw[show xi.toNat=i by have:=HXI.out;omega];exact HRO.out.cell (tab_at (by have:=HXI.out;omega))⟩
   obtain ⟨y,dx⟩:=dx
   have fx:wr.frozen? ⟨g,xi.toNat,none⟩=false:=HRO.out.frozen _
   have j1:=k_ HB1.out HG.out HGR.out HV.out.1
   have j2:=k_ HB1.out HG.out HGR.out HV.out.2.1
   subst hsv
   obtain ⟨N,hN⟩:=gN (m.cells.length)
   rw[hN]at j2
   have HX:=h_ hx
   have t3:xf*c+xi<(N:Int):=by rw[mul_cast_idx HF.out HXI.out Hc.out];have:=HL.out;have:=HN2.out;have:=HXI.out;omega
   have u1:=wrap_in (x:=xf*c) (by omega) (by omega)
   have u2:=wrap_in (x:=xf*c+xi) (by omega) (by omega)
   have g1:0≤xf*c+xi:=by omega
   clear hcl h4 hx hN
   go_wp2
   refine region_tail 14 (by kernel_rfl) (by kernel_rfl) ?_
   simp only[List.take_succ_cons,List.take_zero,List.drop_succ_cons,List.drop_zero]
   repeat still_step
   refine wpStill_nil ?_
   go_wp2
   exact ⟨⟨i+1,_,by have:=HXI.out;omega,by have:=HXI.out;omega,rfl,by
    rw[show xi.toNat=i by have:=HXI.out;omega,←rowsF_step m.cells (f*C) i n x HX.out]
    exact HRO.out.set i x,grown_drew (w_ HGR.out _ _)⟩,by have:=HXI.out;simp[intOf];omega⟩
  ·have hin:i=n:=by have:=HXI.out;omega
   have q0:=k_ HB1.out HG.out HGR.out HV.out.2.2.1
   have q1:=k_ HB1.out HG.out HGR.out HV.out.2.2.2.1
   have q2:=k_ HB1.out HG.out HGR.out HV.out.2.2.2.2
   have p0:=X_ hglt HGR.out (j:=0) rfl
   have p1:=X_ hglt HGR.out (j:=1) rfl
   have z0:=z_ HB1.out HG.out HGR.out (p:=⟨w.heap.size+1,0,none⟩) (by have:=HVS.out;simp;omega) (HRF.out 0)
   have z1:=z_ HB1.out HG.out HGR.out (p:=⟨w.heap.size+1,1,none⟩) (by have:=HVS.out;simp;omega) (HRF.out 1)
   have z2:=z_ HB1.out HG.out HGR.out (p:=⟨w.heap.size+1,2,none⟩) (by have:=HVS.out;simp;omega) (HRF.out 2)
   have HIN:=h_ hin
   clear hin
   have hgw:w.heap.size+1≠g:=by have:=HVS.out;have:=HG.out;omega
   go_wp2
   refine bodyPost_ret (v:=.agg #[.int .i64 (xt - xf),.int .i64 c,.slice (some ⟨g,0,none⟩) n n]) (by simp[results,Tryz.results86,go_sem,q0,q1,q2]) rfl ⟨_,rfl,⟨.slice (some ⟨g,0,none⟩) n n,by rw[Hc.out,show ((t - f:Nat):Int)=xt - xf by have:=HF.out;have:=HT.out;omega],?_⟩,?_,fresh_at (by first|omega|(have:=HVS.out;have:=HG.out;omega)) _ _ _⟩
   ·have h:=HRO.out
    rw[HIN.out,rowsF_end]at h
    show I_ _ _ (tab ((t - f)*C) _)
    rw[HN.out]
    exact (((h.other ⟨w.heap.size+1,0,none⟩ _ hgw.symm).other ⟨w.heap.size+1,1,none⟩ _ hgw.symm).other ⟨w.heap.size+1,2,none⟩ _ hgw.symm).isTab (by unfold maxLen;omega)
   ·exact (((keep_below HWV.out HB1.out HG.out HGR.out).setCell (by simp) _).setCell (by simp) _).setCell (by simp) _
set_option maxHeartbeats 1600000 in
set_option maxRecDepth 100000 in
theorem rmatadd_any(va vb:Value)(ma mb:Mx)(R C:Nat)(w:World)(hva:M_ w va ma)(hvb:M_ w vb mb)(hr:ma.rows=(R:Int))(hc:ma.cols=(C:Int))(hR:R≤24)(hC:C≤24)(hla:ma.cells.length=R*C)(hlb:mb.cells.length=R*C):
  Calls Tryz.prog 61 #[va,vb] w fun e w'=>
  ∃v',e=.returned v'∧M_ w' v' ⟨R,C,tab (R*C) (fun q=>ad ((ma.cells[q]?).getD 0) ((mb.cells[q]?).getD 0))⟩∧Below w.heap.size w w'∧F_ w.heap.size v':=by
 obtain ⟨sa,rfl,hsa⟩:=hva
 obtain ⟨sb,rfl,hsb⟩:=hvb
 obtain ⟨r',er'⟩:=gN (mb.rows)
 obtain ⟨c',ec'⟩:=gN (mb.cols)
 obtain ⟨r,er⟩:=gN (ma.rows)
 obtain ⟨c,ec⟩:=gN (ma.cols)
 obtain ⟨n,en⟩:=gN (R*C)
 have hRC:=Nat.mul_le_mul hR hC
 rw[er,ec,er',ec']
 rw[er]at hr
 rw[ec]at hc
 have hb:=fun W=>blank_any r c n W (by rw[hr,hc,←en];simp) (by omega)
 have HB:=h_ hb
 have HSA:=h_ hsa
 have HLA:=h_ (hla.trans en)
 have HSB:=h_ hsb
 have HLB:=h_ (hlb.trans en)
 have Hr:=h_ hr
 have Hc:=h_ hc
 have HN:=h_ en
 have hnb:n≤576:=by omega
 clear hb hsa hla hsb hlb er' ec' hr hc er ec en hRC
 go_enter Tryz.func61,Tryz.ntmps61
 go_wp2_with fail
 refine (HB.out _).mono ?_
 rintro e w1 ⟨g,rfl,hg,hrow,hb1⟩
 generalize hV:((w.alloc (.cells #[.int .i64 r,.int .i64 c,sa] 28)).alloc (.cells #[.int .i64 r',.int .i64 c',sb] 28)).alloc (.cells #[.int .i64 0,.int .i64 0,.slice none 0 0] 28)=V at*
 have hVs:V.heap.size=w.heap.size+1+1+1:=by rw[←hV];simp
 have v1:V.cell? ⟨w.heap.size,2,none⟩=some sa:=by rw[←hV];exact p_ (p_ (by simp) _) _
 have v2:V.cell? ⟨w.heap.size+1,2,none⟩=some sb:=by rw[←hV];exact p_ (by simp) _
 have r0:V.cell? ⟨w.heap.size+1+1,0,none⟩=some (.int .i64 0):=by rw[←hV,World.cell?_alloc_at _ _ _ _ (by simp)];rfl
 have r1:V.cell? ⟨w.heap.size+1+1,1,none⟩=some (.int .i64 0):=by rw[←hV,World.cell?_alloc_at _ _ _ _ (by simp)];rfl
 have r2:V.cell? ⟨w.heap.size+1+1,2,none⟩=some (.slice none 0 0):=by rw[←hV,World.cell?_alloc_at _ _ _ _ (by simp)];rfl
 have rf:∀j,V.frozen? ⟨w.heap.size+1+1,j,none⟩=false:=fun j=>by rw[←hV,World.frozen?_alloc_at _ _ _ _ (by simp)]
 have hwV:Below w.heap.size w V:=by rw[←hV];exact (((Below.refl _ w).alloc (Nat.le_refl _) _).alloc (by simp) _).alloc (by simp;omega) _
 have hglt:g<w1.heap.size:=hrow.lt
 have HV:=h_ (And.intro v1 (And.intro r0 (And.intro r1 r2)))
 have HV2:=h_ v2
 have HRF:=h_ rf
 have HWV:=h_ hwV
 have HB1:=h_ hb1
 have HG:=h_ hg
 have HVS:=h_ hVs
 have HR:=h_ (hrow.alloc (.cells #[.int .i64 r,.int .i64 c,.slice (some ⟨g,0,none⟩) n n] 28))
 clear v1 v2 r0 r1 r2 rf hwV hb1 hg hrow hVs
 go_wp2
 clear hV
 go_loopw [6] (fun a wr=>∃(i:Nat) (xi:Int),i≤n∧xi=(i:Int)∧a=.int .i64 xi∧RowAt 3 wr g (tab n (fillF (fun q=>ad ((ma.cells[q]?).getD 0) ((mb.cells[q]?).getD 0)) i))∧(w1.alloc (.cells #[.int .i64 r,.int .i64 c,.slice (some ⟨g,0,none⟩) n n] 28)).grownBy wr (some g)) (fun a _=>n - (intOf a).toNat)
 case atStart=>exact ⟨0,0,Nat.zero_le _,rfl,rfl,by rw[←fillF_zero];exact HR.out,World.grownBy.refl _ _⟩
 case round=>
  obtain ⟨i,xi,hi,hxi,rfl,hro,hgr⟩:=hrel
  have p2:=X_ hglt hgr (j:=2) rfl
  have HRO:=h_ hro
  have HGR:=h_ hgr
  have HXI:=h_ hxi
  have hxi0:0≤xi:=by omega
  have hxi1:xi≤576:=by omega
  clear hro hgr hxi
  by_cases hlt:xi<(n:Int)
  ·have hin:i<n:=by have:=HXI.out;omega
   have hxn:xi.toNat=i:=by have:=HXI.out;omega
   obtain ⟨x,hx⟩:∃x,ma.cells[i]?=some x:=⟨ma.cells[i]'(by have:=HLA.out;omega),List.getElem?_eq_getElem _⟩
   obtain ⟨aa,capa,hsva,_,_,h4a⟩:=HSA.out
   obtain ⟨b,off,rfl,hcla⟩:=h4a.resolve_left (fun e=>by rw[e]at hx;simp at hx)
   have cx:wr.cell? ⟨b,off+xi.toNat,none⟩=some (.int .i64 x):=by
    rw[hxn]
    have h0:=hcla _ _ hx
    exact k_ HB1.out HG.out HGR.out ((HWV.out.cell (p:=⟨b,off+i,none⟩) (World.block_lt_of_cell? w _ h0)).trans h0)
   obtain ⟨y,hy⟩:∃y,mb.cells[i]?=some y:=⟨mb.cells[i]'(by have:=HLB.out;omega),List.getElem?_eq_getElem _⟩
   obtain ⟨ab,capb,hsvb,_,_,h4b⟩:=HSB.out
   obtain ⟨b',off',rfl,hclb⟩:=h4b.resolve_left (fun e=>by rw[e]at hy;simp at hy)
   have cy:wr.cell? ⟨b',off'+xi.toNat,none⟩=some (.int .i64 y):=by
    rw[hxn]
    have h0:=hclb _ _ hy
    exact k_ HB1.out HG.out HGR.out ((HWV.out.cell (p:=⟨b',off'+i,none⟩) (World.block_lt_of_cell? w _ h0)).trans h0)
   have j3:=k_ HB1.out HG.out HGR.out HV2.out
   obtain ⟨u,dx⟩:∃u,wr.cell? ⟨g,xi.toNat,none⟩=some (.int .i64 u):=⟨_,by rw[hxn];exact HRO.out.cell (tab_at hin)⟩
   have fx:wr.frozen? ⟨g,xi.toNat,none⟩=false:=HRO.out.frozen _
   have j2:=k_ HB1.out HG.out HGR.out HV.out.1
   subst hsva hsvb
   rw[HLA.out]at j2
   rw[HLB.out]at j3
   have HX:=h_ hx
   have HY:=h_ hy
   have HXN:=h_ hxn
   have hw:fillF_ok (fun q=>ad ((ma.cells[q]?).getD 0) ((mb.cells[q]?).getD 0)) i (ad x y):=by unfold fillF_ok;simp only[HX.out,HY.out];rfl
   have HW:=h_ hw
   clear hcla h4a hx hclb h4b hy hxn hw
   go_wp2
   refine region_tail 15 (by kernel_rfl) (by kernel_rfl) ?_
   simp only[List.take_succ_cons,List.take_zero,List.drop_succ_cons,List.drop_zero]
   repeat still_step
   still_call (radd_any _ _ _)
   repeat still_step
   refine wpStill_nil ?_
   go_wp2
   exact ⟨⟨i+1,_,by omega,by have:=HXI.out;omega,rfl,by
    rw[HXN.out,←fillF_step _ i n _ HW.out]
    exact HRO.out.set i _,grown_drew (w_ HGR.out _ _)⟩,by have:=HXI.out;simp[intOf];omega⟩
  ·have hin:i=n:=by have:=HXI.out;omega
   have q0:=k_ HB1.out HG.out HGR.out HV.out.2.1
   have q1:=k_ HB1.out HG.out HGR.out HV.out.2.2.1
   have q2:=k_ HB1.out HG.out HGR.out HV.out.2.2.2
   have p0:=X_ hglt HGR.out (j:=0) rfl
   have p1:=X_ hglt HGR.out (j:=1) rfl
   have z0:=z_ HB1.out HG.out HGR.out (p:=⟨w.heap.size+1+1,0,none⟩) (by have:=HVS.out;simp;omega) (HRF.out 0)
   have z1:=z_ HB1.out HG.out HGR.out (p:=⟨w.heap.size+1+1,1,none⟩) (by have:=HVS.out;simp;omega) (HRF.out 1)
   have z2:=z_ HB1.out HG.out HGR.out (p:=⟨w.heap.size+1+1,2,none⟩) (by have:=HVS.out;simp;omega) (HRF.out 2)
   have HIN:=h_ hin
   clear hin
   have hgw:w.heap.size+1+1≠g:=by have:=HVS.out;have:=HG.out;omega
   go_wp2
   refine bodyPost_ret (v:=.agg #[.int .i64 r,.int .i64 c,.slice (some ⟨g,0,none⟩) n n]) (by simp[results,Tryz.results61,go_sem,q0,q1,q2]) rfl ⟨_,rfl,⟨.slice (some ⟨g,0,none⟩) n n,by rw[Hr.out,Hc.out],?_⟩,?_,fresh_at (by first|omega|(have:=HVS.out;have:=HG.out;omega)) _ _ _⟩
   ·have h:=HRO.out
    rw[HIN.out,fillF_end]at h
    show I_ _ _ (tab (R*C) _)
    rw[HN.out]
    exact (((h.other ⟨w.heap.size+1+1,0,none⟩ _ hgw.symm).other ⟨w.heap.size+1+1,1,none⟩ _ hgw.symm).other ⟨w.heap.size+1+1,2,none⟩ _ hgw.symm).isTab (by unfold maxLen;omega)
   ·exact (((keep_below HWV.out HB1.out HG.out HGR.out).setCell (by simp;omega) _).setCell (by simp;omega) _).setCell (by simp;omega) _
set_option maxHeartbeats 1600000 in
set_option maxRecDepth 100000 in
theorem rmattimes_any(va:Value)(ma:Mx)(k:Int)(R C:Nat)(w:World)(hva:M_ w va ma)(hr:ma.rows=(R:Int))(hc:ma.cols=(C:Int))(hR:R≤24)(hC:C≤24)(hla:ma.cells.length=R*C):
  Calls Tryz.prog 94 #[va,.int .i64 k] w fun e w'=>
  ∃v',e=.returned v'∧M_ w' v' ⟨R,C,tab (R*C) (fun q=>ml ((ma.cells[q]?).getD 0) k)⟩∧Below w.heap.size w w'∧F_ w.heap.size v':=by
 obtain ⟨sa,rfl,hsa⟩:=hva
 obtain ⟨r,er⟩:=gN (ma.rows)
 obtain ⟨c,ec⟩:=gN (ma.cols)
 obtain ⟨n,en⟩:=gN (R*C)
 have hRC:=Nat.mul_le_mul hR hC
 rw[er,ec]
 rw[er]at hr
 rw[ec]at hc
 have hb:=fun W=>blank_any r c n W (by rw[hr,hc,←en];simp) (by omega)
 have HB:=h_ hb
 have HSA:=h_ hsa
 have HLA:=h_ (hla.trans en)
 have Hr:=h_ hr
 have Hc:=h_ hc
 have HN:=h_ en
 have hnb:n≤576:=by omega
 clear hb hsa hla hr hc er ec en hRC
 go_enter Tryz.func94,Tryz.ntmps94
 go_wp2_with fail
 refine (HB.out _).mono ?_
 rintro e w1 ⟨g,rfl,hg,hrow,hb1⟩
 generalize hV:(w.alloc (.cells #[.int .i64 r,.int .i64 c,sa] 28)).alloc (.cells #[.int .i64 0,.int .i64 0,.slice none 0 0] 28)=V at*
 have hVs:V.heap.size=w.heap.size+1+1:=by rw[←hV];simp
 have v1:V.cell? ⟨w.heap.size,2,none⟩=some sa:=by rw[←hV];exact p_ (by simp) _
 have r0:V.cell? ⟨w.heap.size+1,0,none⟩=some (.int .i64 0):=by rw[←hV,World.cell?_alloc_at _ _ _ _ (by simp)];rfl
 have r1:V.cell? ⟨w.heap.size+1,1,none⟩=some (.int .i64 0):=by rw[←hV,World.cell?_alloc_at _ _ _ _ (by simp)];rfl
 have r2:V.cell? ⟨w.heap.size+1,2,none⟩=some (.slice none 0 0):=by rw[←hV,World.cell?_alloc_at _ _ _ _ (by simp)];rfl
 have rf:∀j,V.frozen? ⟨w.heap.size+1,j,none⟩=false:=fun j=>by rw[←hV,World.frozen?_alloc_at _ _ _ _ (by simp)]
 have hwV:Below w.heap.size w V:=by rw[←hV];exact ((Below.refl _ w).alloc (Nat.le_refl _) _).alloc (by simp) _
 have hglt:g<w1.heap.size:=hrow.lt
 have HV:=h_ (And.intro v1 (And.intro r0 (And.intro r1 r2)))
 have HRF:=h_ rf
 have HWV:=h_ hwV
 have HB1:=h_ hb1
 have HG:=h_ hg
 have HVS:=h_ hVs
 have HR:=h_ (hrow.alloc (.cells #[.int .i64 r,.int .i64 c,.slice (some ⟨g,0,none⟩) n n] 28))
 clear v1 r0 r1 r2 rf hwV hb1 hg hrow hVs
 go_wp2
 clear hV
 go_loopw [6] (fun a wr=>∃(i:Nat) (xi:Int),i≤n∧xi=(i:Int)∧a=.int .i64 xi∧RowAt 3 wr g (tab n (fillF (fun q=>ml ((ma.cells[q]?).getD 0) k) i))∧(w1.alloc (.cells #[.int .i64 r,.int .i64 c,.slice (some ⟨g,0,none⟩) n n] 28)).grownBy wr (some g)) (fun a _=>n - (intOf a).toNat)
 case atStart=>exact ⟨0,0,Nat.zero_le _,rfl,rfl,by rw[←fillF_zero];exact HR.out,World.grownBy.refl _ _⟩
 case round=>
  obtain ⟨i,xi,hi,hxi,rfl,hro,hgr⟩:=hrel
  have p2:=X_ hglt hgr (j:=2) rfl
  have HRO:=h_ hro
  have HGR:=h_ hgr
  have HXI:=h_ hxi
  have hxi0:0≤xi:=by omega
  have hxi1:xi≤576:=by omega
  clear hro hgr hxi
  by_cases hlt:xi<(n:Int)
  ·have hin:i<n:=by have:=HXI.out;omega
   have hxn:xi.toNat=i:=by have:=HXI.out;omega
   obtain ⟨x,hx⟩:∃x,ma.cells[i]?=some x:=⟨ma.cells[i]'(by have:=HLA.out;omega),List.getElem?_eq_getElem _⟩
   obtain ⟨aa,capa,hsva,_,_,h4a⟩:=HSA.out
   obtain ⟨b,off,rfl,hcla⟩:=h4a.resolve_left (fun e=>by rw[e]at hx;simp at hx)
   have cx:wr.cell? ⟨b,off+xi.toNat,none⟩=some (.int .i64 x):=by
    rw[hxn]
    have h0:=hcla _ _ hx
    exact k_ HB1.out HG.out HGR.out ((HWV.out.cell (p:=⟨b,off+i,none⟩) (World.block_lt_of_cell? w _ h0)).trans h0)
   obtain ⟨u,dx⟩:∃u,wr.cell? ⟨g,xi.toNat,none⟩=some (.int .i64 u):=⟨_,by rw[hxn];exact HRO.out.cell (tab_at hin)⟩
   have fx:wr.frozen? ⟨g,xi.toNat,none⟩=false:=HRO.out.frozen _
   have j2:=k_ HB1.out HG.out HGR.out HV.out.1
   subst hsva
   rw[HLA.out]at j2
   have HX:=h_ hx
   have HXN:=h_ hxn
   have hw:fillF_ok (fun q=>ml ((ma.cells[q]?).getD 0) k) i (ml x k):=by unfold fillF_ok;simp only[HX.out];rfl
   have HW:=h_ hw
   clear hcla h4a hx hxn hw
   go_wp2
   refine region_tail 11 (by kernel_rfl) (by kernel_rfl) ?_
   simp only[List.take_succ_cons,List.take_zero,List.drop_succ_cons,List.drop_zero]
   repeat still_step
   still_call (rmul_any _ _ _)
   repeat still_step
   refine wpStill_nil ?_
   go_wp2
   exact ⟨⟨i+1,_,by omega,by have:=HXI.out;omega,rfl,by
    rw[HXN.out,←fillF_step _ i n _ HW.out]
    exact HRO.out.set i _,grown_drew (w_ HGR.out _ _)⟩,by have:=HXI.out;simp[intOf];omega⟩
  ·have hin:i=n:=by have:=HXI.out;omega
   have q0:=k_ HB1.out HG.out HGR.out HV.out.2.1
   have q1:=k_ HB1.out HG.out HGR.out HV.out.2.2.1
   have q2:=k_ HB1.out HG.out HGR.out HV.out.2.2.2
   have p0:=X_ hglt HGR.out (j:=0) rfl
   have p1:=X_ hglt HGR.out (j:=1) rfl
   have z0:=z_ HB1.out HG.out HGR.out (p:=⟨w.heap.size+1,0,none⟩) (by have:=HVS.out;simp;omega) (HRF.out 0)
   have z1:=z_ HB1.out HG.out HGR.out (p:=⟨w.heap.size+1,1,none⟩) (by have:=HVS.out;simp;omega) (HRF.out 1)
   have z2:=z_ HB1.out HG.out HGR.out (p:=⟨w.heap.size+1,2,none⟩) (by have:=HVS.out;simp;omega) (HRF.out 2)
   have HIN:=h_ hin
   clear hin
   have hgw:w.heap.size+1≠g:=by have:=HVS.out;have:=HG.out;omega
   go_wp2
   refine bodyPost_ret (v:=.agg #[.int .i64 r,.int .i64 c,.slice (some ⟨g,0,none⟩) n n]) (by simp[results,Tryz.results94,go_sem,q0,q1,q2]) rfl ⟨_,rfl,⟨.slice (some ⟨g,0,none⟩) n n,by rw[Hr.out,Hc.out],?_⟩,?_,fresh_at (by first|omega|(have:=HVS.out;have:=HG.out;omega)) _ _ _⟩
   ·have h:=HRO.out
    rw[HIN.out,fillF_end]at h
    show I_ _ _ (tab (R*C) _)
    rw[HN.out]
    exact (((h.other ⟨w.heap.size+1,0,none⟩ _ hgw.symm).other ⟨w.heap.size+1,1,none⟩ _ hgw.symm).other ⟨w.heap.size+1,2,none⟩ _ hgw.symm).isTab (by unfold maxLen;omega)
   ·exact (((keep_below HWV.out HB1.out HG.out HGR.out).setCell (by simp) _).setCell (by simp) _).setCell (by simp) _
end Go.Proofs.YtniloklglpchfaeGreatDoor
