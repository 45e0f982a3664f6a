/- What MatRows of the document's answer comes to: some rows of a matrix. -/
import Derived.Test.YtniloklglpchfaeGreatDoorPkRTurn
import Derived.StillTailTactics
import Derived.Test.YtniloklglpchfaeGreatDoorPlain
import Derived.Test.YtniloklglpchfaeGreatDoorPkMOps1
import Derived.Test.YtniloklglpchfaeGreatDoorPkMOps
namespace Go.Proofs.YtniloklglpchfaeGreatDoor
open Go.RowKit
def rowsF (cs:List Int) (s i q:Nat):Int:=if q<i then (cs[s+q]?).getD 0 else 0
theorem rowsF_step(cs:List Int)(s i n:Nat)(x:Int)(hx:cs[s+i]?=some x):(tab n (rowsF cs s i)).set i x=tab n (rowsF cs s (i+1)):=by
 rw[tab_set]
 refine tab_congr (fun q _=>?_)
 unfold rowsF
 by_cases hq:q=i
 ·subst hq;rw[if_pos rfl,if_pos (by omega),hx];rfl
 ·rw[if_neg hq]
  by_cases h:q<i
  ·rw[if_pos h,if_pos (by omega)]
  ·rw[if_neg h,if_neg (by omega)]
theorem rowsF_zero(cs:List Int)(s n:Nat):tab n (fun _=>0)=tab n (rowsF cs s 0):=tab_congr (fun q _=>by unfold rowsF;rw[if_neg (by omega)])
theorem rowsF_end(cs:List Int)(s n:Nat):tab n (rowsF cs s n)=tab n (fun q=>(cs[s+q]?).getD 0):=tab_congr (fun q hq=>by unfold rowsF;rw[if_pos hq])
set_option maxHeartbeats 1600000 in
set_option maxRecDepth 100000 in
theorem rrows_any(v:Value)(m:Mx)(R C:Nat)(f t:Nat)(w:World)(hv:M_ w v m)(hc:m.cols=(C:Int))(hR:R<=24)(hC:C<=24)(hl:m.cells.length=R*C)(hft:f<=t)(htR:t<=R):
  Calls Tryz.prog 86 #[v,.int .i64 (f:Int),.int .i64 (t:Int)] w fun e w'=>
  ∃v',e=.returned v'/\M_ w' v' ⟨((t - f:Nat):Int),C,tab ((t - f)*C) (fun q=>(m.cells[f*C+q]?).getD 0)⟩/\Below w.heap.size w w'/\F_ w.heap.size v':=by
 obtain ⟨s,rfl,hs⟩:=hv
 obtain ⟨r,er⟩:=gN (m.rows)
 obtain ⟨c,ec⟩:=gN (m.cols)
 obtain ⟨n,en⟩:=gN ((t - f)*C)
 obtain ⟨xf,exf⟩:=gN ((f:Int))
 obtain ⟨xt,ext⟩:=gN ((t:Int))
 have hn1:n<=R*C - f*C:=by rw[<-en,<-Nat.sub_mul];exact Nat.mul_le_mul_right C (by omega)
 have hn2:f*C+n<=R*C:=by have:=Nat.mul_le_mul_right C (show f<=R by omega);omega
 have hRC:=Nat.mul_le_mul hR hC
 rw[er,ec,exf,ext]
 rw[ec]at hc
 have hb:=fun W=>blank_any (xt - xf) c n W (by rw[hc,<-en,<-exf,<-ext,<-Int.ofNat_sub hft];simp) (by omega)
 have HB:=h_ hb
 have HS:=h_ hs
 have HL:=h_ hl
 have Hc:=h_ hc
 have HN:=h_ en
 have HF:=h_ exf.symm
 have HT:=h_ ext.symm
 have HN2:=h_ hn2
 have hnb:n<=576:=by omega
 have hxf0:0<=xf:=by omega
 have hxt1:xt<=24:=by omega
 have hxft:xf<=xt:=by omega
 have tb:=mul_bds exf.symm hc (by omega) hC
 clear hb hs hl hc er ec en exf ext hn1 hn2 hRC
 go_enter Tryz.func86,Tryz.ntmps86
 go_wp2_with fail
 refine (HB.out _).mono ?_
 rintro e w1 ⟨g,rfl,hg,hrow,hb1⟩
 generalize hV:((w.alloc (.cells #[.int .i64 r,.int .i64 c,s] 28)).alloc (.cells #[.int .i64 0,.int .i64 0,.slice none 0 0] 28))=V at*
 have hVs:V.heap.size=w.heap.size+2:=by rw[<-hV];simp
 have v0:V.cell? ⟨w.heap.size,1,none⟩=some (.int .i64 c):=by rw[<-hV];exact p_ (by simp) _
 have v1:V.cell? ⟨w.heap.size,2,none⟩=some s:=by rw[<-hV];exact p_ (by simp) _
 have r0:V.cell? ⟨w.heap.size+1,0,none⟩=some (.int .i64 0):=by rw[<-hV];simp
 have r1:V.cell? ⟨w.heap.size+1,1,none⟩=some (.int .i64 0):=by rw[<-hV];simp
 have r2:V.cell? ⟨w.heap.size+1,2,none⟩=some (.slice none 0 0):=by rw[<-hV];simp
 have rf:∀j,V.frozen? ⟨w.heap.size+1,j,none⟩=false:=fun j=>by rw[<-hV];simp
 have hwV:Below w.heap.size w V:=by rw[<-hV];exact ((Below.refl _ w).alloc (Nat.le_refl _) _).alloc (by simp) _
 have hglt:g<w1.heap.size:=hrow.lt
 have HV:=h_ (And.intro v0 (And.intro v1 (And.intro r0 (And.intro r1 r2))))
 have HRF:=h_ rf
 have HWV:=h_ hwV
 have HB1:=h_ hb1
 have HG:=h_ hg
 have HVS:=h_ hVs
 have HR:=h_ (hrow.alloc (.cells #[.int .i64 (xt - xf),.int .i64 c,.slice (some ⟨g,0,none⟩) n n] 28))
 clear v0 v1 r0 r1 r2 rf hwV hb1 hg hrow hVs
 go_wp2
 clear hV
 go_loopw [8] (fun a wr=>∃(i:Nat) (xi:Int),i<=n/\xi=(i:Int)/\a=.int .i64 xi/\RowAt 3 wr g (tab n (rowsF m.cells (f*C) i))/\(w1.alloc (.cells #[.int .i64 (xt - xf),.int .i64 c,.slice (some ⟨g,0,none⟩) n n] 28)).grownBy wr (some g)) (fun a _=>n - (intOf a).toNat)
 case atStart=>exact ⟨0,0,Nat.zero_le _,rfl,rfl,by rw[<-rowsF_zero];exact HR.out,World.grownBy.refl _ _⟩
 case round=>
  obtain ⟨i,xi,hi,hxi,rfl,hro,hgr⟩:=hrel
  have p2:=X_ hglt hgr (j:=2) rfl
  have HRO:=h_ hro
  have HGR:=h_ hgr
  have HXI:=h_ hxi
  have hxi0:0<=xi:=by omega
  have hxi1:xi<=576:=by omega
  clear hro hgr hxi
  by_cases hlt:xi<(n:Int)
  ·obtain ⟨x,hx⟩:∃x,m.cells[f*C+i]?=some x:=⟨m.cells[f*C+i]'(by have:=HL.out;have:=HN2.out;have:=HXI.out;omega),List.getElem?_eq_getElem _⟩
   obtain ⟨aa,cap,hsv,_,_,h4⟩:=HS.out
   obtain ⟨b,off,rfl,hcl⟩:=h4.resolve_left (fun e=>by rw[e]at hx;simp at hx)
   have cx:wr.cell? ⟨b,off+(xf*c+xi).toNat,none⟩=some (.int .i64 x):=by
    rw[idx_nat HF.out HXI.out Hc.out]
    have h0:=hcl _ _ hx
    exact k_ HB1.out HG.out HGR.out ((HWV.out.cell (p:=⟨b,off+(f*C+i),none⟩) (World.block_lt_of_cell? w _ h0)).trans h0)
   have dx:∃y,wr.cell? ⟨g,xi.toNat,none⟩=some (.int .i64 y):=⟨_,by rw[show xi.toNat=i by have:=HXI.out;omega];exact HRO.out.cell (tab_at (by have:=HXI.out;omega))⟩
   obtain ⟨y,dx⟩:=dx
   have fx:wr.frozen? ⟨g,xi.toNat,none⟩=false:=HRO.out.frozen _
   have j1:=k_ HB1.out HG.out HGR.out HV.out.1
   have j2:=k_ HB1.out HG.out HGR.out HV.out.2.1
   subst hsv
   obtain ⟨N,hN⟩:=gN (m.cells.length)
   rw[hN]at j2
   have HX:=h_ hx
   have t3:xf*c+xi<(N:Int):=by rw[mul_cast_idx HF.out HXI.out Hc.out];have:=HL.out;have:=HN2.out;have:=HXI.out;omega
   have u1:=wrap_in (x:=xf*c) (by omega) (by omega)
   have u2:=wrap_in (x:=xf*c+xi) (by omega) (by omega)
   have g1:0<=xf*c+xi:=by omega
   clear hcl h4 hx hN
   go_wp2
   refine region_tail 14 (by kernel_rfl) (by kernel_rfl) ?_
   simp only[List.take_succ_cons,List.take_zero,List.drop_succ_cons,List.drop_zero]
   repeat still_step
   refine wpStill_nil ?_
   go_wp2
   exact ⟨⟨i+1,_,by have:=HXI.out;omega,by have:=HXI.out;omega,rfl,by
    rw[show xi.toNat=i by have:=HXI.out;omega,<-rowsF_step m.cells (f*C) i n x HX.out]
    exact HRO.out.set i x,grown_drew (w_ HGR.out _ _)⟩,by have:=HXI.out;simp[intOf];omega⟩
  ·have hin:i=n:=by have:=HXI.out;omega
   have q0:=k_ HB1.out HG.out HGR.out HV.out.2.2.1
   have q1:=k_ HB1.out HG.out HGR.out HV.out.2.2.2.1
   have q2:=k_ HB1.out HG.out HGR.out HV.out.2.2.2.2
   have p0:=X_ hglt HGR.out (j:=0) rfl
   have p1:=X_ hglt HGR.out (j:=1) rfl
   have z0:=z_ HB1.out HG.out HGR.out (p:=⟨w.heap.size+1,0,none⟩) (by have:=HVS.out;simp;omega) (HRF.out 0)
   have z1:=z_ HB1.out HG.out HGR.out (p:=⟨w.heap.size+1,1,none⟩) (by have:=HVS.out;simp;omega) (HRF.out 1)
   have z2:=z_ HB1.out HG.out HGR.out (p:=⟨w.heap.size+1,2,none⟩) (by have:=HVS.out;simp;omega) (HRF.out 2)
   have HIN:=h_ hin
   clear hin
   have hgw:w.heap.size+1≠g:=by have:=HVS.out;have:=HG.out;omega
   go_wp2
   refine bodyPost_ret (v:=.agg #[.int .i64 (xt - xf),.int .i64 c,.slice (some ⟨g,0,none⟩) n n]) (by simp[results,Tryz.results86,go_sem,q0,q1,q2]) rfl ⟨_,rfl,⟨.slice (some ⟨g,0,none⟩) n n,by rw[Hc.out,show ((t - f:Nat):Int)=xt - xf by have:=HF.out;have:=HT.out;omega],?_⟩,?_,fresh_at (by first|omega|(have:=HVS.out;have:=HG.out;omega)) _ _ _⟩
   ·have h:=HRO.out
    rw[HIN.out,rowsF_end]at h
    show I_ _ _ (tab ((t - f)*C) _)
    rw[HN.out]
    exact (((h.other ⟨w.heap.size+1,0,none⟩ _ hgw.symm).other ⟨w.heap.size+1,1,none⟩ _ hgw.symm).other ⟨w.heap.size+1,2,none⟩ _ hgw.symm).isTab (by unfold maxLen;omega)
   ·exact (((keep_below HWV.out HB1.out HG.out HGR.out).setCell (by simp) _).setCell (by simp) _).setCell (by simp) _
set_option maxHeartbeats 1600000 in
set_option maxRecDepth 100000 in
theorem rmatadd_any(va vb:Value)(ma mb:Mx)(R C:Nat)(w:World)(hva:M_ w va ma)(hvb:M_ w vb mb)(hr:ma.rows=(R:Int))(hc:ma.cols=(C:Int))(hR:R<=24)(hC:C<=24)(hla:ma.cells.length=R*C)(hlb:mb.cells.length=R*C):
  Calls Tryz.prog 61 #[va,vb] w fun e w'=>
  ∃v',e=.returned v'/\M_ w' v' ⟨R,C,tab (R*C) (fun q=>ad ((ma.cells[q]?).getD 0) ((mb.cells[q]?).getD 0))⟩/\Below w.heap.size w w'/\F_ w.heap.size v':=by
 obtain ⟨sa,rfl,hsa⟩:=hva
 obtain ⟨sb,rfl,hsb⟩:=hvb
 obtain ⟨r',er'⟩:=gN (mb.rows)
 obtain ⟨c',ec'⟩:=gN (mb.cols)
 obtain ⟨r,er⟩:=gN (ma.rows)
 obtain ⟨c,ec⟩:=gN (ma.cols)
 obtain ⟨n,en⟩:=gN (R*C)
 have hRC:=Nat.mul_le_mul hR hC
 rw[er,ec,er',ec']
 rw[er]at hr
 rw[ec]at hc
 have hb:=fun W=>blank_any r c n W (by rw[hr,hc,<-en];simp) (by omega)
 have HB:=h_ hb
 have HSA:=h_ hsa
 have HLA:=h_ (hla.trans en)
 have HSB:=h_ hsb
 have HLB:=h_ (hlb.trans en)
 have Hr:=h_ hr
 have Hc:=h_ hc
 have HN:=h_ en
 have hnb:n<=576:=by omega
 clear hb hsa hla hsb hlb er' ec' hr hc er ec en hRC
 go_enter Tryz.func61,Tryz.ntmps61
 go_wp2_with fail
 refine (HB.out _).mono ?_
 rintro e w1 ⟨g,rfl,hg,hrow,hb1⟩
 generalize hV:((w.alloc (.cells #[.int .i64 r,.int .i64 c,sa] 28)).alloc (.cells #[.int .i64 r',.int .i64 c',sb] 28)).alloc (.cells #[.int .i64 0,.int .i64 0,.slice none 0 0] 28)=V at*
 have hVs:V.heap.size=w.heap.size+1+1+1:=by rw[<-hV];simp
 have v1:V.cell? ⟨w.heap.size,2,none⟩=some sa:=by rw[<-hV];exact p_ (p_ (by simp) _) _
 have v2:V.cell? ⟨w.heap.size+1,2,none⟩=some sb:=by rw[<-hV];exact p_ (by simp) _
 have r0:V.cell? ⟨w.heap.size+1+1,0,none⟩=some (.int .i64 0):=by rw[<-hV,World.cell?_alloc_at _ _ _ _ (by simp)];rfl
 have r1:V.cell? ⟨w.heap.size+1+1,1,none⟩=some (.int .i64 0):=by rw[<-hV,World.cell?_alloc_at _ _ _ _ (by simp)];rfl
 have r2:V.cell? ⟨w.heap.size+1+1,2,none⟩=some (.slice none 0 0):=by rw[<-hV,World.cell?_alloc_at _ _ _ _ (by simp)];rfl
 have rf:∀j,V.frozen? ⟨w.heap.size+1+1,j,none⟩=false:=fun j=>by rw[<-hV,World.frozen?_alloc_at _ _ _ _ (by simp)]
 have hwV:Below w.heap.size w V:=by rw[<-hV];exact (((Below.refl _ w).alloc (Nat.le_refl _) _).alloc (by simp) _).alloc (by simp;omega) _
 have hglt:g<w1.heap.size:=hrow.lt
 have HV:=h_ (And.intro v1 (And.intro r0 (And.intro r1 r2)))
 have HV2:=h_ v2
 have HRF:=h_ rf
 have HWV:=h_ hwV
 have HB1:=h_ hb1
 have HG:=h_ hg
 have HVS:=h_ hVs
 have HR:=h_ (hrow.alloc (.cells #[.int .i64 r,.int .i64 c,.slice (some ⟨g,0,none⟩) n n] 28))
 clear v1 v2 r0 r1 r2 rf hwV hb1 hg hrow hVs
 go_wp2
 clear hV
 go_loopw [6] (fun a wr=>∃(i:Nat) (xi:Int),i<=n/\xi=(i:Int)/\a=.int .i64 xi/\RowAt 3 wr g (tab n (fillF (fun q=>ad ((ma.cells[q]?).getD 0) ((mb.cells[q]?).getD 0)) i))/\(w1.alloc (.cells #[.int .i64 r,.int .i64 c,.slice (some ⟨g,0,none⟩) n n] 28)).grownBy wr (some g)) (fun a _=>n - (intOf a).toNat)
 case atStart=>exact ⟨0,0,Nat.zero_le _,rfl,rfl,by rw[<-fillF_zero];exact HR.out,World.grownBy.refl _ _⟩
 case round=>
  obtain ⟨i,xi,hi,hxi,rfl,hro,hgr⟩:=hrel
  have p2:=X_ hglt hgr (j:=2) rfl
  have HRO:=h_ hro
  have HGR:=h_ hgr
  have HXI:=h_ hxi
  have hxi0:0<=xi:=by omega
  have hxi1:xi<=576:=by omega
  clear hro hgr hxi
  by_cases hlt:xi<(n:Int)
  ·have hin:i<n:=by have:=HXI.out;omega
   have hxn:xi.toNat=i:=by have:=HXI.out;omega
   obtain ⟨x,hx⟩:∃x,ma.cells[i]?=some x:=⟨ma.cells[i]'(by have:=HLA.out;omega),List.getElem?_eq_getElem _⟩
   obtain ⟨aa,capa,hsva,_,_,h4a⟩:=HSA.out
   obtain ⟨b,off,rfl,hcla⟩:=h4a.resolve_left (fun e=>by rw[e]at hx;simp at hx)
   have cx:wr.cell? ⟨b,off+xi.toNat,none⟩=some (.int .i64 x):=by
    rw[hxn]
    have h0:=hcla _ _ hx
    exact k_ HB1.out HG.out HGR.out ((HWV.out.cell (p:=⟨b,off+i,none⟩) (World.block_lt_of_cell? w _ h0)).trans h0)
   obtain ⟨y,hy⟩:∃y,mb.cells[i]?=some y:=⟨mb.cells[i]'(by have:=HLB.out;omega),List.getElem?_eq_getElem _⟩
   obtain ⟨ab,capb,hsvb,_,_,h4b⟩:=HSB.out
   obtain ⟨b',off',rfl,hclb⟩:=h4b.resolve_left (fun e=>by rw[e]at hy;simp at hy)
   have cy:wr.cell? ⟨b',off'+xi.toNat,none⟩=some (.int .i64 y):=by
    rw[hxn]
    have h0:=hclb _ _ hy
    exact k_ HB1.out HG.out HGR.out ((HWV.out.cell (p:=⟨b',off'+i,none⟩) (World.block_lt_of_cell? w _ h0)).trans h0)
   have j3:=k_ HB1.out HG.out HGR.out HV2.out
   obtain ⟨u,dx⟩:∃u,wr.cell? ⟨g,xi.toNat,none⟩=some (.int .i64 u):=⟨_,by rw[hxn];exact HRO.out.cell (tab_at hin)⟩
   have fx:wr.frozen? ⟨g,xi.toNat,none⟩=false:=HRO.out.frozen _
   have j2:=k_ HB1.out HG.out HGR.out HV.out.1
   subst hsva hsvb
   rw[HLA.out]at j2
   rw[HLB.out]at j3
   have HX:=h_ hx
   have HY:=h_ hy
   have HXN:=h_ hxn
   have hw:fillF_ok (fun q=>ad ((ma.cells[q]?).getD 0) ((mb.cells[q]?).getD 0)) i (ad x y):=by unfold fillF_ok;simp only[HX.out,HY.out];rfl
   have HW:=h_ hw
   clear hcla h4a hx hclb h4b hy hxn hw
   go_wp2
   refine region_tail 15 (by kernel_rfl) (by kernel_rfl) ?_
   simp only[List.take_succ_cons,List.take_zero,List.drop_succ_cons,List.drop_zero]
   repeat still_step
   still_call (radd_any _ _ _)
   repeat still_step
   refine wpStill_nil ?_
   go_wp2
   exact ⟨⟨i+1,_,by omega,by have:=HXI.out;omega,rfl,by
    rw[HXN.out,<-fillF_step _ i n _ HW.out]
    exact HRO.out.set i _,grown_drew (w_ HGR.out _ _)⟩,by have:=HXI.out;simp[intOf];omega⟩
  ·have hin:i=n:=by have:=HXI.out;omega
   have q0:=k_ HB1.out HG.out HGR.out HV.out.2.1
   have q1:=k_ HB1.out HG.out HGR.out HV.out.2.2.1
   have q2:=k_ HB1.out HG.out HGR.out HV.out.2.2.2
   have p0:=X_ hglt HGR.out (j:=0) rfl
   have p1:=X_ hglt HGR.out (j:=1) rfl
   have z0:=z_ HB1.out HG.out HGR.out (p:=⟨w.heap.size+1+1,0,none⟩) (by have:=HVS.out;simp;omega) (HRF.out 0)
   have z1:=z_ HB1.out HG.out HGR.out (p:=⟨w.heap.size+1+1,1,none⟩) (by have:=HVS.out;simp;omega) (HRF.out 1)
   have z2:=z_ HB1.out HG.out HGR.out (p:=⟨w.heap.size+1+1,2,none⟩) (by have:=HVS.out;simp;omega) (HRF.out 2)
   have HIN:=h_ hin
   clear hin
   have hgw:w.heap.size+1+1≠g:=by have:=HVS.out;have:=HG.out;omega
   go_wp2
   refine bodyPost_ret (v:=.agg #[.int .i64 r,.int .i64 c,.slice (some ⟨g,0,none⟩) n n]) (by simp[results,Tryz.results61,go_sem,q0,q1,q2]) rfl ⟨_,rfl,⟨.slice (some ⟨g,0,none⟩) n n,by rw[Hr.out,Hc.out],?_⟩,?_,fresh_at (by first|omega|(have:=HVS.out;have:=HG.out;omega)) _ _ _⟩
   ·have h:=HRO.out
    rw[HIN.out,fillF_end]at h
    show I_ _ _ (tab (R*C) _)
    rw[HN.out]
    exact (((h.other ⟨w.heap.size+1+1,0,none⟩ _ hgw.symm).other ⟨w.heap.size+1+1,1,none⟩ _ hgw.symm).other ⟨w.heap.size+1+1,2,none⟩ _ hgw.symm).isTab (by unfold maxLen;omega)
   ·exact (((keep_below HWV.out HB1.out HG.out HGR.out).setCell (by simp;omega) _).setCell (by simp;omega) _).setCell (by simp;omega) _
set_option maxHeartbeats 1600000 in
set_option maxRecDepth 100000 in
theorem rmattimes_any(va:Value)(ma:Mx)(k:Int)(R C:Nat)(w:World)(hva:M_ w va ma)(hr:ma.rows=(R:Int))(hc:ma.cols=(C:Int))(hR:R<=24)(hC:C<=24)(hla:ma.cells.length=R*C):
  Calls Tryz.prog 94 #[va,.int .i64 k] w fun e w'=>
  ∃v',e=.returned v'/\M_ w' v' ⟨R,C,tab (R*C) (fun q=>ml ((ma.cells[q]?).getD 0) k)⟩/\Below w.heap.size w w'/\F_ w.heap.size v':=by
 obtain ⟨sa,rfl,hsa⟩:=hva
 obtain ⟨r,er⟩:=gN (ma.rows)
 obtain ⟨c,ec⟩:=gN (ma.cols)
 obtain ⟨n,en⟩:=gN (R*C)
 have hRC:=Nat.mul_le_mul hR hC
 rw[er,ec]
 rw[er]at hr
 rw[ec]at hc
 have hb:=fun W=>blank_any r c n W (by rw[hr,hc,<-en];simp) (by omega)
 have HB:=h_ hb
 have HSA:=h_ hsa
 have HLA:=h_ (hla.trans en)
 have Hr:=h_ hr
 have Hc:=h_ hc
 have HN:=h_ en
 have hnb:n<=576:=by omega
 clear hb hsa hla hr hc er ec en hRC
 go_enter Tryz.func94,Tryz.ntmps94
 go_wp2_with fail
 refine (HB.out _).mono ?_
 rintro e w1 ⟨g,rfl,hg,hrow,hb1⟩
 generalize hV:(w.alloc (.cells #[.int .i64 r,.int .i64 c,sa] 28)).alloc (.cells #[.int .i64 0,.int .i64 0,.slice none 0 0] 28)=V at*
 have hVs:V.heap.size=w.heap.size+1+1:=by rw[<-hV];simp
 have v1:V.cell? ⟨w.heap.size,2,none⟩=some sa:=by rw[<-hV];exact p_ (by simp) _
 have r0:V.cell? ⟨w.heap.size+1,0,none⟩=some (.int .i64 0):=by rw[<-hV,World.cell?_alloc_at _ _ _ _ (by simp)];rfl
 have r1:V.cell? ⟨w.heap.size+1,1,none⟩=some (.int .i64 0):=by rw[<-hV,World.cell?_alloc_at _ _ _ _ (by simp)];rfl
 have r2:V.cell? ⟨w.heap.size+1,2,none⟩=some (.slice none 0 0):=by rw[<-hV,World.cell?_alloc_at _ _ _ _ (by simp)];rfl
 have rf:∀j,V.frozen? ⟨w.heap.size+1,j,none⟩=false:=fun j=>by rw[<-hV,World.frozen?_alloc_at _ _ _ _ (by simp)]
 have hwV:Below w.heap.size w V:=by rw[<-hV];exact ((Below.refl _ w).alloc (Nat.le_refl _) _).alloc (by simp) _
 have hglt:g<w1.heap.size:=hrow.lt
 have HV:=h_ (And.intro v1 (And.intro r0 (And.intro r1 r2)))
 have HRF:=h_ rf
 have HWV:=h_ hwV
 have HB1:=h_ hb1
 have HG:=h_ hg
 have HVS:=h_ hVs
 have HR:=h_ (hrow.alloc (.cells #[.int .i64 r,.int .i64 c,.slice (some ⟨g,0,none⟩) n n] 28))
 clear v1 r0 r1 r2 rf hwV hb1 hg hrow hVs
 go_wp2
 clear hV
 go_loopw [6] (fun a wr=>∃(i:Nat) (xi:Int),i<=n/\xi=(i:Int)/\a=.int .i64 xi/\RowAt 3 wr g (tab n (fillF (fun q=>ml ((ma.cells[q]?).getD 0) k) i))/\(w1.alloc (.cells #[.int .i64 r,.int .i64 c,.slice (some ⟨g,0,none⟩) n n] 28)).grownBy wr (some g)) (fun a _=>n - (intOf a).toNat)
 case atStart=>exact ⟨0,0,Nat.zero_le _,rfl,rfl,by rw[<-fillF_zero];exact HR.out,World.grownBy.refl _ _⟩
 case round=>
  obtain ⟨i,xi,hi,hxi,rfl,hro,hgr⟩:=hrel
  have p2:=X_ hglt hgr (j:=2) rfl
  have HRO:=h_ hro
  have HGR:=h_ hgr
  have HXI:=h_ hxi
  have hxi0:0<=xi:=by omega
  have hxi1:xi<=576:=by omega
  clear hro hgr hxi
  by_cases hlt:xi<(n:Int)
  ·have hin:i<n:=by have:=HXI.out;omega
   have hxn:xi.toNat=i:=by have:=HXI.out;omega
   obtain ⟨x,hx⟩:∃x,ma.cells[i]?=some x:=⟨ma.cells[i]'(by have:=HLA.out;omega),List.getElem?_eq_getElem _⟩
   obtain ⟨aa,capa,hsva,_,_,h4a⟩:=HSA.out
   obtain ⟨b,off,rfl,hcla⟩:=h4a.resolve_left (fun e=>by rw[e]at hx;simp at hx)
   have cx:wr.cell? ⟨b,off+xi.toNat,none⟩=some (.int .i64 x):=by
    rw[hxn]
    have h0:=hcla _ _ hx
    exact k_ HB1.out HG.out HGR.out ((HWV.out.cell (p:=⟨b,off+i,none⟩) (World.block_lt_of_cell? w _ h0)).trans h0)
   obtain ⟨u,dx⟩:∃u,wr.cell? ⟨g,xi.toNat,none⟩=some (.int .i64 u):=⟨_,by rw[hxn];exact HRO.out.cell (tab_at hin)⟩
   have fx:wr.frozen? ⟨g,xi.toNat,none⟩=false:=HRO.out.frozen _
   have j2:=k_ HB1.out HG.out HGR.out HV.out.1
   subst hsva
   rw[HLA.out]at j2
   have HX:=h_ hx
   have HXN:=h_ hxn
   have hw:fillF_ok (fun q=>ml ((ma.cells[q]?).getD 0) k) i (ml x k):=by unfold fillF_ok;simp only[HX.out];rfl
   have HW:=h_ hw
   clear hcla h4a hx hxn hw
   go_wp2
   refine region_tail 11 (by kernel_rfl) (by kernel_rfl) ?_
   simp only[List.take_succ_cons,List.take_zero,List.drop_succ_cons,List.drop_zero]
   repeat still_step
   still_call (rmul_any _ _ _)
   repeat still_step
   refine wpStill_nil ?_
   go_wp2
   exact ⟨⟨i+1,_,by omega,by have:=HXI.out;omega,rfl,by
    rw[HXN.out,<-fillF_step _ i n _ HW.out]
    exact HRO.out.set i _,grown_drew (w_ HGR.out _ _)⟩,by have:=HXI.out;simp[intOf];omega⟩
  ·have hin:i=n:=by have:=HXI.out;omega
   have q0:=k_ HB1.out HG.out HGR.out HV.out.2.1
   have q1:=k_ HB1.out HG.out HGR.out HV.out.2.2.1
   have q2:=k_ HB1.out HG.out HGR.out HV.out.2.2.2
   have p0:=X_ hglt HGR.out (j:=0) rfl
   have p1:=X_ hglt HGR.out (j:=1) rfl
   have z0:=z_ HB1.out HG.out HGR.out (p:=⟨w.heap.size+1,0,none⟩) (by have:=HVS.out;simp;omega) (HRF.out 0)
   have z1:=z_ HB1.out HG.out HGR.out (p:=⟨w.heap.size+1,1,none⟩) (by have:=HVS.out;simp;omega) (HRF.out 1)
   have z2:=z_ HB1.out HG.out HGR.out (p:=⟨w.heap.size+1,2,none⟩) (by have:=HVS.out;simp;omega) (HRF.out 2)
   have HIN:=h_ hin
   clear hin
   have hgw:w.heap.size+1≠g:=by have:=HVS.out;have:=HG.out;omega
   go_wp2
   refine bodyPost_ret (v:=.agg #[.int .i64 r,.int .i64 c,.slice (some ⟨g,0,none⟩) n n]) (by simp[results,Tryz.results94,go_sem,q0,q1,q2]) rfl ⟨_,rfl,⟨.slice (some ⟨g,0,none⟩) n n,by rw[Hr.out,Hc.out],?_⟩,?_,fresh_at (by first|omega|(have:=HVS.out;have:=HG.out;omega)) _ _ _⟩
   ·have h:=HRO.out
    rw[HIN.out,fillF_end]at h
    show I_ _ _ (tab (R*C) _)
    rw[HN.out]
    exact (((h.other ⟨w.heap.size+1,0,none⟩ _ hgw.symm).other ⟨w.heap.size+1,1,none⟩ _ hgw.symm).other ⟨w.heap.size+1,2,none⟩ _ hgw.symm).isTab (by unfold maxLen;omega)
   ·exact (((keep_below HWV.out HB1.out HG.out HGR.out).setCell (by simp) _).setCell (by simp) _).setCell (by simp) _
def sumF (cs:List Int) (C i q:Nat):Int:=colS cs C q (if q<i % C then i / C+1 else i / C)
theorem next_at{C i:Nat}(hC:0<C):(i % C+1<C/\(i+1) % C=i % C+1/\(i+1) / C=i / C)\/(i % C+1=C/\(i+1) % C=0/\(i+1) / C=i / C+1):=by
 have hd:=Nat.div_add_mod i C
 have hm:=Nat.mod_lt i hC
 by_cases h:i % C+1<C
 ·left
  have e:i+1=(i / C)*C+(i % C+1):=by rw[Nat.mul_comm];omega
  refine ⟨h,?_,?_⟩
  ·rw[e,Nat.add_comm,Nat.add_mul_mod_self_right,Nat.mod_eq_of_lt h]
  ·rw[e,Nat.add_comm,Nat.add_mul_div_right _ _ hC,Nat.div_eq_of_lt h,Nat.zero_add]
 ·right
  have h':i % C+1=C:=by omega
  have e:i+1=(i / C+1)*C:=by rw[Nat.add_mul,Nat.one_mul,Nat.mul_comm];omega
  refine ⟨h',?_,?_⟩
  ·rw[e];exact Nat.mul_mod_left _ _
  ·rw[e];exact Nat.mul_div_cancel _ hC
theorem sumF_at(cs:List Int)(C i:Nat):sumF cs C i (i % C)=colS cs C (i % C) (i / C):=by unfold sumF;rw[if_neg (by omega)]
theorem sumF_step(cs:List Int)(C i:Nat)(hC:0<C)(x:Int)(hx:cs[i]?=some x):(tab C (sumF cs C i)).set (i % C) (ad (colS cs C (i % C) (i / C)) x)=tab C (sumF cs C (i+1)):=by
 rw[tab_set]
 refine tab_congr (fun q hq=>?_)
 have hd:=Nat.div_add_mod i C
 have hix:(i / C)*C+i % C=i:=by rw[Nat.mul_comm];exact hd
 by_cases h:q=i % C
 ·rw[if_pos h]
  have e:ad (colS cs C (i % C) (i / C)) x=colS cs C (i % C) (i / C+1):=by rw[colS,hix,hx];rfl
  rw[e,h]
  unfold sumF
  rcases next_at (i:=i) hC with ⟨_,e1,e2⟩|⟨_,e1,e2⟩
  ·rw[e1,e2,if_pos (by omega)]
  ·rw[e1,e2,if_neg (by omega)]
 ·rw[if_neg h]
  unfold sumF
  rcases next_at (i:=i) hC with ⟨e0,e1,e2⟩|⟨e0,e1,e2⟩
  ·rw[e1,e2]
   generalize i % C=a at*
   by_cases k:q<a
   ·rw[if_pos k,if_pos (by omega)]
   ·rw[if_neg k,if_neg (by omega)]
  ·rw[e1,e2]
   generalize i % C=a at*
   rw[if_pos (by omega),if_neg (by omega)]
theorem sumF_zero(cs:List Int)(C:Nat):tab C (fun _=>0)=tab C (sumF cs C 0):=tab_congr (fun q _=>by unfold sumF;rw[Nat.zero_mod,Nat.zero_div,if_neg (by omega),colS])
theorem sumF_end(cs:List Int)(C R:Nat)(hC:0<C):tab C (sumF cs C (R*C))=tab C (fun q=>colS cs C q R):=tab_congr (fun q _=>by
 unfold sumF;rw[Nat.mul_mod_left,Nat.mul_div_cancel _ hC,if_neg (by omega)])
set_option maxHeartbeats 1600000 in
set_option maxRecDepth 100000 in
theorem rsums_any(va:Value)(ma:Mx)(R C:Nat)(w:World)(hva:M_ w va ma)(hc:ma.cols=(C:Int))(hR:R<=24)(hC:C<=24)(hla:ma.cells.length=R*C):
  Calls Tryz.prog 113 #[va] w fun e w'=>
  ∃v',e=.returned v'/\M_ w' v' ⟨1,C,tab C (fun q=>colS ma.cells C q R)⟩/\Below w.heap.size w w'/\F_ w.heap.size v':=by
 obtain ⟨sa,rfl,hsa⟩:=hva
 obtain ⟨r,er⟩:=gN (ma.rows)
 obtain ⟨c,ec⟩:=gN (ma.cols)
 obtain ⟨n,en⟩:=gN (C)
 obtain ⟨L,eL⟩:=gN (ma.cells.length)
 have hRC:=Nat.mul_le_mul hR hC
 rw[er,ec]
 rw[ec]at hc
 have hb:=fun W=>blank_any 1 c n W (by rw[hc,<-en];simp) (by omega)
 have HB:=h_ hb
 have HSA:=h_ hsa
 have HLA:=h_ eL
 have HLR:=h_ (eL.symm.trans hla)
 have Hc:=h_ hc
 have HN:=h_ en
 have hnb:n<=24:=by omega
 have hLb:L<=576:=by omega
 have hc0:0<=c:=by omega
 have hc1:c<=24:=by omega
 clear hb hsa hla hc er ec en hRC eL
 go_enter Tryz.func113,Tryz.ntmps113
 go_wp2_with fail
 refine (HB.out _).mono ?_
 rintro e w1 ⟨g,rfl,hg,hrow,hb1⟩
 generalize hV:(w.alloc (.cells #[.int .i64 r,.int .i64 c,sa] 28)).alloc (.cells #[.int .i64 0,.int .i64 0,.slice none 0 0] 28)=V at*
 have hVs:V.heap.size=w.heap.size+1+1:=by rw[<-hV];simp
 have v0:V.cell? ⟨w.heap.size,1,none⟩=some (.int .i64 c):=by rw[<-hV];exact p_ (by simp) _
 have v1:V.cell? ⟨w.heap.size,2,none⟩=some sa:=by rw[<-hV];exact p_ (by simp) _
 have r0:V.cell? ⟨w.heap.size+1,0,none⟩=some (.int .i64 0):=by rw[<-hV,World.cell?_alloc_at _ _ _ _ (by simp)];rfl
 have r1:V.cell? ⟨w.heap.size+1,1,none⟩=some (.int .i64 0):=by rw[<-hV,World.cell?_alloc_at _ _ _ _ (by simp)];rfl
 have r2:V.cell? ⟨w.heap.size+1,2,none⟩=some (.slice none 0 0):=by rw[<-hV,World.cell?_alloc_at _ _ _ _ (by simp)];rfl
 have rf:∀j,V.frozen? ⟨w.heap.size+1,j,none⟩=false:=fun j=>by rw[<-hV,World.frozen?_alloc_at _ _ _ _ (by simp)]
 have hwV:Below w.heap.size w V:=by rw[<-hV];exact ((Below.refl _ w).alloc (Nat.le_refl _) _).alloc (by simp) _
 have hglt:g<w1.heap.size:=hrow.lt
 have HV:=h_ (And.intro v1 (And.intro r0 (And.intro r1 r2)))
 have HV0:=h_ v0
 have HRF:=h_ rf
 have HWV:=h_ hwV
 have HB1:=h_ hb1
 have HG:=h_ hg
 have HVS:=h_ hVs
 have HR:=h_ (hrow.alloc (.cells #[.int .i64 1,.int .i64 c,.slice (some ⟨g,0,none⟩) n n] 28))
 clear v0 v1 r0 r1 r2 rf hwV hb1 hg hrow hVs
 go_wp2
 clear hV
 go_loopw [4] (fun a wr=>∃(i:Nat) (xi:Int),i<=L/\xi=(i:Int)/\a=.int .i64 xi/\RowAt 3 wr g (tab n (sumF ma.cells n i))/\(w1.alloc (.cells #[.int .i64 1,.int .i64 c,.slice (some ⟨g,0,none⟩) n n] 28)).grownBy wr (some g)) (fun a _=>L - (intOf a).toNat)
 case atStart=>exact ⟨0,0,Nat.zero_le _,rfl,rfl,by rw[<-sumF_zero];exact HR.out,World.grownBy.refl _ _⟩
 case round=>
  obtain ⟨i,xi,hi,hxi,rfl,hro,hgr⟩:=hrel
  have p2:=X_ hglt hgr (j:=2) rfl
  have HRO:=h_ hro
  have HGR:=h_ hgr
  have HXI:=h_ hxi
  have hxi0:0<=xi:=by omega
  have hxi1:xi<=576:=by omega
  obtain ⟨aa,capa,hsva,_,_,h4a⟩:=HSA.out
  have j2:=k_ HB1.out HG.out HGR.out HV.out.1
  have j1:=k_ HB1.out HG.out HGR.out HV0.out
  subst hsva
  rw[HLA.out]at j2
  clear hro hgr hxi
  by_cases hlt:xi<(L:Int)
  ·have hin:i<L:=by have:=HXI.out;omega
   have hxn:xi.toNat=i:=by have:=HXI.out;omega
   have hn0:0<n:=by
    rcases Nat.eq_zero_or_pos n with h|h
    ·have h1:=HLR.out;rw[HN.out,h,Nat.mul_zero]at h1;omega
    ·exact h
   have hcn:c=(n:Int):=by have:=Hc.out;have:=HN.out;omega
   have hcp:0<c:=by omega
   obtain ⟨x,hx⟩:∃x,ma.cells[i]?=some x:=⟨ma.cells[i]'(by have:=HLA.out;omega),List.getElem?_eq_getElem _⟩
   obtain ⟨b,off,rfl,hcla⟩:=h4a.resolve_left (fun e=>by rw[e]at hx;simp at hx)
   have cx:wr.cell? ⟨b,off+xi.toNat,none⟩=some (.int .i64 x):=by
    rw[hxn]
    have h0:=hcla _ _ hx
    exact k_ HB1.out HG.out HGR.out ((HWV.out.cell (p:=⟨b,off+i,none⟩) (World.block_lt_of_cell? w _ h0)).trans h0)
   obtain ⟨y,hy⟩:∃y:Int,xi % c=y:=⟨_,rfl⟩
   have hyi:y=((i % n:Nat):Int):=by rw[<-hy,HXI.out,hcn];simp
   have hy0:0<=y:=by omega
   have hyn:y.toNat=i % n:=by omega
   have hyl:y<(n:Int):=by have:=Nat.mod_lt i hn0;omega
   obtain ⟨z,hz⟩:=gN (colS ma.cells n (i % n) (i / n))
   have dx:wr.cell? ⟨g,y.toNat,none⟩=some (.int .i64 z):=by
    rw[hyn,<-hz,<-sumF_at]
    exact HRO.out.cell (tab_at (Nat.mod_lt i hn0))
   have fx:wr.frozen? ⟨g,y.toNat,none⟩=false:=HRO.out.frozen _
   have HX:=h_ hx
   have HXN:=h_ hxn
   have HYN:=h_ hyn
   have HZZ:=h_ hz
   have HCN:=h_ hcn
   clear hcla h4a hx hxn hcn hyi hyn hz
   go_wp2
   rw[hy]
   refine region_tail 15 (by kernel_rfl) (by kernel_rfl) ?_
   simp only[List.take_succ_cons,List.take_zero,List.drop_succ_cons,List.drop_zero]
   repeat still_step
   still_call (radd_any _ _ _)
   repeat still_step
   refine wpStill_nil ?_
   go_wp2
   exact ⟨⟨i+1,_,by omega,by have:=HXI.out;omega,rfl,by
    rw[HYN.out,<-sumF_step _ _ i hn0 _ HX.out,HZZ.out]
    exact HRO.out.set (i % n) _,grown_drew (w_ HGR.out _ _)⟩,by have:=HXI.out;simp[intOf];omega⟩
  ·have hin:i=L:=by have:=HXI.out;omega
   have q0:=k_ HB1.out HG.out HGR.out HV.out.2.1
   have q1:=k_ HB1.out HG.out HGR.out HV.out.2.2.1
   have q2:=k_ HB1.out HG.out HGR.out HV.out.2.2.2
   have p0:=X_ hglt HGR.out (j:=0) rfl
   have p1:=X_ hglt HGR.out (j:=1) rfl
   have z0:=z_ HB1.out HG.out HGR.out (p:=⟨w.heap.size+1,0,none⟩) (by have:=HVS.out;simp;omega) (HRF.out 0)
   have z1:=z_ HB1.out HG.out HGR.out (p:=⟨w.heap.size+1,1,none⟩) (by have:=HVS.out;simp;omega) (HRF.out 1)
   have z2:=z_ HB1.out HG.out HGR.out (p:=⟨w.heap.size+1,2,none⟩) (by have:=HVS.out;simp;omega) (HRF.out 2)
   have HIN:=h_ hin
   clear hin h4a
   have hgw:w.heap.size+1≠g:=by have:=HVS.out;have:=HG.out;omega
   go_wp2
   refine bodyPost_ret (v:=.agg #[.int .i64 1,.int .i64 c,.slice (some ⟨g,0,none⟩) n n]) (by simp[results,Tryz.results113,go_sem,q0,q1,q2]) rfl ⟨_,rfl,⟨.slice (some ⟨g,0,none⟩) n n,by rw[Hc.out],?_⟩,?_,fresh_at (by first|omega|(have:=HVS.out;have:=HG.out;omega)) _ _ _⟩
   ·have h:=HRO.out
    show I_ _ _ (tab C _)
    have e:tab n (sumF ma.cells n i)=tab C (fun q=>colS ma.cells C q R):=by
     rcases Nat.eq_zero_or_pos n with h0|h0
     ·have:=HN.out;rw[h0,show C=0 by omega];simp[tab]
     ·rw[HIN.out,HLR.out,HN.out,sumF_end _ _ _ h0]
    rw[e]at h
    have h3:=(((h.other ⟨w.heap.size+1,0,none⟩ (.int .i64 1) hgw.symm).other ⟨w.heap.size+1,1,none⟩ (.int .i64 c) hgw.symm).other ⟨w.heap.size+1,2,none⟩ (.slice (some ⟨g,0,none⟩) n n) hgw.symm).isTab (by have:=HN.out;unfold maxLen;omega)
    rw[<-HN.out]
    rw[<-HN.out]at h3
    exact h3
   ·exact (((keep_below HWV.out HB1.out HG.out HGR.out).setCell (by simp) _).setCell (by simp) _).setCell (by simp) _
def RefEnd (w:World) (m:Mx) (e:Ending) (w':World):Prop:=∃a n k,e=.returned (.agg #[.int .i64 m.rows,.int .i64 m.cols,.slice a n k])/\M_ w' (.agg #[.int .i64 m.rows,.int .i64 m.cols,.slice a n k]) m/\Below w.heap.size w w'/\F_ w.heap.size (.agg #[.int .i64 m.rows,.int .i64 m.cols,.slice a n k])
theorem refEnd_of{w:World}{m m':Mx}{e:Ending}{w':World}(h:∃v',e=.returned v'/\M_ w' v' m'/\Below w.heap.size w w'/\F_ w.heap.size v')(hm:m=m'):RefEnd w m e w':=by
 subst hm
 obtain ⟨v,rfl,⟨s,rfl,hs⟩,hb,hf⟩:=h
 obtain ⟨a,n,k,rfl⟩:=hs.shape
 exact ⟨a,n,k,rfl,⟨_,rfl,hs⟩,hb,hf⟩
theorem ref_mul{va vb:Value}{a b:Mx}(w:World)(hva:M_ w va a)(hvb:M_ w vb b)(hE:mulE a b=0):Calls Tryz.prog 111 #[va,vb] w (RefEnd w (mulX a b)):=by
 obtain ⟨Ra,Ca,Cb,ga,gb⟩:=mulE_zero hE
 refine (rmatmul_any va vb a b Ra Ca Cb w hva hvb ga.r ga.c gb.c ga.hR (by have:=ga.hC;omega) (by have:=gb.hC;omega) ga.l gb.l).mono ?_
 intro e w' h
 exact refEnd_of h (mulX_yes hE ga.r ga.c gb.c)
theorem addE_zero{a b:Mx}(h:addE a b=0):∃R C,Good a R C/\Good b R C:=by
 unfold addE at h
 by_cases h1:faults [a,b]≠0
 ·rw[if_pos h1]at h;exact absurd h h1
 ·rw[if_neg h1]at h
  obtain ⟨fa,fb⟩:=faults_two (Decidable.not_not.1 h1)
  obtain ⟨Ra,Ca,ga⟩:=o__ fa
  obtain ⟨Rb,Cb,gb⟩:=o__ fb
  by_cases h2:a.rows≠b.rows\/a.cols≠b.cols
  ·rw[if_pos h2]at h;cases h
  ·have e1:Ra=Rb:=by have:=ga.r;have:=gb.r;omega
   have e2:Ca=Cb:=by have:=ga.c;have:=gb.c;omega
   subst e1 e2
   exact ⟨Ra,Ca,ga,gb⟩
theorem ref_add{va vb:Value}{a b:Mx}(w:World)(hva:M_ w va a)(hvb:M_ w vb b)(hE:addE a b=0):Calls Tryz.prog 61 #[va,vb] w (RefEnd w (addX a b)):=by
 obtain ⟨R,C,ga,gb⟩:=addE_zero hE
 refine (rmatadd_any va vb a b R C w hva hvb ga.r ga.c ga.hR (by have:=ga.hC;omega) ga.l gb.l).mono ?_
 intro e w' h
 exact refEnd_of h (by unfold addX;rw[if_pos hE,ga.r,ga.c];simp)
theorem ref_turn{va:Value}{a:Mx}(w:World)(hva:M_ w va a)(hE:turnE a=0)(hf:q_ a=0):Calls Tryz.prog 112 #[va] w (RefEnd w (turnX a)):=by
 obtain ⟨R,C,ga⟩:=o__ hf
 refine (turn_any va a R C w hva ga.r ga.c ga.hR (by have:=ga.hC;omega) ga.l).mono ?_
 intro e w' h
 exact refEnd_of h (turnX_yes hE ga.r ga.c)
theorem timesE_zero{a:Mx}(hf:q_ a=0):timesE a=0:=by unfold timesE;rw[if_neg (by simp[hf])]
theorem ref_times{va:Value}{a:Mx}(x:Int)(w:World)(hva:M_ w va a)(hf:q_ a=0):Calls Tryz.prog 94 #[va,.int .i64 x] w (RefEnd w (timesX a x)):=by
 obtain ⟨R,C,ga⟩:=o__ hf
 refine (rmattimes_any va a x R C w hva ga.r ga.c ga.hR (by have:=ga.hC;omega) ga.l).mono ?_
 intro e w' h
 exact refEnd_of h (by unfold timesX;rw[if_pos (timesE_zero hf),ga.r,ga.c];simp)
theorem ref_sums{va:Value}{a:Mx}(w:World)(hva:M_ w va a)(hf:q_ a=0):Calls Tryz.prog 113 #[va] w (RefEnd w (sumsX a)):=by
 obtain ⟨R,C,ga⟩:=o__ hf
 refine (rsums_any va a R C w hva ga.c ga.hR (by have:=ga.hC;omega) ga.l).mono ?_
 intro e w' h
 exact refEnd_of h (by unfold sumsX;rw[if_pos (timesE_zero hf),ga.c,ga.r];simp)
theorem ref_rows{va:Value}{a:Mx}(f t:Int)(w:World)(hva:M_ w va a)(hE:rowsE a f t=0)(hf:q_ a=0)(h0:0<=f)(h1:f<=t)(h2:t<=a.rows):Calls Tryz.prog 86 #[va,.int .i64 f,.int .i64 t] w (RefEnd w (rowsX a f t)):=by
 obtain ⟨R,C,ga⟩:=o__ hf
 obtain ⟨F,rfl⟩:∃F:Nat,f=(F:Int):=⟨f.toNat,by omega⟩
 obtain ⟨T,rfl⟩:∃T:Nat,t=(T:Int):=⟨t.toNat,by omega⟩
 refine (rrows_any va a R C F T w hva ga.c ga.hR (by have:=ga.hC;omega) ga.l (by omega) (by have:=ga.r;omega)).mono ?_
 intro e w' h
 refine refEnd_of h ?_
 unfold rowsX
 have e1:(T:Int) - (F:Int)=((T - F:Nat):Int):=by omega
 rw[if_pos hE,ga.c,e1];simp
end Go.Proofs.YtniloklglpchfaeGreatDoor
