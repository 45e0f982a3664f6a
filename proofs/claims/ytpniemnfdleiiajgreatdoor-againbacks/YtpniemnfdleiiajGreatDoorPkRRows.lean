/- What MatRows of the document's answer comes to: some rows of a matrix. -/
import Derived.Test.YtpniemnfdleiiajGreatDoorPkRTurn
import Derived.StillTailTactics
namespace Go.Proofs.YtpniemnfdleiiajGreatDoor
open Go.RowKit
set_option maxHeartbeats 1600000 in
set_option maxRecDepth 100000 in
theorem rmattimes_any(va:Value)(ma:Mx)(k:Int)(R C:Nat)(w:World)(hva:M_ w va ma)(hr:ma.rows=(R:Int))(hc:ma.cols=(C:Int))(hR:R≤24)(hC:C≤24)(hla:ma.cells.length=R*C):
  Calls Tryz.prog 37 #[va,.int .i64 k] w fun e w'=>
  ∃v',e=.returned v'∧M_ w' v' ⟨R,C,tab (R*C) (fun q=>ml ((ma.cells[q]?).getD 0) k)⟩∧Below w.heap.size w w'∧F_ w.heap.size v':=by
 obtain ⟨sa,rfl,hsa⟩:=hva
 obtain ⟨r,er⟩:=gN (ma.rows)
 obtain ⟨c,ec⟩:=gN (ma.cols)
 obtain ⟨n,en⟩:=gN (R*C)
 have hRC:=Nat.mul_le_mul hR hC
 rw[er,ec]
 rw[er]at hr
 rw[ec]at hc
 have hb:=fun W=>blank_any r c n W (by rw[hr,hc,←en];simp) (by omega)
 have HB:=h_ hb
 have HSA:=h_ hsa
 have HLA:=h_ (hla.trans en)
 have Hr:=h_ hr
 have Hc:=h_ hc
 have HN:=h_ en
 have hnb:n≤576:=by omega
 clear hb hsa hla hr hc er ec en hRC
 go_enter Tryz.func37,Tryz.ntmps37
 go_wp2_with fail
 refine (HB.out _).mono ?_
 rintro e w1 ⟨g,rfl,hg,hrow,hb1⟩
 generalize hV:(w.alloc (.cells #[.int .i64 r,.int .i64 c,sa] 25)).alloc (.cells #[.int .i64 0,.int .i64 0,.slice none 0 0] 25)=V at*
 have hVs:V.heap.size=w.heap.size+1+1:=by rw[←hV];simp
 have v1:V.cell? ⟨w.heap.size,2,none⟩=some sa:=by rw[←hV];exact p_ (by simp) _
 have r0:V.cell? ⟨w.heap.size+1,0,none⟩=some (.int .i64 0):=by rw[←hV,World.cell?_alloc_at _ _ _ _ (by simp)];rfl
 have r1:V.cell? ⟨w.heap.size+1,1,none⟩=some (.int .i64 0):=by rw[←hV,World.cell?_alloc_at _ _ _ _ (by simp)];rfl
 have r2:V.cell? ⟨w.heap.size+1,2,none⟩=some (.slice none 0 0):=by rw[←hV,World.cell?_alloc_at _ _ _ _ (by simp)];rfl
 have rf:∀j,V.frozen? ⟨w.heap.size+1,j,none⟩=false:=fun j=>by rw[←hV,World.frozen?_alloc_at _ _ _ _ (by simp)]
 have hwV:Below w.heap.size w V:=by rw[←hV];exact ((Below.refl _ w).alloc (Nat.le_refl _) _).alloc (by simp) _
 have hglt:g<w1.heap.size:=hrow.lt
 have HV:=h_ (And.intro v1 (And.intro r0 (And.intro r1 r2)))
 have HRF:=h_ rf
 have HWV:=h_ hwV
 have HB1:=h_ hb1
 have HG:=h_ hg
 have HVS:=h_ hVs
 have HR:=h_ (hrow.alloc (.cells #[.int .i64 r,.int .i64 c,.slice (some ⟨g,0,none⟩) n n] 25))
 clear v1 r0 r1 r2 rf hwV hb1 hg hrow hVs
 go_wp2
 clear hV
 go_loopw [6] (fun a wr=>∃(i:Nat) (xi:Int),i≤n∧xi=(i:Int)∧a=.int .i64 xi∧RowAt 3 wr g (tab n (fillF (fun q=>ml ((ma.cells[q]?).getD 0) k) i))∧(w1.alloc (.cells #[.int .i64 r,.int .i64 c,.slice (some ⟨g,0,none⟩) n n] 25)).grownBy wr (some g)) (fun a _=>n - (intOf a).toNat)
 case atStart=>exact ⟨0,0,Nat.zero_le _,rfl,rfl,by rw[←fillF_zero];exact HR.out,World.grownBy.refl _ _⟩
 case round=>
  obtain ⟨i,xi,hi,hxi,rfl,hro,hgr⟩:=hrel
  have p2:=X_ hglt hgr (j:=2) rfl
  have HRO:=h_ hro
  have HGR:=h_ hgr
  have HXI:=h_ hxi
  have hxi0:0≤xi:=by omega
  have hxi1:xi≤576:=by omega
  clear hro hgr hxi
  by_cases hlt:xi<(n:Int)
  ·have hin:i<n:=by have:=HXI.out;omega
   have hxn:xi.toNat=i:=by have:=HXI.out;omega
   obtain ⟨x,hx⟩:∃x,ma.cells[i]?=some x:=⟨ma.cells[i]'(by have:=HLA.out;omega),List.getElem?_eq_getElem _⟩
   obtain ⟨aa,capa,hsva,_,_,h4a⟩:=HSA.out
   obtain ⟨b,off,rfl,hcla⟩:=h4a.resolve_left (fun e=>by rw[e]at hx;simp at hx)
   have cx:wr.cell? ⟨b,off+xi.toNat,none⟩=some (.int .i64 x):=by
    rw[hxn]
    have h0:=hcla _ _ hx
    exact k_ HB1.out HG.out HGR.out ((HWV.out.cell (p:=⟨b,off+i,none⟩) (World.block_lt_of_cell? w _ h0)).trans h0)
   obtain ⟨u,dx⟩:∃u,wr.cell? ⟨g,xi.toNat,none⟩=some (.int .i64 u):=⟨_,by rw[hxn];exact HRO.out.cell (tab_at hin)⟩
   have fx:wr.frozen? ⟨g,xi.toNat,none⟩=false:=HRO.out.frozen _
   have j2:=k_ HB1.out HG.out HGR.out HV.out.1
   subst hsva
   rw[HLA.out]at j2
   have HX:=h_ hx
   have HXN:=h_ hxn
   have hw:fillF_ok (fun q=>ml ((ma.cells[q]?).getD 0) k) i (ml x k):=by unfold fillF_ok;simp only[HX.out];rfl
   have HW:=h_ hw
   clear hcla h4a hx hxn hw
   go_wp2
   refine region_tail 11 (by kernel_rfl) (by kernel_rfl) ?_
   simp only[List.take_succ_cons,List.take_zero,List.drop_succ_cons,List.drop_zero]
   repeat still_step
   still_call (rmul_any _ _ _)
   repeat still_step
   refine wpStill_nil ?_
   go_wp2
   exact ⟨⟨i+1,_,by omega,by have:=HXI.out;omega,rfl,by
    rw[HXN.out,←fillF_step _ i n _ HW.out]
    exact HRO.out.set i _,grown_drew (w_ HGR.out _ _)⟩,by have:=HXI.out;simp[intOf];omega⟩
  ·have hin:i=n:=by have:=HXI.out;omega
   have q0:=k_ HB1.out HG.out HGR.out HV.out.2.1
   have q1:=k_ HB1.out HG.out HGR.out HV.out.2.2.1
   have q2:=k_ HB1.out HG.out HGR.out HV.out.2.2.2
   have p0:=X_ hglt HGR.out (j:=0) rfl
   have p1:=X_ hglt HGR.out (j:=1) rfl
   have z0:=z_ HB1.out HG.out HGR.out (p:=⟨w.heap.size+1,0,none⟩) (by have:=HVS.out;simp;omega) (HRF.out 0)
   have z1:=z_ HB1.out HG.out HGR.out (p:=⟨w.heap.size+1,1,none⟩) (by have:=HVS.out;simp;omega) (HRF.out 1)
   have z2:=z_ HB1.out HG.out HGR.out (p:=⟨w.heap.size+1,2,none⟩) (by have:=HVS.out;simp;omega) (HRF.out 2)
   have HIN:=h_ hin
   clear hin
   have hgw:w.heap.size+1≠g:=by have:=HVS.out;have:=HG.out;omega
   go_wp2
   refine bodyPost_ret (v:=.agg #[.int .i64 r,.int .i64 c,.slice (some ⟨g,0,none⟩) n n]) (by simp[results,Tryz.results37,go_sem,q0,q1,q2]) rfl ⟨_,rfl,⟨.slice (some ⟨g,0,none⟩) n n,by rw[Hr.out,Hc.out],?_⟩,?_,fresh_at (by first|omega|(have:=HVS.out;have:=HG.out;omega)) _ _ _⟩
   ·have h:=HRO.out
    rw[HIN.out,fillF_end]at h
    show I_ _ _ (tab (R*C) _)
    rw[HN.out]
    exact (((h.other ⟨w.heap.size+1,0,none⟩ _ hgw.symm).other ⟨w.heap.size+1,1,none⟩ _ hgw.symm).other ⟨w.heap.size+1,2,none⟩ _ hgw.symm).isTab (by unfold maxLen;omega)
   ·exact (((keep_below HWV.out HB1.out HG.out HGR.out).setCell (by simp) _).setCell (by simp) _).setCell (by simp) _
end Go.Proofs.YtpniemnfdleiiajGreatDoor
