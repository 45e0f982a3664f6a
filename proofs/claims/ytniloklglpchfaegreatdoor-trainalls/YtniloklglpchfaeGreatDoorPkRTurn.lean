/- What MatTurn of the document's answer comes to: rows become columns. -/
import Derived.Test.YtniloklglpchfaeGreatDoorPkSame
import Derived.Test.YtniloklglpchfaeGreatDoorPlain
import Derived.Deep.RegionHeld3
import Derived.Deep.LoopGhost
import Derived.Test.YtniloklglpchfaeGreatDoorRows
import Derived.StillTailTactics
namespace Go.Proofs.YtniloklglpchfaeGreatDoor
open Go.RowKit
def turnF (cs:List Int) (R C i j q:Nat):Int:=if q % R<i\/(q % R=i/\q / R<j) then (cs[q % R*C+q / R]?).getD 0 else 0
theorem turnF_step(cs:List Int)(R C i j n:Nat)(hi:i<R)(x:Int)(hx:cs[i*C+j]?=some x):(tab n (turnF cs R C i j)).set (j*R+i) x=tab n (turnF cs R C i (j+1)):=by
 rw[tab_set]
 refine tab_congr (fun q _=>?_)
 obtain ⟨e1,e2⟩:=at_div (j:=j) hi
 by_cases hq:q=j*R+i
 ·rw[if_pos hq,hq];unfold turnF;rw[e1,e2,if_pos (.inr ⟨rfl,by omega⟩),hx];rfl
 ·rw[if_neg hq]
  have hd:=Nat.div_add_mod q R
  have hne:¬(q % R=i/\q / R=j):=fun e=>hq (by rw[<-hd,e.1,e.2,Nat.mul_comm])
  unfold turnF
  by_cases h:q % R<i\/(q % R=i/\q / R<j)
  ·rw[if_pos h,if_pos (h.imp id (fun e=>⟨e.1,by omega⟩))]
  ·rw[if_neg h,if_neg (fun e=>h (e.imp id (fun e=>⟨e.1,by rcases Nat.lt_or_ge (q / R) j with k|k;exact k;exact absurd ⟨e.1,by omega⟩ hne⟩)))]
theorem turnF_row(cs:List Int)(R C i:Nat):tab (C*R) (turnF cs R C i C)=tab (C*R) (turnF cs R C (i+1) 0):=by
 refine tab_congr (fun q hq=>?_)
 have hd:q / R<C:=Nat.div_lt_of_lt_mul (by rw[Nat.mul_comm];exact hq)
 unfold turnF
 generalize q / R=d at*
 generalize q % R=e at*
 by_cases h:e<i+1
 ·rw[if_pos (by omega),if_pos (.inl h)]
 ·rw[if_neg (by omega),if_neg (by omega)]
theorem turnF_zero(cs:List Int)(R C n:Nat):tab n (fun _=>0)=tab n (turnF cs R C 0 0):=by
 refine tab_congr (fun q _=>?_);unfold turnF;rw[if_neg (fun e=>e.elim (Nat.not_lt_zero _) (fun e=>Nat.not_lt_zero _ e.2))]
theorem turnF_end(cs:List Int)(R C:Nat):tab (C*R) (turnF cs R C R 0)=tab (C*R) (fun q=>(cs[q % R*C+q / R]?).getD 0):=by
 refine tab_congr (fun q hq=>?_)
 have hR:0<R:=by rcases Nat.eq_zero_or_pos R with h|h;(subst h;simp at hq);exact h
 unfold turnF;rw[if_pos (.inl (Nat.mod_lt _ hR))]
set_option maxHeartbeats 1600000 in
set_option maxRecDepth 100000 in
theorem turn_any(v:Value)(m:Mx)(R C:Nat)(w:World)(hv:M_ w v m)(hr:m.rows=(R:Int))(hc:m.cols=(C:Int))(hR:R<=24)(hC:C<=24)(hl:m.cells.length=R*C):Calls Tryz.prog 112 #[v] w fun e w'=>
  ∃v',e=.returned v'/\M_ w' v' ⟨C,R,tab (C*R) (fun q=>(m.cells[q % R*C+q / R]?).getD 0)⟩/\Below w.heap.size w w'/\F_ w.heap.size v':=by
 obtain ⟨s,rfl,hs⟩:=hv
 obtain ⟨r,er⟩:=gN (m.rows)
 obtain ⟨c,ec⟩:=gN (m.cols)
 obtain ⟨n,en⟩:=gN (C*R)
 rw[er,ec]
 rw[er]at hr
 rw[ec]at hc
 have hb:=fun W=>blank_any c r n W (by rw[hr,hc,<-en];simp) (by have:=Nat.mul_le_mul hC hR;omega)
 have HB:=h_ hb
 have HS:=h_ hs
 have HL:=h_ hl
 have Hr:=h_ hr
 have Hc:=h_ hc
 have HN:=h_ en
 have hnb:n<=576:=by have:=Nat.mul_le_mul hC hR;omega
 clear hb hs hl hr hc er ec en
 go_enter Tryz.func112,Tryz.ntmps112
 go_wp2_with fail
 refine (HB.out _).mono ?_
 rintro e w1 ⟨g,rfl,hg,hrow,hb1⟩
 obtain ⟨o,ho⟩:=gM (Obj.cells #[.int .i64 c,.int .i64 r,.slice (some ⟨g,0,none⟩) n n] 28)
 have hg':w.heap.size+2<=g:=by simpa using hg
 have hsz:=hb1.size
 simp only[World.size_alloc]at hsz
 have old:∀j x,((w.alloc (.cells #[.int .i64 r,.int .i64 c,s] 28)).alloc (.cells #[.int .i64 0,.int .i64 0,.slice none 0 0] 28)).cell? ⟨w.heap.size,j,none⟩=some x->(w1.alloc o).cell? ⟨w.heap.size,j,none⟩=some x:=fun j x h=>p_ ((hb1.cell (p:=⟨w.heap.size,j,none⟩) (by simp;omega)).trans h) o
 have old':∀j x,((w.alloc (.cells #[.int .i64 r,.int .i64 c,s] 28)).alloc (.cells #[.int .i64 0,.int .i64 0,.slice none 0 0] 28)).cell? ⟨w.heap.size+1,j,none⟩=some x->(w1.alloc o).cell? ⟨w.heap.size+1,j,none⟩=some x:=fun j x h=>p_ ((hb1.cell (p:=⟨w.heap.size+1,j,none⟩) (by simp)).trans h) o
 have k0:=old 0 _ (by simp;rfl)
 have k1:=old 1 _ (by simp;rfl)
 have k2:=old 2 _ (by simp;rfl)
 have r0:=old' 0 _ (by simp;rfl)
 have r1:=old' 1 _ (by simp;rfl)
 have r2:=old' 2 _ (by simp;rfl)
 have rf:∀j,(w1.alloc o).frozen? ⟨w.heap.size+1,j,none⟩=false:=fun j=>by
  rw[World.frozen?_alloc_old _ _ _ (by simp;omega),hb1.frozen (p:=⟨w.heap.size+1,j,none⟩) (by simp)];simp
 have m0:(w1.alloc o).cell? ⟨w1.heap.size,0,none⟩=some (.int .i64 c):=by rw[ho];simp
 have m1:(w1.alloc o).cell? ⟨w1.heap.size,1,none⟩=some (.int .i64 r):=by rw[ho];simp
 have m2:(w1.alloc o).cell? ⟨w1.heap.size,2,none⟩=some (.slice (some ⟨g,0,none⟩) n n):=by rw[ho];simp
 have hglt:g<w1.heap.size:=hrow.lt
 have hrow':=hrow.alloc o
 have hbel:Below w.heap.size w (w1.alloc o):=((((Below.refl _ w).alloc (Nat.le_refl _) _).alloc (by simp) _).trans (hb1.mono (by simp;omega))).alloc (by omega) o
 subst ho
 generalize hW0:w1.alloc (.cells #[.int .i64 c,.int .i64 r,.slice (some ⟨g,0,none⟩) n n] 28)=W0 at*
 have hW0s:W0.heap.size=w1.heap.size+1:=by rw[<-hW0];simp
 have HK:=h_ (And.intro k0 (And.intro k1 k2))
 have HRS:=h_ (And.intro r0 (And.intro r1 r2))
 have HRF:=h_ rf
 have HM:=h_ (And.intro m0 (And.intro m1 m2))
 have HR:=h_ hrow'
 have HBL:=h_ hbel
 have HZ:=h_ hW0s
 clear old old' k0 k1 k2 r0 r1 r2 rf m0 m1 m2 hrow' hbel hb1 hrow hW0s
 go_wp2
 clear hW0
 go_loopw [4] (fun a wr=>∃(i:Nat) (xi:Int),i<=R/\xi=(i:Int)/\a=.int .i64 xi/\RowAt 3 wr g (tab n (turnF m.cells R C i 0))/\W0.grownBy wr (some g)) (fun a _=>R - (intOf a).toNat)
 case atStart=>exact ⟨0,0,Nat.zero_le _,rfl,rfl,by rw[<-turnF_zero];exact HR.out,World.grownBy.refl _ _⟩
 case round=>
  obtain ⟨i,xi,hi,hxi,rfl,hro,hgr⟩:=hrel
  have j0:=hgr.cell HK.out.1 (by simp;omega)
  have j1:=hgr.cell HK.out.2.1 (by simp;omega)
  have HRO:=h_ hro
  have HGR:=h_ hgr
  have HXI:=h_ hxi
  have hxi0:0<=xi:=by omega
  have hxi1:xi<=24:=by omega
  clear hro hgr hxi
  by_cases hlt:xi<r
  ·have hiR:i<R:=by have:=HXI.out;have:=Hr.out;omega
   go_wp2
   go_loopw [5] (fun a wr=>∃(j:Nat) (xj:Int),j<=C/\xj=(j:Int)/\a=.int .i64 xj/\RowAt 3 wr g (tab n (turnF m.cells R C i j))/\W0.grownBy wr (some g)) (fun a _=>C - (intOf a).toNat)
   case atStart=>exact ⟨0,0,Nat.zero_le _,rfl,rfl,HRO.out,HGR.out⟩
   case round=>
    obtain ⟨j,xj,hj,hxj,rfl,hro,hgr⟩:=hrel
    clear j0 j1
    have j0:=hgr.cell HK.out.1 (by simp;omega)
    have j1:=hgr.cell HK.out.2.1 (by simp;omega)
    have j2:=hgr.cell HK.out.2.2 (by simp;omega)
    have p2:=hgr.cell HM.out.2.2 (by simp;omega)
    have HRO2:=h_ hro
    have HGR2:=h_ hgr
    have HXJ:=h_ hxj
    have hxj0:0<=xj:=by omega
    have hxj1:xj<=24:=by omega
    clear hro hgr hxj
    by_cases hjc:xj<c
    ·have hjC:j<C:=by have:=HXJ.out;have:=Hc.out;omega
     have hidx:=idx_lt hiR hjC
     have hidy:=idx_lt hjC hiR
     obtain ⟨x,hx⟩:∃x,m.cells[i*C+j]?=some x:=⟨m.cells[i*C+j]'(by have:=HL.out;omega),List.getElem?_eq_getElem _⟩
     obtain ⟨aa,cap,hsv,h2,h3,h4⟩:=HS.out
     obtain ⟨b,off,rfl,hcl⟩:=h4.resolve_left (fun e=>by rw[e]at hx;simp at hx)
     have cx0:=hcl _ _ hx
     have hbw:b<w.heap.size:=World.block_lt_of_cell? w _ cx0
     have cx:wr.cell? ⟨b,off+(xi*c+xj).toNat,none⟩=some (.int .i64 x):=by
      rw[idx_nat HXI.out HXJ.out Hc.out]
      exact HGR2.out.cell ((HBL.out.cell (p:=⟨b,off+(i*C+j),none⟩) hbw).trans cx0) (by simp;omega)
     obtain ⟨y,dx⟩:∃y,wr.cell? ⟨g,(xj*r+xi).toNat,none⟩=some (.int .i64 y):=⟨_,by rw[idx_nat HXJ.out HXI.out Hr.out];exact HRO2.out.cell (tab_at (by have:=HN.out;omega))⟩
     have fx:wr.frozen? ⟨g,(xj*r+xi).toNat,none⟩=false:=HRO2.out.frozen _
     subst hsv
     obtain ⟨N,hN⟩:=gN (m.cells.length)
     rw[hN]at j2 h2
     have HX:=h_ hx
     have t1:=mul_bds HXI.out Hc.out (by omega) hC
     have t2:=mul_bds HXJ.out Hr.out (by omega) hR
     have t3:xi*c+xj<(N:Int):=by rw[mul_cast_idx HXI.out HXJ.out Hc.out];have:=HL.out;omega
     have t4:xj*r+xi<(n:Int):=by rw[mul_cast_idx HXJ.out HXI.out Hr.out];have:=HN.out;omega
     have hN':N<=576:=by have:=HL.out;have:=Nat.mul_le_mul hR hC;omega
     have u1:=wrap_in (x:=xi*c) (by omega) (by omega)
     have u2:=wrap_in (x:=xi*c+xj) (by omega) (by omega)
     have u3:=wrap_in (x:=xj*r) (by omega) (by omega)
     have u4:=wrap_in (x:=xj*r+xi) (by omega) (by omega)
     have g1:0<=xi*c+xj:=by omega
     have g2:0<=xj*r+xi:=by omega
     have s1:=cell_other p2 (g:=g) (by simp;omega)
     have s2:=cell_other j0 (g:=g) (by simp;omega)
     have s3:=cell_other j1 (g:=g) (by simp;omega)
     have s4:=cell_other j2 (g:=g) (by simp;omega)
     have s5:=cell_other cx (g:=g) (by simp;omega)
     clear hcl cx0 h4 h3 hx hN hidx hidy
     go_wp2
     go_region_held3 (fun W'=>W'.cell? ⟨w1.heap.size,2,none⟩=some (.slice (some ⟨g,0,none⟩) n n)/\W'.cell? ⟨w.heap.size,0,none⟩=some (.int .i64 r)/\W'.cell? ⟨w.heap.size,1,none⟩=some (.int .i64 c)/\W'.cell? ⟨w.heap.size,2,none⟩=some (.slice (some ⟨b,off,none⟩) N cap)/\W'.cell? ⟨b,off+(xi*c+xj).toNat,none⟩=some (.int .i64 x)) (go_keep) (fail)
     go_wp2
     go_roundw
     case rel=>exact ⟨j+1,_,by omega,by have:=HXJ.out;omega,rfl,by
      rw[idx_nat HXJ.out HXI.out Hr.out,<-turnF_step m.cells R C i j n hiR x HX.out]
      exact HRO2.out.set (j*R+i) x,grown_drew (w_ HGR2.out _ _)⟩
     case measure=>have:=HXJ.out;simp[intOf];omega
    ·go_wp2
     go_roundw
     case rel=>exact ⟨i+1,_,by omega,by have:=HXI.out;omega,rfl,by have h:=HRO2.out;rw[show j=C by have:=HXJ.out;have:=Hc.out;omega,<-HN.out,turnF_row,HN.out]at h;exact h,HGR2.out⟩
     case measure=>have:=HXI.out;simp[intOf];omega
  ·have hiR:i=R:=by have:=HXI.out;have:=Hr.out;omega
   have q0:=HGR.out.cell HRS.out.1 (by simp;omega)
   have q1:=HGR.out.cell HRS.out.2.1 (by simp;omega)
   have q2:=HGR.out.cell HRS.out.2.2 (by simp;omega)
   have p0:=HGR.out.cell HM.out.1 (by simp;omega)
   have p1:=HGR.out.cell HM.out.2.1 (by simp;omega)
   have p2:=HGR.out.cell HM.out.2.2 (by simp;omega)
   have z0:=grown_frozen HGR.out (HRF.out 0) (by have:=HZ.out;simp;omega) (by simp;omega)
   have z1:=grown_frozen HGR.out (HRF.out 1) (by have:=HZ.out;simp;omega) (by simp;omega)
   have z2:=grown_frozen HGR.out (HRF.out 2) (by have:=HZ.out;simp;omega) (by simp;omega)
   have HIR:=h_ hiR
   clear hiR
   go_wp2
   refine bodyPost_ret (v:=.agg #[.int .i64 c,.int .i64 r,.slice (some ⟨g,0,none⟩) n n]) (by simp[results,Tryz.results112,go_sem,q0,q1,q2]) rfl ⟨_,rfl,⟨.slice (some ⟨g,0,none⟩) n n,by rw[Hr.out,Hc.out],?_⟩,?_,fresh_at (by omega) _ _ _⟩
   ·have h:=HRO.out
    rw[HIR.out,<-HN.out,turnF_end]at h
    rw[HN.out]at h
    show I_ _ _ (tab (C*R) _)
    rw[HN.out]
    exact (((h.other ⟨w.heap.size+1,0,none⟩ _ (by simp;omega)).other ⟨w.heap.size+1,1,none⟩ _ (by simp;omega)).other ⟨w.heap.size+1,2,none⟩ _ (by simp;omega)).isTab (by unfold maxLen;omega)
   ·exact (((HBL.out.grown HGR.out (by have:=HZ.out;omega) (fun k h=>by simp at h;omega)).setCell (by simp) _).setCell (by simp) _).setCell (by simp) _
set_option maxHeartbeats 400000 in
theorem rclamp_any(x:Int)(w:World):Calls Tryz.prog 62 #[.int .i64 x] w fun e w'=>e=.returned (.int .i64 (cl x))/\w'=w:=by
 by_cases h1:x < -2147483647
 ·rw[cl_lo x h1]
  go_enter Tryz.func62,Tryz.ntmps62
  go_wp2
  go_ret
  exact ⟨rfl,rfl⟩
 ·by_cases h2:2147483647<x
  ·rw[cl_hi x h2]
   go_enter Tryz.func62,Tryz.ntmps62
   go_wp2
   go_ret
   exact ⟨rfl,rfl⟩
  ·rw[cl_in x (by omega) (by omega)]
   go_enter Tryz.func62,Tryz.ntmps62
   go_wp2
   go_ret
   exact ⟨rfl,rfl⟩
set_option maxHeartbeats 400000 in
theorem radd_any(a b:Int)(w:World):Calls Tryz.prog 30 #[.int .i64 a,.int .i64 b] w fun e w'=>e=.returned (.int .i64 (ad a b))/\w'=w:=by
 have ha:=cl_bd a
 have hb:=cl_bd b
 unfold ad
 go_enter Tryz.func30,Tryz.ntmps30
 go_wp2_with (go_at_call 62;refine (rclamp_any _ _).mono ?_;rintro e w' ⟨rfl,rfl⟩)
 go_ret
 exact ⟨rfl,rfl⟩
set_option maxHeartbeats 400000 in
theorem rsub_any(a b:Int)(w:World):Calls Tryz.prog 90 #[.int .i64 a,.int .i64 b] w fun e w'=>e=.returned (.int .i64 (sb a b))/\w'=w:=by
 have ha:=cl_bd a
 have hb:=cl_bd b
 unfold sb
 go_enter Tryz.func90,Tryz.ntmps90
 go_wp2_with (go_at_call 62;refine (rclamp_any _ _).mono ?_;rintro e w' ⟨rfl,rfl⟩)
 go_ret
 exact ⟨rfl,rfl⟩
theorem rdown_a(p:Int)(h:0<=p):p.tdiv 256=p / 256:=by rw[tdiv_256,if_pos h]
theorem rdown_b(p:Int)(_h:p<0)(h0:-4611686014132420609<=p)(e:wrap64 (p.tdiv 256*256)=p):p.tdiv 256=p / 256:=by
 rw[tdiv_256] at*;unfold wrap64 at e;split at e<;>split<;>omega
theorem rdown_c(p:Int)(_h:p<0)(h0:-4611686014132420609<=p)(e:¬wrap64 (p.tdiv 256*256)=p):wrap64 (p.tdiv 256 - 1)=p / 256:=by
 rw[tdiv_256] at*;unfold wrap64 at*;split at e<;>split<;>omega
set_option maxHeartbeats 400000 in
theorem rmul_any(a b:Int)(w:World):Calls Tryz.prog 91 #[.int .i64 a,.int .i64 b] w fun e w'=>e=.returned (.int .i64 (ml a b))/\w'=w:=by
 have ha:=cl_bd a
 have hb:=cl_bd b
 have hm:=mul_bd a b
 unfold ml
 go_enter Tryz.func91,Tryz.ntmps91
 go_wp2_with (go_at_call 62;refine (rclamp_any _ _).mono ?_;rintro e w' ⟨rfl,rfl⟩)
 ·have hn:cl a*cl b<0:=by assumption
  have hx:(wrap64 ((cl a*cl b).tdiv 256*256) !=cl a*cl b)=true:=by assumption
  go_ret
  exact ⟨i_ (by rw[rdown_c _ hn hm.1 (by simpa using hx)]),rfl⟩
 ·have hn:cl a*cl b<0:=by assumption
  have hx:(wrap64 ((cl a*cl b).tdiv 256*256) !=cl a*cl b)=false:=by assumption
  go_ret
  exact ⟨i_ (by rw[rdown_b _ hn hm.1 (by simpa using hx)]),rfl⟩
 ·have hn:0<=cl a*cl b:=by assumption
  go_ret
  exact ⟨i_ (by rw[rdown_a _ hn]),rfl⟩
set_option maxHeartbeats 1000000 in
set_option maxRecDepth 100000 in
theorem rmatmul_any(va vb:Value)(ma mb:Mx)(Ra Ca Cb:Nat)(w:World)(hva:M_ w va ma)(hvb:M_ w vb mb)(hra:ma.rows=(Ra:Int))(hca:ma.cols=(Ca:Int))(hcb:mb.cols=(Cb:Int))(hRa:Ra<=24)(hCa:Ca<=24)(hCb:Cb<=24)(hla:ma.cells.length=Ra*Ca)(hlb:mb.cells.length=Ca*Cb):
  Calls Tryz.prog 111 #[va,vb] w fun e w'=>
  ∃v',e=.returned v'/\M_ w' v' ⟨Ra,Cb,tab (Ra*Cb) (fun q=>dot ma.cells mb.cells Ca Cb (q / Cb) (q % Cb) Ca)⟩/\Below w.heap.size w w'/\F_ w.heap.size v':=by
 obtain ⟨sa,rfl,hsa⟩:=hva
 obtain ⟨sb,rfl,hsb⟩:=hvb
 obtain ⟨r,er⟩:=gN (ma.rows)
 obtain ⟨c,ec⟩:=gN (ma.cols)
 obtain ⟨r',er'⟩:=gN (mb.rows)
 obtain ⟨d,ed⟩:=gN (mb.cols)
 obtain ⟨n,en⟩:=gN (Ra*Cb)
 rw[er,ec,er',ed]
 rw[er]at hra
 rw[ec]at hca
 rw[ed]at hcb
 have hb:=fun W=>blank_any r d n W (by rw[hra,hcb,<-en];simp) (by have:=Nat.mul_le_mul hRa hCb;omega)
 have HB:=h_ hb
 have HSA:=h_ hsa
 have HSB:=h_ hsb
 have HLA:=h_ hla
 have HLB:=h_ hlb
 have Hr:=h_ hra
 have Hc:=h_ hca
 have Hd:=h_ hcb
 have HN:=h_ en
 have hnb:n<=576:=by have:=Nat.mul_le_mul hRa hCb;omega
 clear hb hsa hsb hla hlb hra hca hcb er ec er' ed en
 go_enter Tryz.func111,Tryz.ntmps111
 go_wp2_with fail
 refine (HB.out _).mono ?_
 rintro e w1 ⟨g,rfl,hg,hrow,hb1⟩
 obtain ⟨o,ho⟩:=gM (Obj.cells #[.int .i64 r,.int .i64 d,.slice (some ⟨g,0,none⟩) n n] 28)
 obtain ⟨V,hV⟩:=gM (((w.alloc (.cells #[.int .i64 r,.int .i64 c,sa] 28)).alloc (.cells #[.int .i64 r',.int .i64 d,sb] 28)).alloc (.cells #[.int .i64 0,.int .i64 0,.slice none 0 0] 28))
 have hVs:V.heap.size=w.heap.size+3:=by rw[hV];simp
 have hb1:Below V.heap.size V w1:=by rw[hV];exact hb1
 have hg':w.heap.size+3<=g:=by simpa using hg
 have hsz:=hb1.size
 rw[hVs]at hsz
 have old:∀i j x,i<3->V.cell? ⟨w.heap.size+i,j,none⟩=some x->(w1.alloc o).cell? ⟨w.heap.size+i,j,none⟩=some x:=fun i j x hi h=>p_ ((hb1.cell (p:=⟨w.heap.size+i,j,none⟩) (by show w.heap.size+i<_;omega)).trans h) o
 have ka0:(w1.alloc o).cell? ⟨w.heap.size,0,none⟩=some (.int .i64 r):=old 0 0 _ (by omega) (by rw[hV];exact p_ (p_ (by simp) _) _)
 have ka1:(w1.alloc o).cell? ⟨w.heap.size,1,none⟩=some (.int .i64 c):=old 0 1 _ (by omega) (by rw[hV];exact p_ (p_ (by simp) _) _)
 have ka2:(w1.alloc o).cell? ⟨w.heap.size,2,none⟩=some sa:=old 0 2 _ (by omega) (by rw[hV];exact p_ (p_ (by simp) _) _)
 have kb1:(w1.alloc o).cell? ⟨w.heap.size+1,1,none⟩=some (.int .i64 d):=old 1 1 _ (by omega) (by rw[hV];exact p_ (by simp) _)
 have kb2:(w1.alloc o).cell? ⟨w.heap.size+1,2,none⟩=some sb:=old 1 2 _ (by omega) (by rw[hV];exact p_ (by simp) _)
 have r0:(w1.alloc o).cell? ⟨w.heap.size+1+1,0,none⟩=some (.int .i64 0):=old 2 0 _ (by omega) (by rw[hV,World.cell?_alloc_at _ _ _ _ (by simp)];rfl)
 have r1:(w1.alloc o).cell? ⟨w.heap.size+1+1,1,none⟩=some (.int .i64 0):=old 2 1 _ (by omega) (by rw[hV,World.cell?_alloc_at _ _ _ _ (by simp)];rfl)
 have r2:(w1.alloc o).cell? ⟨w.heap.size+1+1,2,none⟩=some (.slice none 0 0):=old 2 2 _ (by omega) (by rw[hV,World.cell?_alloc_at _ _ _ _ (by simp)];rfl)
 have rf:∀j,(w1.alloc o).frozen? ⟨w.heap.size+1+1,j,none⟩=false:=fun j=>by
  rw[World.frozen?_alloc_old _ _ _ (by simp;omega),hb1.frozen (p:=⟨w.heap.size+1+1,j,none⟩) (by show w.heap.size+1+1<_;omega),hV,World.frozen?_alloc_at _ _ _ _ (by simp)]
 have m0:(w1.alloc o).cell? ⟨w1.heap.size,0,none⟩=some (.int .i64 r):=by rw[ho];simp
 have m1:(w1.alloc o).cell? ⟨w1.heap.size,1,none⟩=some (.int .i64 d):=by rw[ho];simp
 have m2:(w1.alloc o).cell? ⟨w1.heap.size,2,none⟩=some (.slice (some ⟨g,0,none⟩) n n):=by rw[ho];simp
 have hglt:g<w1.heap.size:=hrow.lt
 have hrow':=hrow.alloc o
 have hbel:Below w.heap.size w (w1.alloc o):=by
  have h3:Below w.heap.size w V:=by rw[hV];exact (((Below.refl _ w).alloc (Nat.le_refl _) _).alloc (by simp) _).alloc (by simp;omega) _
  exact (h3.trans (hb1.mono (by omega))).alloc (by omega) o
 subst ho
 generalize hW0:w1.alloc (.cells #[.int .i64 r,.int .i64 d,.slice (some ⟨g,0,none⟩) n n] 28)=W0 at*
 have hW0s:W0.heap.size=w1.heap.size+1:=by rw[<-hW0];simp
 have HA:=h_ (And.intro ka0 (And.intro ka1 ka2))
 have HBX:=h_ (And.intro kb1 kb2)
 have HRS:=h_ (And.intro r0 (And.intro r1 r2))
 have HRF:=h_ rf
 have HM:=h_ (And.intro m0 (And.intro m1 m2))
 have HR:=h_ hrow'
 have HBL:=h_ hbel
 have HZ:=h_ hW0s
 clear old ka0 ka1 ka2 kb1 kb2 r0 r1 r2 rf m0 m1 m2 hrow' hbel hb1 hrow hW0s hVs hV
 go_wp2
 clear hW0
 go_loopw [6] (fun a wr=>∃(k:Nat) (xk:Int),k<=Ca/\xk=(k:Int)/\a=.int .i64 xk/\RowAt 3 wr g (tab n (mulF ma.cells mb.cells Ca Cb k 0 0))/\W0.grownBy wr (some g)) (fun a _=>Ca - (intOf a).toNat)
 case atStart=>exact ⟨0,0,Nat.zero_le _,rfl,rfl,by rw[<-mulF_zero];exact HR.out,World.grownBy.refl _ _⟩
 case round=>
  obtain ⟨k,xk,hk,hxk,rfl,hro,hgr⟩:=hrel
  have j1:=hgr.cell HA.out.2.1 (by simp;omega)
  have HRO:=h_ hro
  have HGR:=h_ hgr
  have HXK:=h_ hxk
  have hxk0:0<=xk:=by omega
  have hxk1:xk<=24:=by omega
  clear hro hgr hxk
  by_cases hlt:xk<c
  ·have hkC:k<Ca:=by have:=HXK.out;have:=Hc.out;omega
   go_wp2
   go_loopw [7] (fun a wr=>∃(i:Nat) (xi:Int),i<=Ra/\xi=(i:Int)/\a=.int .i64 xi/\RowAt 3 wr g (tab n (mulF ma.cells mb.cells Ca Cb k i 0))/\W0.grownBy wr (some g)) (fun a _=>Ra - (intOf a).toNat)
   case atStart=>exact ⟨0,0,Nat.zero_le _,rfl,rfl,HRO.out,HGR.out⟩
   case round=>
    obtain ⟨i,xi,hi,hxi,rfl,hro,hgr⟩:=hrel
    clear j1
    have j0:=hgr.cell HA.out.1 (by simp;omega)
    have HRO2:=h_ hro
    have HGR2:=h_ hgr
    have HXI:=h_ hxi
    have hxi0:0<=xi:=by omega
    have hxi1:xi<=24:=by omega
    clear hro hgr hxi
    by_cases hir:xi<r
    ·have hiR:i<Ra:=by have:=HXI.out;have:=Hr.out;omega
     go_wp2
     go_loopw [8] (fun a wr=>∃(j:Nat) (xj:Int),j<=Cb/\xj=(j:Int)/\a=.int .i64 xj/\RowAt 3 wr g (tab n (mulF ma.cells mb.cells Ca Cb k i j))/\W0.grownBy wr (some g)) (fun a _=>Cb - (intOf a).toNat)
     case atStart=>exact ⟨0,0,Nat.zero_le _,rfl,rfl,HRO2.out,HGR2.out⟩
     case round=>
      obtain ⟨j,xj,hj,hxj,rfl,hro,hgr⟩:=hrel
      clear j0
      have d1:=hgr.cell HBX.out.1 (by simp;omega)
      have HRO3:=h_ hro
      have HGR3:=h_ hgr
      have HXJ:=h_ hxj
      have hxj0:0<=xj:=by omega
      have hxj1:xj<=24:=by omega
      clear hro hgr hxj
      by_cases hjd:xj<d
      ·have hjC:j<Cb:=by have:=HXJ.out;have:=Hd.out;omega
       have hida:=idx_lt hiR hkC
       have hidb:=idx_lt hkC hjC
       have hidm:=idx_lt hiR hjC
       obtain ⟨x,hx⟩:∃x,ma.cells[i*Ca+k]?=some x:=⟨ma.cells[i*Ca+k]'(by have:=HLA.out;omega),List.getElem?_eq_getElem _⟩
       obtain ⟨y,hy⟩:∃y,mb.cells[k*Cb+j]?=some y:=⟨mb.cells[k*Cb+j]'(by have:=HLB.out;omega),List.getElem?_eq_getElem _⟩
       obtain ⟨aa,capa,hsva,_,_,h4a⟩:=HSA.out
       obtain ⟨ab,capb,hsvb,_,_,h4b⟩:=HSB.out
       obtain ⟨b,off,rfl,hcla⟩:=h4a.resolve_left (fun e=>by rw[e]at hx;simp at hx)
       obtain ⟨b',off',rfl,hclb⟩:=h4b.resolve_left (fun e=>by rw[e]at hy;simp at hy)
       have cx0:=hcla _ _ hx
       have cy0:=hclb _ _ hy
       have hbw:b<w.heap.size:=World.block_lt_of_cell? w _ cx0
       have hbw':b'<w.heap.size:=World.block_lt_of_cell? w _ cy0
       have cx:wr.cell? ⟨b,off+(xi*c+xk).toNat,none⟩=some (.int .i64 x):=by
        rw[idx_nat HXI.out HXK.out Hc.out]
        exact HGR3.out.cell ((HBL.out.cell (p:=⟨b,off+(i*Ca+k),none⟩) hbw).trans cx0) (by simp;omega)
       have cy:wr.cell? ⟨b',off'+(xk*d+xj).toNat,none⟩=some (.int .i64 y):=by
        rw[idx_nat HXK.out HXJ.out Hd.out]
        exact HGR3.out.cell ((HBL.out.cell (p:=⟨b',off'+(k*Cb+j),none⟩) hbw').trans cy0) (by simp;omega)
       have cz:wr.cell? ⟨g,(xi*d+xj).toNat,none⟩=some (.int .i64 (dot ma.cells mb.cells Ca Cb i j k)):=by
        rw[idx_nat HXI.out HXJ.out Hd.out,<-mulF_at ma.cells mb.cells Ca Cb k i j hjC]
        exact HRO3.out.cell (tab_at (by have:=HN.out;omega))
       have fz:wr.frozen? ⟨g,(xi*d+xj).toNat,none⟩=false:=HRO3.out.frozen _
       have j1:=HGR3.out.cell HA.out.2.1 (by simp;omega)
       have j2:=HGR3.out.cell HA.out.2.2 (by simp;omega)
       have d2:=HGR3.out.cell HBX.out.2 (by simp;omega)
       have p1:=HGR3.out.cell HM.out.2.1 (by simp;omega)
       have p2:=HGR3.out.cell HM.out.2.2 (by simp;omega)
       obtain ⟨z,hz⟩:=gN (dot ma.cells mb.cells Ca Cb i j k)
       rw[hz]at cz
       subst hsva hsvb
       obtain ⟨Na,hNa⟩:=gN (ma.cells.length)
       obtain ⟨Nb,hNb⟩:=gN (mb.cells.length)
       rw[hNa]at j2
       rw[hNb]at d2
       have HX:=h_ hx
       have HY:=h_ hy
       have HZZ:=h_ hz
       have t1:=mul_bds HXI.out Hc.out (by omega) hCa
       have t2:=mul_bds HXK.out Hd.out (by omega) hCb
       have t3:=mul_bds HXI.out Hd.out (by omega) hCb
       have t4:xi*c+xk<(Na:Int):=by rw[mul_cast_idx HXI.out HXK.out Hc.out];have:=HLA.out;omega
       have t5:xk*d+xj<(Nb:Int):=by rw[mul_cast_idx HXK.out HXJ.out Hd.out];have:=HLB.out;omega
       have t6:xi*d+xj<(n:Int):=by rw[mul_cast_idx HXI.out HXJ.out Hd.out];have:=HN.out;omega
       have u1:=wrap_in (x:=xi*c) (by omega) (by omega)
       have u2:=wrap_in (x:=xi*c+xk) (by omega) (by omega)
       have u3:=wrap_in (x:=xk*d) (by omega) (by omega)
       have u4:=wrap_in (x:=xk*d+xj) (by omega) (by omega)
       have u5:=wrap_in (x:=xi*d) (by omega) (by omega)
       have u6:=wrap_in (x:=xi*d+xj) (by omega) (by omega)
       have g1:0<=xi*c+xk:=by omega
       have g2:0<=xk*d+xj:=by omega
       have g3:0<=xi*d+xj:=by omega
       clear hcla hclb h4a h4b cx0 cy0 hx hy hz hNa hNb hida hidb hidm
       go_wp2
       go_region_held3 (fun W'=>W'.cell? ⟨w.heap.size,1,none⟩=some (.int .i64 c)/\W'.cell? ⟨w.heap.size,2,none⟩=some (.slice (some ⟨b,off,none⟩) Na capa)/\W'.cell? ⟨w.heap.size+1,1,none⟩=some (.int .i64 d)/\W'.cell? ⟨w.heap.size+1,2,none⟩=some (.slice (some ⟨b',off',none⟩) Nb capb)/\W'.cell? ⟨b,off+(xi*c+xk).toNat,none⟩=some (.int .i64 x)/\W'.cell? ⟨b',off'+(xk*d+xj).toNat,none⟩=some (.int .i64 y)) (go_keep) (first|(go_at_call 91;refine (rmul_any _ _ _).mono ?_;rintro e w' ⟨rfl,rfl⟩))
       clear cx cy j1 j2 d2 u1 u2 u3 u4 g1 g2 t1 t2 t4 t5
       go_wp2
       refine region_tail 21 (by kernel_rfl) (by kernel_rfl) ?_
       simp only[List.take_succ_cons,List.take_zero,List.drop_succ_cons,List.drop_zero]
       repeat still_step
       still_call (radd_any _ _ _)
       repeat still_step
       refine wpStill_nil ?_
       go_wp2
       exact ⟨⟨j+1,_,by omega,by have:=HXJ.out;omega,rfl,by
        have h:=HRO3.out.set (i*Cb+j) (ad z (ml x y))
        rw[<-HZZ.out,mulF_step ma.cells mb.cells Ca Cb k i j n hjC x y HX.out HY.out]at h
        rw[idx_nat HXI.out HXJ.out Hd.out,<-HZZ.out]
        exact h,grown_drew (grown_drew (w_ HGR3.out _ _))⟩,by have:=HXJ.out;simp[intOf];omega⟩
      ·go_wp2
       go_roundw
       case rel=>exact ⟨i+1,_,by omega,by have:=HXI.out;omega,rfl,by have h:=HRO3.out;rw[show j=Cb by have:=HXJ.out;have:=Hd.out;omega,<-HN.out,mulF_row0,HN.out]at h;exact h,HGR3.out⟩
       case measure=>have:=HXI.out;simp[intOf];omega
    ·go_wp2
     go_roundw
     case rel=>exact ⟨k+1,_,by omega,by have:=HXK.out;omega,rfl,by have h:=HRO2.out;rw[show i=Ra by have:=HXI.out;have:=Hr.out;omega,<-HN.out,mulF_next,HN.out]at h;exact h,HGR2.out⟩
     case measure=>have:=HXK.out;simp[intOf];omega
  ·have hkC:k=Ca:=by have:=HXK.out;have:=Hc.out;omega
   have q0:=HGR.out.cell HRS.out.1 (by simp;omega)
   have q1:=HGR.out.cell HRS.out.2.1 (by simp;omega)
   have q2:=HGR.out.cell HRS.out.2.2 (by simp;omega)
   have p0:=HGR.out.cell HM.out.1 (by simp;omega)
   have p1:=HGR.out.cell HM.out.2.1 (by simp;omega)
   have p2:=HGR.out.cell HM.out.2.2 (by simp;omega)
   have z0:=grown_frozen HGR.out (HRF.out 0) (by have:=HZ.out;simp;omega) (by simp;omega)
   have z1:=grown_frozen HGR.out (HRF.out 1) (by have:=HZ.out;simp;omega) (by simp;omega)
   have z2:=grown_frozen HGR.out (HRF.out 2) (by have:=HZ.out;simp;omega) (by simp;omega)
   have HKC:=h_ hkC
   clear hkC
   go_wp2
   refine bodyPost_ret (v:=.agg #[.int .i64 r,.int .i64 d,.slice (some ⟨g,0,none⟩) n n]) (by simp[results,Tryz.results111,go_sem,q0,q1,q2]) rfl ⟨_,rfl,⟨.slice (some ⟨g,0,none⟩) n n,by rw[Hr.out,Hd.out],?_⟩,?_,fresh_at (by first|omega|(have:=HVS.out;have:=HG.out;omega)) _ _ _⟩
   ·have h:=HRO.out
    rw[HKC.out,mulF_end]at h
    show I_ _ _ (tab (Ra*Cb) _)
    rw[HN.out]
    exact (((h.other ⟨w.heap.size+1+1,0,none⟩ _ (by simp;omega)).other ⟨w.heap.size+1+1,1,none⟩ _ (by simp;omega)).other ⟨w.heap.size+1+1,2,none⟩ _ (by simp;omega)).isTab (by unfold maxLen;omega)
   ·exact (((HBL.out.grown HGR.out (by have:=HZ.out;omega) (fun k h=>by simp at h;omega)).setCell (by simp;omega) _).setCell (by simp;omega) _).setCell (by simp;omega) _
end Go.Proofs.YtniloklglpchfaeGreatDoor
