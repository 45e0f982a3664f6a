/- What LossFault and LossOf of the document's answer come to: what is wrong with two matrices, how far they are off, and what goes back. -/
import Derived.Test.YtniloklglpchfaeGreatDoorPkSame
import Derived.Test.YtniloklglpchfaeGreatDoorPkRTurn
import Derived.Test.YtniloklglpchfaeGreatDoorPkLBox
import Derived.Test.YtniloklglpchfaeGreatDoorPkMOps1
import Derived.Test.YtniloklglpchfaeGreatDoorPkStep
import Derived.Test.YtniloklglpchfaeGreatDoorPkNetLaw
import Derived.Test.YtniloklglpchfaeGreatDoorRNetBack
namespace Go.Proofs.YtniloklglpchfaeGreatDoor
open Go.RowKit
set_option maxHeartbeats 1600000 in
theorem rlossfault_any(va vb:Value)(ma mb:Mx)(w:World)(hva:M_ w va ma)(hvb:M_ w vb mb):Calls Tryz.prog 60 #[va,vb] w fun e w'=>e=.returned (.int .i64 (addE ma mb))/\Below w.heap.size w w':=by
 obtain ⟨sa,rfl,hsa⟩:=hva
 obtain ⟨sb',rfl,hsb⟩:=hvb
 obtain ⟨xa,xn,xk,rfl⟩:=hsa.shape
 obtain ⟨ya,yn,yk,rfl⟩:=hsb.shape
 obtain ⟨r,er⟩:=gN (ma.rows)
 obtain ⟨c,ec⟩:=gN (ma.cols)
 obtain ⟨r',er'⟩:=gN (mb.rows)
 obtain ⟨c',ec'⟩:=gN (mb.cols)
 have HA:=h_ (fun W (h:Below w.heap.size w W)=>fault_any (.agg #[.int .i64 ma.rows,.int .i64 ma.cols,.slice xa xn xk]) ma W ⟨_,rfl,hsa.u_ h⟩)
 have HB:=h_ (fun W (h:Below w.heap.size w W)=>fault_any (.agg #[.int .i64 mb.rows,.int .i64 mb.cols,.slice ya yn yk]) mb W ⟨_,rfl,hsb.u_ h⟩)
 rw[er,ec]at HA
 rw[er',ec']at HB
 have HES:=h_ (fun (h1:q_ ma=0) (h2:q_ mb=0)=>addE_s h1 h2)
 rw[er,ec,er',ec']at HES
 rw[er,ec,er',ec']
 obtain ⟨E,hE⟩:=gN (addE ma mb)
 have HE:=h_ hE
 rw[hE]at HES ⊢
 obtain ⟨V,hV⟩:=gM (((w.alloc (.cells #[.int .i64 r,.int .i64 c,.slice xa xn xk] 28)).alloc (.cells #[.int .i64 r',.int .i64 c',.slice ya yn yk] 28)))
 have HV:=h_ hV
 have HWV:Hid (Below w.heap.size w V):=by rw[hV];exact h_ (b_ (o_ _ _) (o_ _ _))
 have HXA:Hid (Box V w.heap.size [.int .i64 r,.int .i64 c,.slice xa xn xk]):=by rw[hV];exact h_ ((Box.new w [.int .i64 r,.int .i64 c,.slice xa xn xk] 28 rfl).u_ (o_ _ _))
 have HXB:Hid (Box V (w.heap.size+1) [.int .i64 r',.int .i64 c',.slice ya yn yk]):=by rw[hV];exact h_ (Box.new _ [.int .i64 r',.int .i64 c',.slice ya yn yk] 28 (by simp))
 clear hsa hsb er ec er' ec' hV hE
 obtain ⟨d0,d1,d2⟩:=HXA.out.c3
 rw[HV.out]at d0 d1 d2
 go_enter Tryz.func60,Tryz.ntmps60
 go_wp2_with fail
 rw[<-HV.out]
 refine (HA.out _ HWV.out).mono ?_
 rintro e w1 ⟨rfl,hb1⟩
 have HB1:=h_ hb1
 clear hb1 d0 d1 d2 HA
 by_cases ha:q_ ma=0
 ·rw[ha]
  obtain ⟨y0,y1,y2⟩:=(HXB.out.u_ HB1.out).c3
  have HFA:=h_ ha
  clear ha
  go_wp2_with fail
  refine (HB.out _ (b_ HWV.out HB1.out)).mono ?_
  rintro e w2 ⟨rfl,hb2⟩
  have HB2:=h_ (b_ HB1.out hb2)
  clear hb2 y0 y1 y2 HB
  by_cases hb:q_ mb=0
  ·rw[hb]
   have hes:=HES.out HFA.out hb
   obtain ⟨d0,d1⟩:=(HXA.out.u_ HB2.out).c2
   obtain ⟨y0,y1⟩:=(HXB.out.u_ HB2.out).c2
   clear hb
   by_cases hr:r=r'
   ·by_cases hc:c=c'
    ·have hE0:E=0:=by rw[hes,if_neg (by simp[hr,hc])]
     subst hr hc hE0
     clear hes
     go_wp2
     go_ret
     exact ⟨rfl,b_ HWV.out HB2.out⟩
    ·have hE0:E=2:=by rw[hes,if_pos (.inr hc)]
     have hc1:(c !=c')=true:=by simp[hc]
     subst hr hE0
     clear hes hc
     go_wp2
     go_ret
     exact ⟨rfl,b_ HWV.out HB2.out⟩
   ·have hE0:E=2:=by rw[hes,if_pos (.inl hr)]
    have hr1:(r !=r')=true:=by simp[hr]
    subst hE0
    clear hes hr
    go_wp2
    go_ret
    exact ⟨rfl,b_ HWV.out HB2.out⟩
  ·have hE0:q_ mb=E:=by rw[<-HE.out,addE_b HFA.out hb]
   rw[hE0]
   have hj0:(E==0)=false:=by rw[<-hE0];simp[hb]
   clear hb hE0
   go_wp2
   go_ret
   exact ⟨rfl,b_ HWV.out HB2.out⟩
 ·have hE0:q_ ma=E:=by rw[<-HE.out,addE_a ha]
  rw[hE0]
  have hj0:(E==0)=false:=by rw[<-hE0];simp[ha]
  clear ha hE0
  go_wp2
  go_ret
  exact ⟨rfl,b_ HWV.out HB1.out⟩
set_option maxHeartbeats 4000000 in
set_option maxRecDepth 100000 in
theorem rloss_any(va vb:Value)(ma mb:Mx)(R C:Nat)(w:World)(ga:Good ma R C)(gb:Good mb R C)(hva:M_ w va ma)(hvb:M_ w vb mb):
  Calls Tryz.prog 58 #[va,vb] w fun e w'=>∃v',e=.returned (.tuple #[.int .i64 (lossX ma mb),v'])/\M_ w' v' (offX ma mb)/\Below w.heap.size w w'/\F_ w.heap.size v':=by
 obtain ⟨sa,rfl,hsa⟩:=hva
 obtain ⟨sb',rfl,hsb⟩:=hvb
 obtain ⟨xa,xn,xk,rfl⟩:=hsa.shape
 obtain ⟨ya,yn,yk,rfl⟩:=hsb.shape
 obtain ⟨r,er⟩:=gN (ma.rows)
 obtain ⟨c,ec⟩:=gN (ma.cols)
 obtain ⟨r',er'⟩:=gN (mb.rows)
 obtain ⟨c',ec'⟩:=gN (mb.cols)
 obtain ⟨n,hn⟩:=gN (R*C)
 have hn576:n<=576:=by have:=Nat.mul_le_mul ga.hR ga.hC;omega
 have hE:addE ma mb=0:=by rw[addE_s ga.fault gb.fault,if_neg (by have:=ga.r;have:=gb.r;have:=ga.c;have:=gb.c;omega)]
 have hX:offX ma mb=⟨R,C,tab n (offAt ma mb)⟩:=by unfold offX;rw[if_pos hE,ga.r,ga.c,ga.l,hn]
 have hL:lossX ma mb=ml (lossS ma mb n) 128:=by unfold lossX;rw[if_pos hE,ga.l,hn]
 rw[hX,hL]
 clear hE hX hL
 have hzn:n=xn:=by obtain ⟨_,_,e,_⟩:=hsa;injection e with _ e _;rw[e,ga.l,hn]
 have hgn:n=yn:=by obtain ⟨_,_,e,_⟩:=hsb;injection e with _ e _;rw[e,gb.l,hn]
 subst hzn hgn
 have HLA:=h_ (show ma.cells.length=n by rw[ga.l,hn])
 have HLB:=h_ (show mb.cells.length=n by rw[gb.l,hn])
 have HN:=h_ hn
 have HMR:=h_ (show r=(R:Int)/\c=(C:Int) by rw[<-er,<-ec];exact ⟨ga.r,ga.c⟩)
 have HSA:=h_ hsa
 have HSB:=h_ hsb
 rw[er,ec,er',ec']
 obtain ⟨V,hV⟩:=gM ((((w.alloc (.cells #[.int .i64 r,.int .i64 c,.slice xa n xk] 28)).alloc (.cells #[.int .i64 r',.int .i64 c',.slice ya n yk] 28)).alloc (.cells #[.int .i64 0,.int .i64 0,.slice none 0 0] 28)))
 have HV:=h_ hV
 have HWV:Hid (Below w.heap.size w V):=by rw[hV];exact h_ (b_ (b_ (o_ _ _) (o_ _ _)) (o_ _ _))
 have HXA:Hid (Box V w.heap.size [.int .i64 r,.int .i64 c,.slice xa n xk]):=by rw[hV];exact h_ (((Box.new w [.int .i64 r,.int .i64 c,.slice xa n xk] 28 rfl).u_ (o_ _ _)).u_ (o_ _ _))
 have HXB:Hid (Box V (w.heap.size+1) [.int .i64 r',.int .i64 c',.slice ya n yk]):=by rw[hV];exact h_ ((Box.new _ [.int .i64 r',.int .i64 c',.slice ya n yk] 28 (by simp)).u_ (o_ _ _))
 have HQ:Hid (Box V (w.heap.size+1+1) [.int .i64 0,.int .i64 0,.slice none 0 0]):=by rw[hV];exact h_ (Box.new _ [.int .i64 0,.int .i64 0,.slice none 0 0] 28 (by simp))
 have HFR:Hid (Free V (w.heap.size+1+1)):=by rw[hV];exact h_ (Free.new _ _ 28 (by simp))
 clear hsa hsb er ec er' ec' hV hn ga gb
 obtain ⟨S,hS⟩:=gN (lossS ma mb n)
 have HS:=h_ hS
 have hbd:=lossS_bd ma mb n
 rw[hS]at hbd ⊢
 rw[<-half_t hbd.1 hbd.2]
 have hwr:=half_wrap hbd.1 hbd.2
 clear hS hbd
 have HBK:=h_ (fun W=>blank_any r c n W (by rw[HMR.out.1,HMR.out.2,<-HN.out];simp) (by omega))
 obtain ⟨d0,d1⟩:=HXA.out.c2
 rw[HV.out]at d0 d1
 go_enter Tryz.func58,Tryz.ntmps58
 go_wp2_with fail
 rw[<-HV.out]
 refine (HBK.out _).mono ?_
 rintro e w1 ⟨g,rfl,hg,hrow,hb1⟩
 have hglt:g<w1.heap.size:=hrow.lt
 have HB1:=h_ hb1
 have HG:=h_ hg
 have HR:=h_ (hrow.alloc (.cells #[.int .i64 r,.int .i64 c,.slice (some ⟨g,0,none⟩) n n] 28))
 have HAI:=h_ (HSA.out.u_ HWV.out)
 have HBI:=h_ (HSB.out.u_ HWV.out)
 clear hb1 hg hrow HBK d0 d1
 go_wp2
 go_loopw [7,8] (fun s a wr=>∃(i:Nat) (xi:Int),i<=n/\xi=(i:Int)/\a=.int .i64 xi/\s=.int .i64 (lossS ma mb i)/\RowAt 3 wr g (tab n (fillF (offAt ma mb) i))/\(w1.alloc (.cells #[.int .i64 r,.int .i64 c,.slice (some ⟨g,0,none⟩) n n] 28)).grownBy wr (some g)) (fun _ a _=>n - (intOf a).toNat)
 case atStart=>exact ⟨0,0,Nat.zero_le _,rfl,rfl,rfl,by rw[<-fillF_zero];exact HR.out,World.grownBy.refl _ _⟩
 case round=>
  obtain ⟨i,xi,hi,hxi,rfl,rfl,hro,hgr⟩:=hrel
  have p2:=X_ hglt hgr (j:=2) rfl
  have jx:=k_ HB1.out HG.out hgr (HXA.out 2 _ rfl)
  have jy:=k_ HB1.out HG.out hgr (HXB.out 2 _ rfl)
  have HRO:=h_ hro
  have HGR:=h_ hgr
  have HXJ:=h_ hxi
  have hxi0:0<=xi:=by omega
  have hxi1:xi<=576:=by omega
  clear hro hgr hxi
  by_cases hlt:xi<(n:Int)
  ·have hin:i<n:=by have:=HXJ.out;omega
   have hxn:xi.toNat=i:=by have:=HXJ.out;omega
   obtain ⟨x,hx⟩:∃z,ma.cells[i]?=some z:=⟨ma.cells[i]'(by have:=HLA.out;omega),List.getElem?_eq_getElem _⟩
   obtain ⟨y,hy⟩:∃z,mb.cells[i]?=some z:=⟨mb.cells[i]'(by have:=HLB.out;omega),List.getElem?_eq_getElem _⟩
   obtain ⟨a1,c1,es1,_,_,h41⟩:=HAI.out
   obtain ⟨a2,c2,es2,_,_,h42⟩:=HBI.out
   injection es1 with s11 s12 s13
   injection es2 with s21 s22 s23
   clear s12 s13 s22 s23
   obtain ⟨bx,ox,rx,hclx⟩:=h41.resolve_left (fun e=>by rw[e]at hx;simp at hx)
   obtain ⟨by',oy,ry,hcly⟩:=h42.resolve_left (fun e=>by rw[e]at hy;simp at hy)
   have sx:=s11.trans rx
   have sy:=s21.trans ry
   clear s11 s21 rx ry h41 h42
   subst sx sy
   have cx:wr.cell? ⟨bx,ox+xi.toNat,none⟩=some (.int .i64 x):=by rw[hxn];exact k_ HB1.out HG.out HGR.out (hclx _ _ hx)
   have cy:wr.cell? ⟨by',oy+xi.toNat,none⟩=some (.int .i64 y):=by rw[hxn];exact k_ HB1.out HG.out HGR.out (hcly _ _ hy)
   obtain ⟨u,dx⟩:∃u,wr.cell? ⟨g,xi.toNat,none⟩=some (.int .i64 u):=⟨_,by rw[hxn];exact HRO.out.cell (tab_at hin)⟩
   have fx:wr.frozen? ⟨g,xi.toNat,none⟩=false:=HRO.out.frozen _
   have HXN:=h_ hxn
   obtain ⟨d,hd⟩:=gN (sb x y)
   have HW:=h_ (show fillF_ok (offAt ma mb) i d by show sb (A_ ma i) (A_ mb i)=d;rw[cellAt_some hx,cellAt_some hy,hd])
   have HD:=h_ hd
   obtain ⟨U,hU⟩:=gM ((wr.setCell ⟨g,xi.toNat,none⟩ (.int .i64 d)).drew)
   have HU:=h_ hU
   have m1:U.cell? ⟨g,xi.toNat,none⟩=some (.int .i64 d):=by rw[hU];exact World.cell?_setCell_same _ _ _ dx
   have m2:U.cell? ⟨w1.heap.size,2,none⟩=some (.slice (some ⟨g,0,none⟩) n n):=by rw[hU];exact cell_other p2 (show w1.heap.size≠g by omega) _ _
   have HM:=h_ (And.intro m1 m2)
   clear hclx hx hcly hy hxn hd hU m1 m2
   go_wp2
   refine region_tail 15 (by kernel_rfl) (by kernel_rfl) ?_
   simp only[List.take_succ_cons,List.take_zero,List.drop_succ_cons,List.drop_zero]
   repeat still_step
   still_call (rsub_any _ _ _)
   repeat still_step
   refine wpStill_nil ?_
   rw[HD.out]
   obtain ⟨m1,m2⟩:=HM.out
   go_wp2
   rw[<-HU.out]
   clear p2 jx jy cx cy dx fx
   go_quiet ((go_at_call 91;refine Calls.quiet_of_same (rmul_any _ _ _)))
   go_wp2_with (first|(go_at_call 30;refine (radd_any _ _ _).mono ?_;rintro e w' ⟨rfl,rfl⟩))
   go_roundw
   case rel=>exact ⟨i+1,_,by omega,by have:=HXJ.out;omega,rfl,by show _=Value.int .i64 (ad (lossS ma mb i) (ml (offAt ma mb i) (offAt ma mb i)));rw[show offAt ma mb i=d from HW.out],by
    rw[<-fillF_step _ i n _ HW.out,HU.out,HXN.out]
    exact RowAt.drewN (RowAt.drew (HRO.out.set i _)) _,by rw[HU.out];exact grown_drewN (grown_drew (w_ HGR.out _ _)) _⟩
   case measure=>have:=HXJ.out;simp[intOf];omega
  ·have hin:i=n:=by have:=HXJ.out;omega
   rw[hin,HS.out]
   have p0:=X_ hglt HGR.out (j:=0) rfl
   have p1:=X_ hglt HGR.out (j:=1) rfl
   have q0:=k_ HB1.out HG.out HGR.out (HQ.out 0 _ rfl)
   have f0:=z_ HB1.out HG.out HGR.out (p:=⟨w.heap.size+1+1,0,none⟩) HQ.out.lt (HFR.out 0)
   have q1:=k_ HB1.out HG.out HGR.out (HQ.out 1 _ rfl)
   have f1:=z_ HB1.out HG.out HGR.out (p:=⟨w.heap.size+1+1,1,none⟩) HQ.out.lt (HFR.out 1)
   have q2:=k_ HB1.out HG.out HGR.out (HQ.out 2 _ rfl)
   have f2:=z_ HB1.out HG.out HGR.out (p:=⟨w.heap.size+1+1,2,none⟩) HQ.out.lt (HFR.out 2)
   have HIN:=h_ hin
   clear hin
   go_wp2
   clear jx jy hi hxi0 hxi1 hlt
   go_region
   all_goals go_wp2
   all_goals
    have hgw:w.heap.size+1+1≠g:=by have:=HQ.out.lt;have:=HG.out;omega
    have hrw:=HRO.out
    rw[HIN.out,fillF_end]at hrw
    refine bodyPost_ret (v:=.tuple #[.int .i64 (S.tdiv 2),.agg #[.int .i64 r,.int .i64 c,.slice (some ⟨g,0,none⟩) n n]]) (by simp[results,Tryz.results58,go_sem,q0,q1,q2,hwr]) rfl ⟨_,rfl,⟨_,by rw[HMR.out.1,HMR.out.2],?_⟩,?_,fresh_at (by have:=HWV.out.size;have:=HG.out;omega) _ _ _⟩
    ·exact RowAt.isTab (e:=3) (RowAt.drew (((hrw.other ⟨w.heap.size+1+1,0,none⟩ _ hgw.symm).other ⟨w.heap.size+1+1,1,none⟩ _ hgw.symm).other ⟨w.heap.size+1+1,2,none⟩ _ hgw.symm)) (by unfold maxLen;omega)
    ·exact r_ (S_ (keep_below HWV.out HB1.out HG.out HGR.out) (by omega) _ _ _)
set_option maxHeartbeats 8000000 in
set_option maxRecDepth 100000 in
theorem rpart_any(v:Value)(ls:List Ly)(b:Mx×Mx)(R C:Nat)(sa:Option Addr)(sn sk:Nat)(ta:Option Addr)(tn tk:Nat)(w:World)(hv:Y_ w v ls)(hs:I_ w (.slice sa sn sk) b.1.cells)(ht:I_ w (.slice ta tn tk) b.2.cells)(hE:ngE ls b.1=0)(gl:Good (endX ls b.1) R C)(gb:Good b.2 R C):
  Calls Tryz.prog 28 #[v,.agg #[.int .i64 b.1.rows,.int .i64 b.1.cols,.slice sa sn sk,.int .i64 b.2.rows,.int .i64 b.2.cols,.slice ta tn tk]] w fun e w'=>∃u,e=.returned (.tuple #[u,.int .i64 (prtX ls b)])/\D_ w' u (prtD ls b)/\Below w.heap.size w w':=by
 obtain ⟨a,cap,rfl,hlc,hcm⟩:=hv.shape
 have HV:=h_ hv
 obtain ⟨N,hN⟩:=gN (ls.length)
 have h12:N<=12:=by
  unfold ngE at hE
  by_cases h:12<ls.length
  ·rw[if_pos h]at hE;cases hE
  ·omega
 obtain ⟨V,hV⟩:=gM (w.alloc (.cells #[.int .i64 b.1.rows,.int .i64 b.1.cols,.slice sa sn sk,.int .i64 b.2.rows,.int .i64 b.2.cols,.slice ta tn tk] 30))
 have HVV:=h_ hV
 have HWV:Hid (Below w.heap.size w V):=by rw[hV];exact h_ (o_ _ _)
 have HBX:Hid (Box V w.heap.size [.int .i64 b.1.rows,.int .i64 b.1.cols,.slice sa sn sk,.int .i64 b.2.rows,.int .i64 b.2.cols,.slice ta tn tk]):=by rw[hV];exact h_ (Box.new w _ 30 rfl)
 have HGO:=h_ (rnetgo_any (.slice a ls.length cap) (.agg #[.int .i64 b.1.rows,.int .i64 b.1.cols,.slice sa sn sk]) ls b.1 V (hv.u_ HWV.out) ⟨_,rfl,hs.u_ HWV.out⟩)
 have HX:Hid (ngX ls b.1=b.1::runT ls b.1):=h_ (by unfold ngX;rw[if_pos hE])
 obtain ⟨g,hg⟩:=gN (endX ls b.1)
 have HLA:=h_ (show (ngX ls b.1)[N]?=some g by rw[HX.out,<-hN,endX_at,hg])
 have HLN:=h_ (show (ngX ls b.1).length=N+1 by rw[HX.out,List.length_cons,runT_len,hN])
 obtain ⟨q,hq⟩:=gN (offX g b.2)
 obtain ⟨x,hx⟩:=gN (lossX g b.2)
 have HPX:=h_ (show prtX ls b=x/\prtD ls b=nbD ls (ngX ls b.1) q by unfold prtX prtD prtG;rw[hg,hx,hq];exact ⟨rfl,rfl⟩)
 have HLO:=h_ (fun W (vg:Value) (h:Below w.heap.size w W) (hvg:M_ W vg g)=>rloss_any vg (.agg #[.int .i64 b.2.rows,.int .i64 b.2.cols,.slice ta tn tk]) g b.2 R C W (hg▸gl) gb hvg ⟨_,rfl,ht.u_ h⟩)
 rw[hq,hx]at HLO
 have HBK:=h_ (fun W (vs vg:Value) (h:Below w.heap.size w W) (hvs:IsMxs W vs (ngX ls b.1)) (hvg:M_ W vg q)=>rnetback_any (.slice a ls.length cap) vs vg ls (ngX ls b.1) q W (hv.u_ h) hvs hvg)
 rw[hE]at HGO
 rw[hN]at HGO HBK ⊢
 rw[HPX.out.1,HPX.out.2]
 obtain ⟨E',hE'⟩:=gN (nbE ls (ngX ls b.1) q)
 obtain ⟨Y,hY⟩:=gN (nbX ls (ngX ls b.1) q)
 rw[hE',hY]at HBK
 obtain ⟨d0,d1,d2⟩:=HBX.out.c3
 rw[HVV.out]at d0 d1 d2
 clear hV hv hs ht hE gl gb hlc hcm hN hg hq hx hE' hY
 go_enter Tryz.func28,Tryz.ntmps28
 go_wp2_with fail
 rw[<-HVV.out]
 refine HGO.out.mono ?_
 rintro e w1 ⟨vs,rfl,hm,hb1⟩
 obtain ⟨sb,so,scp,ga,gn,gk,rfl,c0,c1,c2,hgi⟩:=hm.at HLA.out
 rw[HLN.out]at hm ⊢
 have HMS:=h_ hm
 have HB1:=h_ hb1
 have HW1:=h_ (b_ HWV.out hb1)
 have HGI:=h_ hgi
 have hidx:((N+1:Nat):Int) - 1=(N:Int):=by omega
 have HL:=h_ (HLO.out (w1.alloc (.cells #[.int .i64 g.rows,.int .i64 g.cols,.slice ga gn gk] 28)) (.agg #[.int .i64 g.rows,.int .i64 g.cols,.slice ga gn gk]) (a_ HW1.out) ⟨_,rfl,HGI.out.u_ (o_ _ _)⟩)
 obtain ⟨d3,d4,d5⟩:=(HBX.out.u_ (a_ (o:=.cells #[.int .i64 g.rows,.int .i64 g.cols,.slice ga gn gk] 28) HB1.out)).c35
 clear hm hb1 hgi d0 d1 d2 HGO HLO
 go_wp2_with fail
 refine HL.out.mono ?_
 rintro e w2 ⟨v',rfl,⟨sq,rfl,hsq⟩,hb2,_⟩
 obtain ⟨oa,on,ok,rfl⟩:=hsq.shape
 have HB2:=h_ (show Below w1.heap.size w1 (w2.alloc (.cells #[.int .i64 q.rows,.int .i64 q.cols,.slice oa on ok] 28)) from a_ (b_ (o_ w1 (.cells #[.int .i64 g.rows,.int .i64 g.cols,.slice ga gn gk] 28)) hb2))
 have HB:=h_ (HBK.out (w2.alloc (.cells #[.int .i64 q.rows,.int .i64 q.cols,.slice oa on ok] 28)) (.slice (some ⟨sb,so,none⟩) (N+1) scp) (.agg #[.int .i64 q.rows,.int .i64 q.cols,.slice oa on ok]) (b_ HW1.out HB2.out) (HMS.out.u_ HB2.out) ⟨_,rfl,hsq.u_ (o_ _ _)⟩)
 have e0:=box_new w2 #[.int .i64 q.rows,.int .i64 q.cols,.slice oa on ok] 28 (j:=0) rfl rfl
 have e1:=box_new w2 #[.int .i64 q.rows,.int .i64 q.cols,.slice oa on ok] 28 (j:=1) rfl rfl
 have e2:=box_new w2 #[.int .i64 q.rows,.int .i64 q.cols,.slice oa on ok] 28 (j:=2) rfl rfl
 clear hsq hb2 HL HBK c0 c1 c2 d3 d4 d5 hidx
 go_wp2_with fail
 refine HB.out.mono ?_
 rintro e w3 ⟨sx,vd,rfl,hp,ho,hb3⟩
 obtain ⟨ya,yn,yk,rfl⟩:=hp.1.shape
 have HGD:=h_ (show D_ (w3.alloc (.cells #[.int .i64 Y.rows,.int .i64 Y.cols,.slice ya yn yk] 28)) vd (nbD ls (ngX ls b.1) q) from ho.reads.u_ (o_ _ _))
 have HBE:=h_ (show Below w.heap.size w (w3.alloc (.cells #[.int .i64 Y.rows,.int .i64 Y.cols,.slice ya yn yk] 28)) from a_ (b_ (b_ HW1.out HB2.out) hb3))
 clear hp ho hb3 HB e0 e1 e2
 go_wp2
 exact bodyPost_ret (v:=.tuple #[vd,.int .i64 x]) (by simp[results,Tryz.results28,go_sem]) rfl ⟨_,rfl,HGD.out,HBE.out⟩
end Go.Proofs.YtniloklglpchfaeGreatDoor
