/- What Add, Times and Sums of package mat come to. -/
import Derived.Test.YtniloklglpchfakGreatPkHdP
namespace Go.Proofs.YtniloklglpchfakGreat
open Go.RowKit
def addE (a b:Mx):Int:=if faults [a,b]≠0 then faults [a,b] else if a.rows≠b.rows∨a.cols≠b.cols then 2 else 0
def addX (a b:Mx):Mx:=if addE a b=0 then ⟨a.rows,a.cols,tab (a.rows.toNat*a.cols.toNat) (fun q=>ad ((a.cells[q]?).getD 0) ((b.cells[q]?).getD 0))⟩ else noMx
theorem addX_no{a b:Mx}(h:addE a b≠0):addX a b=noMx:=by unfold addX;rw[if_neg h]
set_option maxHeartbeats 800000 in
theorem madd_any(va vb:Value)(ma mb:Mx)(w:World)(hva:M_ w va ma)(hvb:M_ w vb mb):
  Calls Tryz.prog 78 #[va,vb] w (MxErr w (addX ma mb) (addE ma mb)):=by
 obtain ⟨sa,rfl,hsa⟩:=hva
 obtain ⟨sb,rfl,hsb⟩:=hvb
 have b0:=o_ w (.cells #[.int .i64 ma.rows,.int .i64 ma.cols,sa] 28)
 have b1:=b0.trans ((o_ _ (.cells #[.int .i64 mb.rows,.int .i64 mb.cols,sb] 28)).mono b0.size)
 have b2:=b1.trans ((o_ _ (.cells #[.int .i64 0,.int .i64 0,.slice none 0 0] 28)).mono b1.size)
 have hmx:=mxs_two (hsa.u_ b2) (hsb.u_ b2) 28
 have hch:=checks_any _ _ _ hmx
 have HCH:=h_ hch
 clear hmx hch
 obtain ⟨W2,hW2⟩:=gM ((((w.alloc (.cells #[.int .i64 ma.rows,.int .i64 ma.cols,sa] 28)).alloc (.cells #[.int .i64 mb.rows,.int .i64 mb.cols,sb] 28)).alloc (.cells #[.int .i64 0,.int .i64 0,.slice none 0 0] 28)))
 have A0:BoxMx W2 (w.heap.size) ma:=by
  have h:=box_of (hsa) 28
  rw[hW2]
  have h:=h.u_ (o_ _ (.cells #[.int .i64 mb.rows,.int .i64 mb.cols,sb] 28))
  have h:=h.u_ (o_ _ (.cells #[.int .i64 0,.int .i64 0,.slice none 0 0] 28))
  simpa using h
 have A1:BoxMx W2 (w.heap.size+1) mb:=by
  have h:=box_of (hsb.u_ b0) 28
  rw[hW2]
  have h:=h.u_ (o_ _ (.cells #[.int .i64 0,.int .i64 0,.slice none 0 0] 28))
  simpa using h
 have hW2s:W2.heap.size=w.heap.size+3:=by rw[hW2];simp
 have hW2b:Below w.heap.size w W2:=by rw[hW2];exact b2
 have hQ:ResBox W2 (w.heap.size+1+1):=by rw[hW2];exact ResBox.new _ _ (by simp)
 rw[←hW2]at HCH
 have HQ:=h_ hQ
 have HW2:=h_ hW2
 have HA0:=h_ A0
 have HA1:=h_ A1
 have HS:=h_ hW2s
 have HB:=h_ hW2b
 clear b0 b1 b2 hsa hsb A0 A1 hQ hW2s hW2b hW2
 go_enter Tryz.func78,Tryz.ntmps78
 go_wp2_with fail
 rw[←HW2.out]
 have h:=HCH.out
 rw[HS.out]at h
 refine h.mono ?_
 clear h
 rintro e w3 ⟨rfl,hb3⟩
 have hb:=(o_ W2 _).trans (hb3.mono (by simp))
 have HB3:=h_ hb
 have p:=HQ.out.u_ hb
 have p0:=p.c0
 have p1:=p.c1
 have p2:=p.c2
 have p3:=p.f 0
 have p4:=p.f 1
 have p5:=p.f 2
 clear hb hb3 p HCH HQ
 have HW:=h_ (HB.out.trans (HB3.out.mono HB.out.size))
 have ret0:∀(t u:Value),Below w.heap.size w (((w3.setCell ⟨w.heap.size+1+1,0,none⟩ t).setCell ⟨w.heap.size+1+1,1,none⟩ u).setCell ⟨w.heap.size+1+1,2,none⟩ (.slice none 0 0)):=fun t u=>((HW.out.setCell (by first|(simp;done)|(simp;omega)) _).setCell (by first|(simp;done)|(simp;omega)) _).setCell (by first|(simp;done)|(simp;omega)) _
 have HRT:=h_ ret0
 clear ret0
 by_cases hf:faults [ma,mb]=0
 ·rw[e_ hf]
  obtain ⟨fa,fb⟩:=faults_two hf
  obtain ⟨Ra,Ca,ga⟩:=o__ fa
  obtain ⟨Rb,Cb,gb⟩:=o__ fb
  have ra1:=ga.r
  have ra2:=ga.hR
  have ra3:=ga.c
  have ra4:=ga.hC
  have ka1:0≤ma.rows:=by omega
  have ka2:ma.rows≤24:=by omega
  have ka3:0≤ma.cols:=by omega
  have ka4:ma.cols≤12:=by omega
  have rb1:=gb.r
  have rb2:=gb.hR
  have rb3:=gb.c
  have rb4:=gb.hC
  obtain ⟨s0,d00,d01,d02,hi0⟩:=HA0.out.u_ HB3.out
  obtain ⟨s1,d10,d11,d12,hi1⟩:=HA1.out.u_ HB3.out
  by_cases hs1:ma.rows=mb.rows
  ·have g1:=eqF hs1
   by_cases hs2:ma.cols=mb.cols
   ·have g2:=eqF hs2
    have HE:=h_ (show addE ma mb=0 from by unfold addE;rw[if_neg (by simp[hf]),if_neg (by simp[hs1,hs2])])
    have eg:=enters_of (f:=104) Tryz.func104 (by kernel_rfl) rfl
    have e1:Ra=Rb:=by omega
    have e2:Ca=Cb:=by omega
    subst e1 e2
    have hg:=add_gives w.heap.size (w.heap.size+1) ma mb Ra Ca w3 (HA0.out.u_ HB3.out) (HA1.out.u_ HB3.out) ga.c gb.c ga.hR (by omega) ga.l gb.l
    clear hs1 hs2
    have HF:=h_ (fill_any _ _ eg Ra Ca ma.rows ma.cols ga.r ga.c ga.hR (by omega) _ w3 hg)
    have HG:=h_ (And.intro ga gb)
    clear hg eg hf ga ra1 ra2 ra3 ra4 gb fa fb rb1 rb2 rb3 rb4 hi0 hi1
    go_wp2_with fail
    refine HF.out.mono ?_
    rintro e w4 ⟨xa,xn,xc,rfl,hnew,hb4⟩
    have HN:=h_ hnew
    have HB4:=h_ hb4
    have o0:=c_ hb4 p0
    have o1:=c_ hb4 p1
    have o2:=c_ hb4 p2
    have hlt:w.heap.size+1+1<w3.heap.size:=World.block_lt_of_cell? w3 _ p0
    have o3:=(hb4.frozen (p:=⟨w.heap.size+1+1,0,none⟩) hlt).trans p3
    have o4:=(hb4.frozen (p:=⟨w.heap.size+1+1,1,none⟩) hlt).trans p4
    have o5:=(hb4.frozen (p:=⟨w.heap.size+1+1,2,none⟩) hlt).trans p5
    have HLT:=h_ hlt
    clear hnew hb4 hlt p0 p1 p2 p3 p4 p5 d00 d01 d02 d10 d11 d12
    go_wp2
    refine bodyPost_ret (v:=.tuple #[.agg #[.int .i64 (ma.rows),.int .i64 (ma.cols),.slice xa xn xc],.nilIface]) (by simp[results,Tryz.results78,go_sem,o0,o1,o2]) rfl ⟨_,by rw[HE.out];rfl,?_,?_,HN.out.fresh HW.out.size _ _⟩
    ·have HI:=(((HN.out.set HLT.out 0 (.int .i64 (ma.rows))).set HLT.out 1 (.int .i64 (ma.cols))).set HLT.out 2 (.slice xa xn xc)).isInts
     unfold addX
     rw[if_pos HE.out]
     refine ⟨_,rfl,?_⟩
     simp only[cell_num]at HI
     rw[HG.out.1.r,HG.out.1.c]at HI ⊢
     exact HI
    ·exact (((HW.out.trans (HB4.out.mono HW.out.size)).setCell (by first|(simp;done)|(simp;omega)) _).setCell (by first|(simp;done)|(simp;omega)) _).setCell (by first|(simp;done)|(simp;omega)) _
   ·have g2:=eqT hs2
    have HE:=h_ (show addE ma mb=2 from by unfold addE;rw[if_neg (by simp[hf]),if_pos (.inr hs2)])
    clear hf ga ra1 ra2 ra3 ra4 gb fa fb rb1 rb2 rb3 rb4 hi0 hi1
    clear hs1 hs2
    go_wp2
    refine bodyPost_ret (v:=.tuple #[.agg #[.int .i64 0,.int .i64 0,.slice none 0 0],.iface 94 (.int .i64 2)]) (by simp[results,Tryz.results78,go_sem,p0,p1,p2]) rfl ⟨_,by rw[HE.out];rfl,by rw[addX_no (by rw[HE.out];decide)];exact isMx_no _,HRT.out _ _,y_ _ _ _⟩
  ·have g1:=eqT hs1
   have HE:=h_ (show addE ma mb=2 from by unfold addE;rw[if_neg (by simp[hf]),if_pos (.inl hs1)])
   clear hf ga ra1 ra2 ra3 ra4 gb fa fb rb1 rb2 rb3 rb4 hi0 hi1
   clear hs1
   go_wp2
   refine bodyPost_ret (v:=.tuple #[.agg #[.int .i64 0,.int .i64 0,.slice none 0 0],.iface 94 (.int .i64 2)]) (by simp[results,Tryz.results78,go_sem,p0,p1,p2]) rfl ⟨_,by rw[HE.out];rfl,by rw[addX_no (by rw[HE.out];decide)];exact isMx_no _,HRT.out _ _,y_ _ _ _⟩
 ·have hE:addE ma mb=faults [ma,mb]:=by unfold addE;rw[if_pos hf]
  have HE:=h_ (And.intro hE hf)
  rw[n_ hf]
  obtain ⟨k,hk⟩:=gN (faults [ma,mb])
  rw[hk]at HE ⊢
  clear hE hf hk
  go_wp2
  refine bodyPost_ret (v:=.tuple #[.agg #[.int .i64 0,.int .i64 0,.slice none 0 0],.iface 94 (.int .i64 k)]) (by simp[results,Tryz.results78,go_sem,p0,p1,p2]) rfl ⟨_,by rw[HE.out.1,n_ HE.out.2],by rw[addX_no (by rw[HE.out.1];exact HE.out.2)];exact isMx_no _,HRT.out _ _,y_ _ _ _⟩
def timesE (a:Mx):Int:=if q_ a≠0 then q_ a else 0
def timesX (a:Mx) (x:Int):Mx:=if timesE a=0 then ⟨a.rows,a.cols,tab (a.rows.toNat*a.cols.toNat) (fun q=>ml ((a.cells[q]?).getD 0) x)⟩ else noMx
theorem timesX_no{a:Mx}{x:Int}(h:timesE a≠0):timesX a x=noMx:=by unfold timesX;rw[if_neg h]
set_option maxHeartbeats 800000 in
theorem mtimes_any(va:Value)(ma:Mx)(x:Int)(w:World)(hva:M_ w va ma):
  Calls Tryz.prog 172 #[va,.int .i64 x] w (MxErr w (timesX ma x) (timesE ma)):=by
 obtain ⟨sa,rfl,hsa⟩:=hva
 have b0:=o_ w (.cells #[.int .i64 ma.rows,.int .i64 ma.cols,sa] 28)
 have b1:=b0.trans ((o_ _ (.cells #[.int .i64 x] 3)).mono b0.size)
 have b2:=b1.trans ((o_ _ (.cells #[.int .i64 0,.int .i64 0,.slice none 0 0] 28)).mono b1.size)
 have hmx:=mxs_one (hsa.u_ b2) 28
 have hch:=checks_any _ _ _ hmx
 rw[faults_one]at hch
 have HCH:=h_ hch
 clear hmx hch
 obtain ⟨W2,hW2⟩:=gM ((((w.alloc (.cells #[.int .i64 ma.rows,.int .i64 ma.cols,sa] 28)).alloc (.cells #[.int .i64 x] 3)).alloc (.cells #[.int .i64 0,.int .i64 0,.slice none 0 0] 28)))
 have A0:BoxMx W2 (w.heap.size) ma:=by
  have h:=box_of (hsa) 28
  rw[hW2]
  have h:=h.u_ (o_ _ (.cells #[.int .i64 x] 3))
  have h:=h.u_ (o_ _ (.cells #[.int .i64 0,.int .i64 0,.slice none 0 0] 28))
  simpa using h
 have A1:W2.cell? ⟨w.heap.size+1,0,none⟩=some (.int .i64 x):=by
  have h:=box_new (w.alloc (.cells #[.int .i64 ma.rows,.int .i64 ma.cols,sa] 28)) #[.int .i64 x] 3 (B:=w.heap.size+1) (j:=0) (x:=.int .i64 x) (by simp) rfl
  rw[hW2]
  have h:=p_ h (.cells #[.int .i64 0,.int .i64 0,.slice none 0 0] 28)
  exact h
 have hW2s:W2.heap.size=w.heap.size+3:=by rw[hW2];simp
 have hW2b:Below w.heap.size w W2:=by rw[hW2];exact b2
 have hQ:ResBox W2 (w.heap.size+1+1):=by rw[hW2];exact ResBox.new _ _ (by simp)
 rw[←hW2]at HCH
 have HQ:=h_ hQ
 have HW2:=h_ hW2
 have HA0:=h_ A0
 have HA1:=h_ A1
 have HS:=h_ hW2s
 have HB:=h_ hW2b
 clear b0 b1 b2 hsa A0 A1 hQ hW2s hW2b hW2
 go_enter Tryz.func172,Tryz.ntmps172
 go_wp2_with fail
 rw[←HW2.out]
 have h:=HCH.out
 rw[HS.out]at h
 refine h.mono ?_
 clear h
 rintro e w3 ⟨rfl,hb3⟩
 have hb:=(o_ W2 _).trans (hb3.mono (by simp))
 have HB3:=h_ hb
 have p:=HQ.out.u_ hb
 have p0:=p.c0
 have p1:=p.c1
 have p2:=p.c2
 have p3:=p.f 0
 have p4:=p.f 1
 have p5:=p.f 2
 clear hb hb3 p HCH HQ
 have HW:=h_ (HB.out.trans (HB3.out.mono HB.out.size))
 have ret0:∀(t u:Value),Below w.heap.size w (((w3.setCell ⟨w.heap.size+1+1,0,none⟩ t).setCell ⟨w.heap.size+1+1,1,none⟩ u).setCell ⟨w.heap.size+1+1,2,none⟩ (.slice none 0 0)):=fun t u=>((HW.out.setCell (by first|(simp;done)|(simp;omega)) _).setCell (by first|(simp;done)|(simp;omega)) _).setCell (by first|(simp;done)|(simp;omega)) _
 have HRT:=h_ ret0
 clear ret0
 by_cases hf:q_ ma=0
 ·rw[e_ hf]
  obtain ⟨Ra,Ca,ga⟩:=o__ hf
  have ra1:=ga.r
  have ra2:=ga.hR
  have ra3:=ga.c
  have ra4:=ga.hC
  have ka1:0≤ma.rows:=by omega
  have ka2:ma.rows≤24:=by omega
  have ka3:0≤ma.cols:=by omega
  have ka4:ma.cols≤12:=by omega
  obtain ⟨s0,d00,d01,d02,hi0⟩:=HA0.out.u_ HB3.out
  have d10:=c_ HB3.out HA1.out
  have HE:=h_ (show timesE ma=0 from by unfold timesE;rw[if_neg (by simp[hf])])
  have eg:=enters_of (f:=173) Tryz.func173 (by kernel_rfl) rfl
  have hg:=times_gives w.heap.size (w.heap.size+1) ma x Ra Ca w3 (HA0.out.u_ HB3.out) (c_ HB3.out HA1.out) ga.c ga.hR (by omega) ga.l
  have HF:=h_ (fill_any _ _ eg Ra Ca ma.rows ma.cols ga.r ga.c ga.hR (by omega) _ w3 hg)
  have HG:=h_ (And.intro ga trivial)
  clear hg eg hf ga ra1 ra2 ra3 ra4 hi0
  go_wp2_with fail
  refine HF.out.mono ?_
  rintro e w4 ⟨xa,xn,xc,rfl,hnew,hb4⟩
  have HN:=h_ hnew
  have HB4:=h_ hb4
  have o0:=c_ hb4 p0
  have o1:=c_ hb4 p1
  have o2:=c_ hb4 p2
  have hlt:w.heap.size+1+1<w3.heap.size:=World.block_lt_of_cell? w3 _ p0
  have o3:=(hb4.frozen (p:=⟨w.heap.size+1+1,0,none⟩) hlt).trans p3
  have o4:=(hb4.frozen (p:=⟨w.heap.size+1+1,1,none⟩) hlt).trans p4
  have o5:=(hb4.frozen (p:=⟨w.heap.size+1+1,2,none⟩) hlt).trans p5
  have HLT:=h_ hlt
  clear hnew hb4 hlt p0 p1 p2 p3 p4 p5 d00 d01 d02 d10
  go_wp2
  refine bodyPost_ret (v:=.tuple #[.agg #[.int .i64 (ma.rows),.int .i64 (ma.cols),.slice xa xn xc],.nilIface]) (by simp[results,Tryz.results172,go_sem,o0,o1,o2]) rfl ⟨_,by rw[HE.out];rfl,?_,?_,HN.out.fresh HW.out.size _ _⟩
  ·have HI:=(((HN.out.set HLT.out 0 (.int .i64 (ma.rows))).set HLT.out 1 (.int .i64 (ma.cols))).set HLT.out 2 (.slice xa xn xc)).isInts
   unfold timesX
   rw[if_pos HE.out]
   refine ⟨_,rfl,?_⟩
   simp only[cell_num]at HI
   rw[HG.out.1.r,HG.out.1.c]at HI ⊢
   exact HI
  ·exact (((HW.out.trans (HB4.out.mono HW.out.size)).setCell (by first|(simp;done)|(simp;omega)) _).setCell (by first|(simp;done)|(simp;omega)) _).setCell (by first|(simp;done)|(simp;omega)) _
 ·have hE:timesE ma=q_ ma:=by unfold timesE;rw[if_pos hf]
  have HE:=h_ (And.intro hE hf)
  rw[n_ hf]
  obtain ⟨k,hk⟩:=gN (q_ ma)
  rw[hk]at HE ⊢
  clear hE hf hk
  go_wp2
  refine bodyPost_ret (v:=.tuple #[.agg #[.int .i64 0,.int .i64 0,.slice none 0 0],.iface 94 (.int .i64 k)]) (by simp[results,Tryz.results172,go_sem,p0,p1,p2]) rfl ⟨_,by rw[HE.out.1,n_ HE.out.2],by rw[timesX_no (by rw[HE.out.1];exact HE.out.2)];exact isMx_no _,HRT.out _ _,y_ _ _ _⟩
def sumsX (a:Mx):Mx:=if timesE a=0 then ⟨1,a.cols,tab a.cols.toNat (fun q=>colS a.cells a.cols.toNat q a.rows.toNat)⟩ else noMx
theorem sumsX_no{a:Mx}(h:timesE a≠0):sumsX a=noMx:=by unfold sumsX;rw[if_neg h]
set_option maxHeartbeats 800000 in
theorem msums_any(va:Value)(ma:Mx)(w:World)(hva:M_ w va ma):
  Calls Tryz.prog 156 #[va] w (MxErr w (sumsX ma) (timesE ma)):=by
 obtain ⟨sa,rfl,hsa⟩:=hva
 have b0:=o_ w (.cells #[.int .i64 ma.rows,.int .i64 ma.cols,sa] 28)
 have b1:=b0.trans ((o_ _ (.cells #[.int .i64 0,.int .i64 0,.slice none 0 0] 28)).mono b0.size)
 have hmx:=mxs_one (hsa.u_ b1) 28
 have hch:=checks_any _ _ _ hmx
 rw[faults_one]at hch
 have HCH:=h_ hch
 clear hmx hch
 obtain ⟨W2,hW2⟩:=gM (((w.alloc (.cells #[.int .i64 ma.rows,.int .i64 ma.cols,sa] 28)).alloc (.cells #[.int .i64 0,.int .i64 0,.slice none 0 0] 28)))
 have A0:BoxMx W2 (w.heap.size) ma:=by
  have h:=box_of (hsa) 28
  rw[hW2]
  have h:=h.u_ (o_ _ (.cells #[.int .i64 0,.int .i64 0,.slice none 0 0] 28))
  simpa using h
 have hW2s:W2.heap.size=w.heap.size+2:=by rw[hW2];simp
 have hW2b:Below w.heap.size w W2:=by rw[hW2];exact b1
 have hQ:ResBox W2 (w.heap.size+1):=by rw[hW2];exact ResBox.new _ _ (by simp)
 rw[←hW2]at HCH
 have HQ:=h_ hQ
 have HW2:=h_ hW2
 have HA0:=h_ A0
 have HS:=h_ hW2s
 have HB:=h_ hW2b
 clear b0 b1 hsa A0 hQ hW2s hW2b hW2
 go_enter Tryz.func156,Tryz.ntmps156
 go_wp2_with fail
 rw[←HW2.out]
 have h:=HCH.out
 rw[HS.out]at h
 refine h.mono ?_
 clear h
 rintro e w3 ⟨rfl,hb3⟩
 have hb:=(o_ W2 _).trans (hb3.mono (by simp))
 have HB3:=h_ hb
 have p:=HQ.out.u_ hb
 have p0:=p.c0
 have p1:=p.c1
 have p2:=p.c2
 have p3:=p.f 0
 have p4:=p.f 1
 have p5:=p.f 2
 clear hb hb3 p HCH HQ
 have HW:=h_ (HB.out.trans (HB3.out.mono HB.out.size))
 have ret0:∀(t u:Value),Below w.heap.size w (((w3.setCell ⟨w.heap.size+1,0,none⟩ t).setCell ⟨w.heap.size+1,1,none⟩ u).setCell ⟨w.heap.size+1,2,none⟩ (.slice none 0 0)):=fun t u=>((HW.out.setCell (by first|(simp;done)|(simp;omega)) _).setCell (by first|(simp;done)|(simp;omega)) _).setCell (by first|(simp;done)|(simp;omega)) _
 have HRT:=h_ ret0
 clear ret0
 by_cases hf:q_ ma=0
 ·rw[e_ hf]
  obtain ⟨Ra,Ca,ga⟩:=o__ hf
  have ra1:=ga.r
  have ra2:=ga.hR
  have ra3:=ga.c
  have ra4:=ga.hC
  have ka1:0≤ma.rows:=by omega
  have ka2:ma.rows≤24:=by omega
  have ka3:0≤ma.cols:=by omega
  have ka4:ma.cols≤12:=by omega
  obtain ⟨s0,d00,d01,d02,hi0⟩:=HA0.out.u_ HB3.out
  have HE:=h_ (show timesE ma=0 from by unfold timesE;rw[if_neg (by simp[hf])])
  have eg:=enters_of (f:=161) Tryz.func161 (by kernel_rfl) rfl
  have hg:=sums_gives w.heap.size ma Ra Ca w3 (HA0.out.u_ HB3.out) ga.r ga.c ga.hR (by omega) ga.l
  have HF:=h_ (fill_any _ _ eg 1 Ca 1 ma.cols rfl ga.c (by omega) (by omega) _ w3 hg)
  have HG:=h_ (And.intro ga trivial)
  clear hg eg hf ga ra1 ra2 ra3 ra4 hi0
  go_wp2_with fail
  refine HF.out.mono ?_
  rintro e w4 ⟨xa,xn,xc,rfl,hnew,hb4⟩
  have HN:=h_ hnew
  have HB4:=h_ hb4
  have o0:=c_ hb4 p0
  have o1:=c_ hb4 p1
  have o2:=c_ hb4 p2
  have hlt:w.heap.size+1<w3.heap.size:=World.block_lt_of_cell? w3 _ p0
  have o3:=(hb4.frozen (p:=⟨w.heap.size+1,0,none⟩) hlt).trans p3
  have o4:=(hb4.frozen (p:=⟨w.heap.size+1,1,none⟩) hlt).trans p4
  have o5:=(hb4.frozen (p:=⟨w.heap.size+1,2,none⟩) hlt).trans p5
  have HLT:=h_ hlt
  clear hnew hb4 hlt p0 p1 p2 p3 p4 p5 d00 d01 d02
  go_wp2
  refine bodyPost_ret (v:=.tuple #[.agg #[.int .i64 (1),.int .i64 (ma.cols),.slice xa xn xc],.nilIface]) (by simp[results,Tryz.results156,go_sem,o0,o1,o2]) rfl ⟨_,by rw[HE.out];rfl,?_,?_,HN.out.fresh HW.out.size _ _⟩
  ·have HI:=(((HN.out.set HLT.out 0 (.int .i64 (1))).set HLT.out 1 (.int .i64 (ma.cols))).set HLT.out 2 (.slice xa xn xc)).isInts
   unfold sumsX
   rw[if_pos HE.out]
   refine ⟨_,rfl,?_⟩
   have e:tab (1*Ca) (fun q=>colS ma.cells Ca (q % Ca) Ra)=tab Ca (fun q=>colS ma.cells Ca q Ra):=by
    rw[Nat.one_mul];exact tab_congr (fun q hq=>by rw[Nat.mod_eq_of_lt hq])
   rw[e]at HI
   rw[HG.out.1.c]at HI ⊢
   rw[HG.out.1.r]
   exact HI
  ·exact (((HW.out.trans (HB4.out.mono HW.out.size)).setCell (by first|(simp;done)|(simp;omega)) _).setCell (by first|(simp;done)|(simp;omega)) _).setCell (by first|(simp;done)|(simp;omega)) _
 ·have hE:timesE ma=q_ ma:=by unfold timesE;rw[if_pos hf]
  have HE:=h_ (And.intro hE hf)
  rw[n_ hf]
  obtain ⟨k,hk⟩:=gN (q_ ma)
  rw[hk]at HE ⊢
  clear hE hf hk
  go_wp2
  refine bodyPost_ret (v:=.tuple #[.agg #[.int .i64 0,.int .i64 0,.slice none 0 0],.iface 94 (.int .i64 k)]) (by simp[results,Tryz.results156,go_sem,p0,p1,p2]) rfl ⟨_,by rw[HE.out.1,n_ HE.out.2],by rw[sumsX_no (by rw[HE.out.1];exact HE.out.2)];exact isMx_no _,HRT.out _ _,y_ _ _ _⟩
end Go.Proofs.YtniloklglpchfakGreat
