/- What the closures of Add, Times and Sums of package mat come to. -/
import Derived.Test.YtpniemnfdleiiajGreatDoorPkMAt
import Derived.Test.YtpniemnfdleiiajGreatDoorPlain
namespace Go.Proofs.YtpniemnfdleiiajGreatDoor
open Go.RowKit
set_option maxHeartbeats 400000 in
theorem times_gives(A X:Nat)(m:Mx)(x:Int)(R C:Nat)(w:World)(hA:BoxMx w A m)(hX:w.cell? ⟨X,0,none⟩=some (.int .i64 x))(hc:m.cols=(C:Int))(hR:R≤24)(hC:C≤24)(hl:m.cells.length=R*C):
  Gives 128 #[.pointer (some ⟨A,0,none⟩),.pointer (some ⟨X,0,none⟩)] R C (fun i j=>ml ((m.cells[i*C+j]?).getD 0) x) w:=by
 intro W i j xi xj hxi hxj hi hj hb
 obtain ⟨s,d0,d1,d2,hs⟩:=hA.u_ hb
 have d3:=c_ hb hX
 obtain ⟨sa,sn,sc,rfl⟩:=hs.shape
 have hm:M_ W (.agg #[.int .i64 m.rows,.int .i64 m.cols,.slice sa sn sc]) m:=⟨_,rfl,hs⟩
 have HC:=h_ (fun W' (h:Below W.heap.size W W')=>at_any _ m R C i j xi xj W' (hm.u_ h) hc hR hC hl hxi hxj hi hj)
 have HA:=h_ (And.intro d0 (And.intro d1 (And.intro d2 d3)))
 have HB0:=h_ (show Below W.heap.size W W.drew from ⟨rfl,rfl,rfl,Nat.le_refl _,fun _ _=>rfl⟩)
 clear hs hm hb hl hc hxi hxj hA hX
 go_enter Tryz.func128,Tryz.ntmps128
 go_wp2_with fail
 go_region_held3 (fun W'=>W'.cell? ⟨A,0,none⟩=some (.int .i64 m.rows)∧W'.cell? ⟨A,1,none⟩=some (.int .i64 m.cols)∧W'.cell? ⟨A,2,none⟩=some (.slice sa sn sc)∧W'.cell? ⟨X,0,none⟩=some (.int .i64 x)) (go_keep)
  (first
   |(go_at_call 112;refine (HC.out _ HB0.out).mono ?_;rintro e w1 ⟨rfl,hb1⟩;have HB1:=h_ (HB0.out.trans (hb1.mono HB0.out.size));have f0:=c_ HB1.out HA.out.1;have f1:=c_ HB1.out HA.out.2.1;have f2:=c_ HB1.out HA.out.2.2.1;have f3:=c_ HB1.out HA.out.2.2.2;clear hb1)
   |(go_at_call 48;refine (mul_any _ _ _).mono ?_;rintro e w3 ⟨rfl,rfl⟩))
 go_wp2
 go_ret
 exact ⟨rfl,HB1.out⟩
set_option maxHeartbeats 800000 in
set_option maxRecDepth 100000 in
theorem sums_gives(A:Nat)(m:Mx)(R C:Nat)(w:World)(hA:BoxMx w A m)(hr:m.rows=(R:Int))(hc:m.cols=(C:Int))(hR:R≤24)(hC:C≤24)(hl:m.cells.length=R*C):
  Gives 116 #[.pointer (some ⟨A,0,none⟩)] 1 C (fun _ j=>colS m.cells C j R) w:=by
 intro W i j xi xj hxi hxj hi hj hb
 have hA1:=hA.u_ hb
 obtain ⟨s,d0,d1,d2,hs⟩:=hA1
 obtain ⟨sa,sn,sc,rfl⟩:=hs.shape
 have hm:M_ W (.agg #[.int .i64 m.rows,.int .i64 m.cols,.slice sa sn sc]) m:=⟨_,rfl,hs⟩
 have HC:=h_ (fun W' (h:Below W.heap.size W W') (l:Nat) (xl:Int) (hxl:xl=(l:Int)) (hlt:l<R)=>at_any _ m R C l j xl xj W' (hm.u_ h) hc hR hC hl hxl hxj hlt hj)
 have HA:=h_ (And.intro d0 (And.intro d1 d2))
 obtain ⟨r,er⟩:=gN (m.rows)
 have hrr:r=(R:Int):=by rw[←er];exact hr
 have HRR:=h_ hrr
 rw[er]at HC HA d0
 clear hs hm hb hA hl hc hxi hxj hr er hrr
 go_enter Tryz.func116,Tryz.ntmps116
 go_wp2
 go_loopw [6,10] (fun v a wr=>∃(l:Nat) (xl:Int),l≤R∧xl=(l:Int)∧a=.int .i64 xl∧v=.int .i64 (colS m.cells C j l)∧Below W.heap.size W wr) (fun _ a _=>R - (intOf a).toNat)
 case atStart=>exact ⟨0,0,Nat.zero_le _,rfl,rfl,rfl,Below.refl _ _⟩
 case round=>
  obtain ⟨l,xl,hl,hxl,rfl,rfl,hbw⟩:=hrel
  have HBW:=h_ hbw
  have HXL:=h_ hxl
  have hxl0:0≤xl:=by omega
  have hxl1:xl≤24:=by omega
  have a0:=c_ hbw HA.out.1
  have a1:=c_ hbw HA.out.2.1
  have a2:=c_ hbw HA.out.2.2
  clear hbw hxl d0 d1 d2
  by_cases hlt:xl<r
  ·have hlR:l<R:=by have:=HXL.out;have:=HRR.out;omega
   go_wp2_with fail
   refine (HC.out _ HBW.out l xl HXL.out hlR).mono ?_
   rintro e w1 ⟨rfl,hb1⟩
   have HB1:=h_ (HBW.out.trans (hb1.mono HBW.out.size))
   clear hb1
   go_wp2_with (go_at_call 47;refine (add_any _ _ _).mono ?_;rintro e w3 ⟨rfl,rfl⟩)
   go_roundw
   case rel=>exact ⟨l+1,_,by omega,by have:=HXL.out;omega,rfl,rfl,HB1.out⟩
   case measure=>have:=HXL.out;simp[intOf];omega
  ·go_wp2
   go_ret
   exact ⟨i_ (by rw[show l=R by have:=HXL.out;have:=HRR.out;omega]),HBW.out⟩
def addE (a b:Mx):Int:=if faults [a,b]≠0 then faults [a,b] else if a.rows≠b.rows∨a.cols≠b.cols then 2 else 0
def timesE (a:Mx):Int:=if q_ a≠0 then q_ a else 0
def timesX (a:Mx) (x:Int):Mx:=if timesE a=0 then ⟨a.rows,a.cols,tab (a.rows.toNat*a.cols.toNat) (fun q=>ml ((a.cells[q]?).getD 0) x)⟩ else noMx
theorem timesX_no{a:Mx}{x:Int}(h:timesE a≠0):timesX a x=noMx:=by unfold timesX;rw[if_neg h]
set_option maxHeartbeats 800000 in
theorem mtimes_any(va:Value)(ma:Mx)(x:Int)(w:World)(hva:M_ w va ma):
  Calls Tryz.prog 127 #[va,.int .i64 x] w (MxErr w (timesX ma x) (timesE ma)):=by
 obtain ⟨sa,rfl,hsa⟩:=hva
 have b0:=o_ w (.cells #[.int .i64 ma.rows,.int .i64 ma.cols,sa] 25)
 have b1:=b0.trans ((o_ _ (.cells #[.int .i64 x] 3)).mono b0.size)
 have b2:=b1.trans ((o_ _ (.cells #[.int .i64 0,.int .i64 0,.slice none 0 0] 25)).mono b1.size)
 have hmx:=mxs_one (hsa.u_ b2) 25
 have hch:=checks_any _ _ _ hmx
 rw[faults_one]at hch
 have HCH:=h_ hch
 clear hmx hch
 obtain ⟨W2,hW2⟩:=gM ((((w.alloc (.cells #[.int .i64 ma.rows,.int .i64 ma.cols,sa] 25)).alloc (.cells #[.int .i64 x] 3)).alloc (.cells #[.int .i64 0,.int .i64 0,.slice none 0 0] 25)))
 have A0:BoxMx W2 (w.heap.size) ma:=by
  have h:=box_of (hsa) 25
  rw[hW2]
  have h:=h.u_ (o_ _ (.cells #[.int .i64 x] 3))
  have h:=h.u_ (o_ _ (.cells #[.int .i64 0,.int .i64 0,.slice none 0 0] 25))
  simpa using h
 have A1:W2.cell? ⟨w.heap.size+1,0,none⟩=some (.int .i64 x):=by
  have h:=box_new (w.alloc (.cells #[.int .i64 ma.rows,.int .i64 ma.cols,sa] 25)) #[.int .i64 x] 3 (B:=w.heap.size+1) (j:=0) (x:=.int .i64 x) (by simp) rfl
  rw[hW2]
  have h:=p_ h (.cells #[.int .i64 0,.int .i64 0,.slice none 0 0] 25)
  exact h
 have hW2s:W2.heap.size=w.heap.size+3:=by rw[hW2];simp
 have hW2b:Below w.heap.size w W2:=by rw[hW2];exact b2
 have hQ:ResBox W2 (w.heap.size+1+1):=by rw[hW2];exact ResBox.new _ _ (by simp)
 rw[←hW2]at HCH
 have HQ:=h_ hQ
 have HW2:=h_ hW2
 have HA0:=h_ A0
 have HA1:=h_ A1
 have HS:=h_ hW2s
 have HB:=h_ hW2b
 clear b0 b1 b2 hsa A0 A1 hQ hW2s hW2b hW2
 go_enter Tryz.func127,Tryz.ntmps127
 go_wp2_with fail
 rw[←HW2.out]
 have h:=HCH.out
 rw[HS.out]at h
 refine h.mono ?_
 clear h
 rintro e w3 ⟨rfl,hb3⟩
 have hb:=(o_ W2 _).trans (hb3.mono (by simp))
 have HB3:=h_ hb
 have p:=HQ.out.u_ hb
 have p0:=p.c0
 have p1:=p.c1
 have p2:=p.c2
 have p3:=p.f 0
 have p4:=p.f 1
 have p5:=p.f 2
 clear hb hb3 p HCH HQ
 have HW:=h_ (HB.out.trans (HB3.out.mono HB.out.size))
 have ret0:∀(t u:Value),Below w.heap.size w (((w3.setCell ⟨w.heap.size+1+1,0,none⟩ t).setCell ⟨w.heap.size+1+1,1,none⟩ u).setCell ⟨w.heap.size+1+1,2,none⟩ (.slice none 0 0)):=fun t u=>((HW.out.setCell (by first|(simp;done)|(simp;omega)) _).setCell (by first|(simp;done)|(simp;omega)) _).setCell (by first|(simp;done)|(simp;omega)) _
 have HRT:=h_ ret0
 clear ret0
 by_cases hf:q_ ma=0
 ·rw[e_ hf]
  obtain ⟨Ra,Ca,ga⟩:=o__ hf
  have ra1:=ga.r
  have ra2:=ga.hR
  have ra3:=ga.c
  have ra4:=ga.hC
  have ka1:0≤ma.rows:=by omega
  have ka2:ma.rows≤24:=by omega
  have ka3:0≤ma.cols:=by omega
  have ka4:ma.cols≤12:=by omega
  obtain ⟨s0,d00,d01,d02,hi0⟩:=HA0.out.u_ HB3.out
  have d10:=c_ HB3.out HA1.out
  have HE:=h_ (show timesE ma=0 from by unfold timesE;rw[if_neg (by simp[hf])])
  have eg:=enters_of (f:=128) Tryz.func128 (by kernel_rfl) rfl
  have hg:=times_gives w.heap.size (w.heap.size+1) ma x Ra Ca w3 (HA0.out.u_ HB3.out) (c_ HB3.out HA1.out) ga.c ga.hR (by omega) ga.l
  have HF:=h_ (fill_any _ _ eg Ra Ca ma.rows ma.cols ga.r ga.c ga.hR (by omega) _ w3 hg)
  have HG:=h_ (And.intro ga trivial)
  clear hg eg hf ga ra1 ra2 ra3 ra4 hi0
  go_wp2_with fail
  refine HF.out.mono ?_
  rintro e w4 ⟨xa,xn,xc,rfl,hnew,hb4⟩
  have HN:=h_ hnew
  have HB4:=h_ hb4
  have o0:=c_ hb4 p0
  have o1:=c_ hb4 p1
  have o2:=c_ hb4 p2
  have hlt:w.heap.size+1+1<w3.heap.size:=World.block_lt_of_cell? w3 _ p0
  have o3:=(hb4.frozen (p:=⟨w.heap.size+1+1,0,none⟩) hlt).trans p3
  have o4:=(hb4.frozen (p:=⟨w.heap.size+1+1,1,none⟩) hlt).trans p4
  have o5:=(hb4.frozen (p:=⟨w.heap.size+1+1,2,none⟩) hlt).trans p5
  have HLT:=h_ hlt
  clear hnew hb4 hlt p0 p1 p2 p3 p4 p5 d00 d01 d02 d10
  go_wp2
  refine bodyPost_ret (v:=.tuple #[.agg #[.int .i64 (ma.rows),.int .i64 (ma.cols),.slice xa xn xc],.nilIface]) (by simp[results,Tryz.results127,go_sem,o0,o1,o2]) rfl ⟨_,by rw[HE.out];rfl,?_,?_,HN.out.fresh HW.out.size _ _⟩
  ·have HI:=(((HN.out.set HLT.out 0 (.int .i64 (ma.rows))).set HLT.out 1 (.int .i64 (ma.cols))).set HLT.out 2 (.slice xa xn xc)).isInts
   unfold timesX
   rw[if_pos HE.out]
   refine ⟨_,rfl,?_⟩
   simp only[cell_num]at HI
   rw[HG.out.1.r,HG.out.1.c]at HI ⊢
   exact HI
  ·exact (((HW.out.trans (HB4.out.mono HW.out.size)).setCell (by first|(simp;done)|(simp;omega)) _).setCell (by first|(simp;done)|(simp;omega)) _).setCell (by first|(simp;done)|(simp;omega)) _
 ·have hE:timesE ma=q_ ma:=by unfold timesE;rw[if_pos hf]
  have HE:=h_ (And.intro hE hf)
  rw[n_ hf]
  obtain ⟨k,hk⟩:=gN (q_ ma)
  rw[hk]at HE ⊢
  clear hE hf hk
  go_wp2
  refine bodyPost_ret (v:=.tuple #[.agg #[.int .i64 0,.int .i64 0,.slice none 0 0],.iface 31 (.int .i64 k)]) (by simp[results,Tryz.results127,go_sem,p0,p1,p2]) rfl ⟨_,by rw[HE.out.1,n_ HE.out.2],by rw[timesX_no (by rw[HE.out.1];exact HE.out.2)];exact isMx_no _,HRT.out _ _,y_ _ _ _⟩
def sumsX (a:Mx):Mx:=if timesE a=0 then ⟨1,a.cols,tab a.cols.toNat (fun q=>colS a.cells a.cols.toNat q a.rows.toNat)⟩ else noMx
theorem sumsX_no{a:Mx}(h:timesE a≠0):sumsX a=noMx:=by unfold sumsX;rw[if_neg h]
set_option maxHeartbeats 800000 in
theorem msums_any(va:Value)(ma:Mx)(w:World)(hva:M_ w va ma):
  Calls Tryz.prog 108 #[va] w (MxErr w (sumsX ma) (timesE ma)):=by
 obtain ⟨sa,rfl,hsa⟩:=hva
 have b0:=o_ w (.cells #[.int .i64 ma.rows,.int .i64 ma.cols,sa] 25)
 have b1:=b0.trans ((o_ _ (.cells #[.int .i64 0,.int .i64 0,.slice none 0 0] 25)).mono b0.size)
 have hmx:=mxs_one (hsa.u_ b1) 25
 have hch:=checks_any _ _ _ hmx
 rw[faults_one]at hch
 have HCH:=h_ hch
 clear hmx hch
 obtain ⟨W2,hW2⟩:=gM (((w.alloc (.cells #[.int .i64 ma.rows,.int .i64 ma.cols,sa] 25)).alloc (.cells #[.int .i64 0,.int .i64 0,.slice none 0 0] 25)))
 have A0:BoxMx W2 (w.heap.size) ma:=by
  have h:=box_of (hsa) 25
  rw[hW2]
  have h:=h.u_ (o_ _ (.cells #[.int .i64 0,.int .i64 0,.slice none 0 0] 25))
  simpa using h
 have hW2s:W2.heap.size=w.heap.size+2:=by rw[hW2];simp
 have hW2b:Below w.heap.size w W2:=by rw[hW2];exact b1
 have hQ:ResBox W2 (w.heap.size+1):=by rw[hW2];exact ResBox.new _ _ (by simp)
 rw[←hW2]at HCH
 have HQ:=h_ hQ
 have HW2:=h_ hW2
 have HA0:=h_ A0
 have HS:=h_ hW2s
 have HB:=h_ hW2b
 clear b0 b1 hsa A0 hQ hW2s hW2b hW2
 go_enter Tryz.func108,Tryz.ntmps108
 go_wp2_with fail
 rw[←HW2.out]
 have h:=HCH.out
 rw[HS.out]at h
 refine h.mono ?_
 clear h
 rintro e w3 ⟨rfl,hb3⟩
 have hb:=(o_ W2 _).trans (hb3.mono (by simp))
 have HB3:=h_ hb
 have p:=HQ.out.u_ hb
 have p0:=p.c0
 have p1:=p.c1
 have p2:=p.c2
 have p3:=p.f 0
 have p4:=p.f 1
 have p5:=p.f 2
 clear hb hb3 p HCH HQ
 have HW:=h_ (HB.out.trans (HB3.out.mono HB.out.size))
 have ret0:∀(t u:Value),Below w.heap.size w (((w3.setCell ⟨w.heap.size+1,0,none⟩ t).setCell ⟨w.heap.size+1,1,none⟩ u).setCell ⟨w.heap.size+1,2,none⟩ (.slice none 0 0)):=fun t u=>((HW.out.setCell (by first|(simp;done)|(simp;omega)) _).setCell (by first|(simp;done)|(simp;omega)) _).setCell (by first|(simp;done)|(simp;omega)) _
 have HRT:=h_ ret0
 clear ret0
 by_cases hf:q_ ma=0
 ·rw[e_ hf]
  obtain ⟨Ra,Ca,ga⟩:=o__ hf
  have ra1:=ga.r
  have ra2:=ga.hR
  have ra3:=ga.c
  have ra4:=ga.hC
  have ka1:0≤ma.rows:=by omega
  have ka2:ma.rows≤24:=by omega
  have ka3:0≤ma.cols:=by omega
  have ka4:ma.cols≤12:=by omega
  obtain ⟨s0,d00,d01,d02,hi0⟩:=HA0.out.u_ HB3.out
  have HE:=h_ (show timesE ma=0 from by unfold timesE;rw[if_neg (by simp[hf])])
  have eg:=enters_of (f:=116) Tryz.func116 (by kernel_rfl) rfl
  have hg:=sums_gives w.heap.size ma Ra Ca w3 (HA0.out.u_ HB3.out) ga.r ga.c ga.hR (by omega) ga.l
  have HF:=h_ (fill_any _ _ eg 1 Ca 1 ma.cols rfl ga.c (by omega) (by omega) _ w3 hg)
  have HG:=h_ (And.intro ga trivial)
  clear hg eg hf ga ra1 ra2 ra3 ra4 hi0
  go_wp2_with fail
  refine HF.out.mono ?_
  rintro e w4 ⟨xa,xn,xc,rfl,hnew,hb4⟩
  have HN:=h_ hnew
  have HB4:=h_ hb4
  have o0:=c_ hb4 p0
  have o1:=c_ hb4 p1
  have o2:=c_ hb4 p2
  have hlt:w.heap.size+1<w3.heap.size:=World.block_lt_of_cell? w3 _ p0
  have o3:=(hb4.frozen (p:=⟨w.heap.size+1,0,none⟩) hlt).trans p3
  have o4:=(hb4.frozen (p:=⟨w.heap.size+1,1,none⟩) hlt).trans p4
  have o5:=(hb4.frozen (p:=⟨w.heap.size+1,2,none⟩) hlt).trans p5
  have HLT:=h_ hlt
  clear hnew hb4 hlt p0 p1 p2 p3 p4 p5 d00 d01 d02
  go_wp2
  refine bodyPost_ret (v:=.tuple #[.agg #[.int .i64 (1),.int .i64 (ma.cols),.slice xa xn xc],.nilIface]) (by simp[results,Tryz.results108,go_sem,o0,o1,o2]) rfl ⟨_,by rw[HE.out];rfl,?_,?_,HN.out.fresh HW.out.size _ _⟩
  ·have HI:=(((HN.out.set HLT.out 0 (.int .i64 (1))).set HLT.out 1 (.int .i64 (ma.cols))).set HLT.out 2 (.slice xa xn xc)).isInts
   unfold sumsX
   rw[if_pos HE.out]
   refine ⟨_,rfl,?_⟩
   have e:tab (1*Ca) (fun q=>colS ma.cells Ca (q % Ca) Ra)=tab Ca (fun q=>colS ma.cells Ca q Ra):=by
    rw[Nat.one_mul];exact tab_congr (fun q hq=>by rw[Nat.mod_eq_of_lt hq])
   rw[e]at HI
   rw[HG.out.1.c]at HI ⊢
   rw[HG.out.1.r]
   exact HI
  ·exact (((HW.out.trans (HB4.out.mono HW.out.size)).setCell (by first|(simp;done)|(simp;omega)) _).setCell (by first|(simp;done)|(simp;omega)) _).setCell (by first|(simp;done)|(simp;omega)) _
 ·have hE:timesE ma=q_ ma:=by unfold timesE;rw[if_pos hf]
  have HE:=h_ (And.intro hE hf)
  rw[n_ hf]
  obtain ⟨k,hk⟩:=gN (q_ ma)
  rw[hk]at HE ⊢
  clear hE hf hk
  go_wp2
  refine bodyPost_ret (v:=.tuple #[.agg #[.int .i64 0,.int .i64 0,.slice none 0 0],.iface 31 (.int .i64 k)]) (by simp[results,Tryz.results108,go_sem,p0,p1,p2]) rfl ⟨_,by rw[HE.out.1,n_ HE.out.2],by rw[sumsX_no (by rw[HE.out.1];exact HE.out.2)];exact isMx_no _,HRT.out _ _,y_ _ _ _⟩
end Go.Proofs.YtpniemnfdleiiajGreatDoor
