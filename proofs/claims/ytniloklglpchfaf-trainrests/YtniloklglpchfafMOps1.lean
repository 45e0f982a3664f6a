/- What Turn and Rows of package mat come to. -/
import Derived.Test.YtniloklglpchfafPkMOps
namespace Go.Proofs.Ytniloklglpchfaf
open Go.RowKit
def turnE (a:Mx):Int:=if q_ a≠0 then q_ a else if 12<a.rows then 1 else 0
def turnX (a:Mx):Mx:=if turnE a=0 then ⟨a.cols,a.rows,tab (a.cols.toNat*a.rows.toNat) (fun q=>(a.cells[q % a.rows.toNat*a.cols.toNat+q / a.rows.toNat]?).getD 0)⟩ else noMx
theorem turnX_no{a:Mx}(h:turnE a≠0):turnX a=noMx:=by unfold turnX;rw[if_neg h]
theorem turnX_yes{a:Mx}{R C:Nat}(h:turnE a=0)(e1:a.rows=(R:Int))(e2:a.cols=(C:Int)):turnX a=⟨C,R,tab (C*R) (fun q=>(a.cells[q % R*C+q / R]?).getD 0)⟩:=by
 unfold turnX;rw[if_pos h,e1,e2];simp
set_option maxHeartbeats 800000 in
theorem mturn_any(va:Value)(ma:Mx)(w:World)(hva:M_ w va ma):
  Calls Try.prog 107 #[va] w (MxErr w (turnX ma) (turnE ma)):=by
 obtain ⟨sa,rfl,hsa⟩:=hva
 have b0:=o_ w (.cells #[.int .i64 ma.rows,.int .i64 ma.cols,sa] 28)
 have b1:=b0.trans ((o_ _ (.cells #[.int .i64 0,.int .i64 0,.slice none 0 0] 28)).mono b0.size)
 have hmx:=mxs_one (hsa.u_ b1) 28
 have hch:=checks_any _ _ _ hmx
 rw[faults_one]at hch
 have HCH:=h_ hch
 clear hmx hch
 obtain ⟨W2,hW2⟩:=gM (((w.alloc (.cells #[.int .i64 ma.rows,.int .i64 ma.cols,sa] 28)).alloc (.cells #[.int .i64 0,.int .i64 0,.slice none 0 0] 28)))
 have A0:BoxMx W2 (w.heap.size) ma:=by
  have h:=box_of (hsa) 28
  rw[hW2]
  have h:=h.u_ (o_ _ (.cells #[.int .i64 0,.int .i64 0,.slice none 0 0] 28))
  simpa using h
 have hW2s:W2.heap.size=w.heap.size+2:=by rw[hW2];simp
 have hW2b:Below w.heap.size w W2:=by rw[hW2];exact b1
 have hQ:ResBox W2 (w.heap.size+1):=by rw[hW2];exact ResBox.new _ _ (by simp)
 rw[←hW2]at HCH
 have HQ:=h_ hQ
 have HW2:=h_ hW2
 have HA0:=h_ A0
 have HS:=h_ hW2s
 have HB:=h_ hW2b
 clear b0 b1 hsa A0 hQ hW2s hW2b hW2
 go_enter Try.func107,Try.ntmps107
 go_wp2_with fail
 rw[←HW2.out]
 have h:=HCH.out
 rw[HS.out]at h
 refine h.mono ?_
 clear h
 rintro e w3 ⟨rfl,hb3⟩
 have hb:=(o_ W2 _).trans (hb3.mono (by simp))
 have HB3:=h_ hb
 have p:=HQ.out.u_ hb
 have p0:=p.c0
 have p1:=p.c1
 have p2:=p.c2
 have p3:=p.f 0
 have p4:=p.f 1
 have p5:=p.f 2
 clear hb hb3 p HCH HQ
 have HW:=h_ (HB.out.trans (HB3.out.mono HB.out.size))
 have ret0:∀(t u:Value),Below w.heap.size w (((w3.setCell ⟨w.heap.size+1,0,none⟩ t).setCell ⟨w.heap.size+1,1,none⟩ u).setCell ⟨w.heap.size+1,2,none⟩ (.slice none 0 0)):=fun t u=>((HW.out.setCell (by first|(simp;done)|(simp;omega)) _).setCell (by first|(simp;done)|(simp;omega)) _).setCell (by first|(simp;done)|(simp;omega)) _
 have HRT:=h_ ret0
 clear ret0
 by_cases hf:q_ ma=0
 ·rw[e_ hf]
  obtain ⟨Ra,Ca,ga⟩:=o__ hf
  have ra1:=ga.r
  have ra2:=ga.hR
  have ra3:=ga.c
  have ra4:=ga.hC
  have ka1:0≤ma.rows:=by omega
  have ka2:ma.rows≤24:=by omega
  have ka3:0≤ma.cols:=by omega
  have ka4:ma.cols≤12:=by omega
  obtain ⟨s0,d00,d01,d02,hi0⟩:=HA0.out.u_ HB3.out
  by_cases hs:12<ma.rows
  ·skip
   have HE:=h_ (show turnE ma=1 from by unfold turnE;rw[if_neg (by simp[hf]),if_pos hs])
   clear hf ga ra1 ra2 ra3 ra4 hi0
   go_wp2
   refine bodyPost_ret (v:=.tuple #[.agg #[.int .i64 0,.int .i64 0,.slice none 0 0],.iface 65 (.int .i64 1)]) (by simp[results,Try.results107,go_sem,p0,p1,p2]) rfl ⟨_,by rw[HE.out];rfl,by rw[turnX_no (by rw[HE.out];decide)];exact isMx_no _,HRT.out _ _,y_ _ _ _⟩
  ·skip
   have HE:=h_ (show turnE ma=0 from by unfold turnE;rw[if_neg (by simp[hf]),if_neg hs])
   have eg:=enters_of (f:=112) Try.func112 (by kernel_rfl) rfl
   have hg:=turn_gives w.heap.size ma Ra Ca w3 (HA0.out.u_ HB3.out) ga.c ga.hR (by omega) ga.l
   have HF:=h_ (fill_any _ _ eg Ca Ra ma.cols ma.rows ga.c ga.r (by omega) ga.hR _ w3 hg)
   have HG:=h_ (And.intro ga trivial)
   clear hg eg hf ga ra1 ra2 ra3 ra4 hi0
   go_wp2_with fail
   refine HF.out.mono ?_
   rintro e w4 ⟨xa,xn,xc,rfl,hnew,hb4⟩
   have HN:=h_ hnew
   have HB4:=h_ hb4
   have o0:=c_ hb4 p0
   have o1:=c_ hb4 p1
   have o2:=c_ hb4 p2
   have hlt:w.heap.size+1<w3.heap.size:=World.block_lt_of_cell? w3 _ p0
   have o3:=(hb4.frozen (p:=⟨w.heap.size+1,0,none⟩) hlt).trans p3
   have o4:=(hb4.frozen (p:=⟨w.heap.size+1,1,none⟩) hlt).trans p4
   have o5:=(hb4.frozen (p:=⟨w.heap.size+1,2,none⟩) hlt).trans p5
   have HLT:=h_ hlt
   clear hnew hb4 hlt p0 p1 p2 p3 p4 p5 d00 d01 d02
   go_wp2
   refine bodyPost_ret (v:=.tuple #[.agg #[.int .i64 (ma.cols),.int .i64 (ma.rows),.slice xa xn xc],.nilIface]) (by simp[results,Try.results107,go_sem,o0,o1,o2]) rfl ⟨_,by rw[HE.out];rfl,?_,?_,HN.out.fresh HW.out.size _ _⟩
   ·have HI:=(((HN.out.set HLT.out 0 (.int .i64 (ma.cols))).set HLT.out 1 (.int .i64 (ma.rows))).set HLT.out 2 (.slice xa xn xc)).isInts
    rw[turnX_yes HE.out HG.out.1.r HG.out.1.c]
    exact ⟨_,by rw[HG.out.1.r,HG.out.1.c],HI⟩
   ·exact (((HW.out.trans (HB4.out.mono HW.out.size)).setCell (by first|(simp;done)|(simp;omega)) _).setCell (by first|(simp;done)|(simp;omega)) _).setCell (by first|(simp;done)|(simp;omega)) _
 ·have hE:turnE ma=q_ ma:=by unfold turnE;rw[if_pos hf]
  have HE:=h_ (And.intro hE hf)
  rw[n_ hf]
  obtain ⟨k,hk⟩:=gN (q_ ma)
  rw[hk]at HE ⊢
  clear hE hf hk
  go_wp2
  refine bodyPost_ret (v:=.tuple #[.agg #[.int .i64 0,.int .i64 0,.slice none 0 0],.iface 65 (.int .i64 k)]) (by simp[results,Try.results107,go_sem,p0,p1,p2]) rfl ⟨_,by rw[HE.out.1,n_ HE.out.2],by rw[turnX_no (by rw[HE.out.1];exact HE.out.2)];exact isMx_no _,HRT.out _ _,y_ _ _ _⟩
def rowsE (a:Mx) (f t:Int):Int:=if q_ a≠0 then q_ a else if f<0∨t<f∨a.rows<t then 1 else 0
def rowsX (a:Mx) (f t:Int):Mx:=if rowsE a f t=0 then ⟨t - f,a.cols,tab ((t - f).toNat*a.cols.toNat) (fun q=>(a.cells[f.toNat*a.cols.toNat+q]?).getD 0)⟩ else noMx
theorem rowsX_no{a:Mx}{f t:Int}(h:rowsE a f t≠0):rowsX a f t=noMx:=by unfold rowsX;rw[if_neg h]
theorem row_col{f C q:Nat}:(f+q / C)*C+q % C=f*C+q:=by
 rw[Nat.add_mul,Nat.add_assoc,Nat.mul_comm (q / C),Nat.div_add_mod]
set_option maxHeartbeats 800000 in
theorem mrows_any(va:Value)(ma:Mx)(f t:Int)(w:World)(hva:M_ w va ma):
  Calls Try.prog 28 #[va,.int .i64 f,.int .i64 t] w (MxErr w (rowsX ma f t) (rowsE ma f t)):=by
 obtain ⟨sa,rfl,hsa⟩:=hva
 have b0:=o_ w (.cells #[.int .i64 ma.rows,.int .i64 ma.cols,sa] 28)
 have b1:=b0.trans ((o_ _ (.cells #[.int .i64 f] 3)).mono b0.size)
 have b2:=b1.trans ((o_ _ (.cells #[.int .i64 0,.int .i64 0,.slice none 0 0] 28)).mono b1.size)
 have hmx:=mxs_one (hsa.u_ b2) 28
 have hch:=checks_any _ _ _ hmx
 rw[faults_one]at hch
 have HCH:=h_ hch
 clear hmx hch
 obtain ⟨W2,hW2⟩:=gM ((((w.alloc (.cells #[.int .i64 ma.rows,.int .i64 ma.cols,sa] 28)).alloc (.cells #[.int .i64 f] 3)).alloc (.cells #[.int .i64 0,.int .i64 0,.slice none 0 0] 28)))
 have A0:BoxMx W2 (w.heap.size) ma:=by
  have h:=box_of (hsa) 28
  rw[hW2]
  have h:=h.u_ (o_ _ (.cells #[.int .i64 f] 3))
  have h:=h.u_ (o_ _ (.cells #[.int .i64 0,.int .i64 0,.slice none 0 0] 28))
  simpa using h
 have A1:W2.cell? ⟨w.heap.size+1,0,none⟩=some (.int .i64 f):=by
  have h:=box_new (w.alloc (.cells #[.int .i64 ma.rows,.int .i64 ma.cols,sa] 28)) #[.int .i64 f] 3 (B:=w.heap.size+1) (j:=0) (x:=.int .i64 f) (by simp) rfl
  rw[hW2]
  have h:=p_ h (.cells #[.int .i64 0,.int .i64 0,.slice none 0 0] 28)
  exact h
 have hW2s:W2.heap.size=w.heap.size+3:=by rw[hW2];simp
 have hW2b:Below w.heap.size w W2:=by rw[hW2];exact b2
 have hQ:ResBox W2 (w.heap.size+1+1):=by rw[hW2];exact ResBox.new _ _ (by simp)
 rw[←hW2]at HCH
 have HQ:=h_ hQ
 have HW2:=h_ hW2
 have HA0:=h_ A0
 have HA1:=h_ A1
 have HS:=h_ hW2s
 have HB:=h_ hW2b
 clear b0 b1 b2 hsa A0 A1 hQ hW2s hW2b hW2
 go_enter Try.func28,Try.ntmps28
 go_wp2_with fail
 rw[←HW2.out]
 have h:=HCH.out
 rw[HS.out]at h
 refine h.mono ?_
 clear h
 rintro e w3 ⟨rfl,hb3⟩
 have hb:=(o_ W2 _).trans (hb3.mono (by simp))
 have HB3:=h_ hb
 have p:=HQ.out.u_ hb
 have p0:=p.c0
 have p1:=p.c1
 have p2:=p.c2
 have p3:=p.f 0
 have p4:=p.f 1
 have p5:=p.f 2
 clear hb hb3 p HCH HQ
 have HW:=h_ (HB.out.trans (HB3.out.mono HB.out.size))
 have ret0:∀(t u:Value),Below w.heap.size w (((w3.setCell ⟨w.heap.size+1+1,0,none⟩ t).setCell ⟨w.heap.size+1+1,1,none⟩ u).setCell ⟨w.heap.size+1+1,2,none⟩ (.slice none 0 0)):=fun t u=>((HW.out.setCell (by first|(simp;done)|(simp;omega)) _).setCell (by first|(simp;done)|(simp;omega)) _).setCell (by first|(simp;done)|(simp;omega)) _
 have HRT:=h_ ret0
 clear ret0
 by_cases hf:q_ ma=0
 ·rw[e_ hf]
  obtain ⟨Ra,Ca,ga⟩:=o__ hf
  have ra1:=ga.r
  have ra2:=ga.hR
  have ra3:=ga.c
  have ra4:=ga.hC
  have ka1:0≤ma.rows:=by omega
  have ka2:ma.rows≤24:=by omega
  have ka3:0≤ma.cols:=by omega
  have ka4:ma.cols≤12:=by omega
  obtain ⟨s0,d00,d01,d02,hi0⟩:=HA0.out.u_ HB3.out
  have d10:=c_ HB3.out HA1.out
  by_cases hs:0≤f∧f≤t∧t≤ma.rows
  ·obtain ⟨hs1,hs2,hs3⟩:=hs
   have hs:¬(f<0∨t<f∨ma.rows<t):=by omega
   have HE:=h_ (show rowsE ma f t=0 from by unfold rowsE;rw[if_neg (by simp[hf]),if_neg hs])
   have eg:=enters_of (f:=50) Try.func50 (by kernel_rfl) rfl
   obtain ⟨F,hF⟩:∃F:Nat,f=(F:Int):=⟨f.toNat,by omega⟩
   obtain ⟨N,hN⟩:∃N:Nat,t - f=(N:Int):=⟨(t - f).toNat,by omega⟩
   have hg:=rows_gives w.heap.size (w.heap.size+1) ma Ra Ca F N f w3 (HA0.out.u_ HB3.out) (c_ HB3.out HA1.out) hF ga.c ga.hR (by omega) ga.l (by omega)
   have HFN:=h_ (And.intro hF hN)
   have HF0:=h_ (fill_any _ _ eg N Ca (t - f) ma.cols hN ga.c (by omega) (by omega) _ w3 hg)
   clear hF hN
   have HF:=HF0
   have HG:=h_ (And.intro ga trivial)
   clear hg eg hf ga ra1 ra2 ra3 ra4 hi0
   go_wp2_with fail
   refine HF.out.mono ?_
   rintro e w4 ⟨xa,xn,xc,rfl,hnew,hb4⟩
   have HN:=h_ hnew
   have HB4:=h_ hb4
   have o0:=c_ hb4 p0
   have o1:=c_ hb4 p1
   have o2:=c_ hb4 p2
   have hlt:w.heap.size+1+1<w3.heap.size:=World.block_lt_of_cell? w3 _ p0
   have o3:=(hb4.frozen (p:=⟨w.heap.size+1+1,0,none⟩) hlt).trans p3
   have o4:=(hb4.frozen (p:=⟨w.heap.size+1+1,1,none⟩) hlt).trans p4
   have o5:=(hb4.frozen (p:=⟨w.heap.size+1+1,2,none⟩) hlt).trans p5
   have HLT:=h_ hlt
   clear hnew hb4 hlt p0 p1 p2 p3 p4 p5 d00 d01 d02 d10
   go_wp2
   refine bodyPost_ret (v:=.tuple #[.agg #[.int .i64 (t - f),.int .i64 (ma.cols),.slice xa xn xc],.nilIface]) (by simp[results,Try.results28,go_sem,o0,o1,o2]) rfl ⟨_,by rw[HE.out];rfl,?_,?_,HN.out.fresh HW.out.size _ _⟩
   ·have HI:=(((HN.out.set HLT.out 0 (.int .i64 (t - f))).set HLT.out 1 (.int .i64 (ma.cols))).set HLT.out 2 (.slice xa xn xc)).isInts
    unfold rowsX
    rw[if_pos HE.out,HFN.out.2,HFN.out.1,HG.out.1.c]
    simp only[Int.toNat_natCast]
    refine ⟨_,rfl,?_⟩
    have e:tab (N*Ca) (fun q=>(ma.cells[(F+q / Ca)*Ca+q % Ca]?).getD 0)=tab (N*Ca) (fun q=>(ma.cells[F*Ca+q]?).getD 0):=tab_congr (fun q _=>by rw[row_col])
    rw[HFN.out.2,HG.out.1.c,e]at HI
    exact HI
   ·exact (((HW.out.trans (HB4.out.mono HW.out.size)).setCell (by first|(simp;done)|(simp;omega)) _).setCell (by first|(simp;done)|(simp;omega)) _).setCell (by first|(simp;done)|(simp;omega)) _
  ·have hs':f<0∨t<f∨ma.rows<t:=by omega
   have hE:rowsE ma f t=1:=by unfold rowsE;rw[if_neg (by simp[hf]),if_pos hs']
   by_cases hs1:f<0
   ·clear hs hs'
    have HE:=h_ (show rowsE ma f t=1 from hE)
    clear hf ga ra1 ra2 ra3 ra4 hi0
    clear hE
    go_wp2
    refine bodyPost_ret (v:=.tuple #[.agg #[.int .i64 0,.int .i64 0,.slice none 0 0],.iface 65 (.int .i64 1)]) (by simp[results,Try.results28,go_sem,p0,p1,p2]) rfl ⟨_,by rw[HE.out];rfl,by rw[rowsX_no (by rw[HE.out];decide)];exact isMx_no _,HRT.out _ _,y_ _ _ _⟩
   ·by_cases hs2:t<f
    ·clear hs hs'
     have HE:=h_ (show rowsE ma f t=1 from hE)
     clear hf ga ra1 ra2 ra3 ra4 hi0
     clear hE
     go_wp2
     refine bodyPost_ret (v:=.tuple #[.agg #[.int .i64 0,.int .i64 0,.slice none 0 0],.iface 65 (.int .i64 1)]) (by simp[results,Try.results28,go_sem,p0,p1,p2]) rfl ⟨_,by rw[HE.out];rfl,by rw[rowsX_no (by rw[HE.out];decide)];exact isMx_no _,HRT.out _ _,y_ _ _ _⟩
    ·have hs3:ma.rows<t:=by omega
     clear hs hs'
     have HE:=h_ (show rowsE ma f t=1 from hE)
     clear hf ga ra1 ra2 ra3 ra4 hi0
     clear hE
     go_wp2
     refine bodyPost_ret (v:=.tuple #[.agg #[.int .i64 0,.int .i64 0,.slice none 0 0],.iface 65 (.int .i64 1)]) (by simp[results,Try.results28,go_sem,p0,p1,p2]) rfl ⟨_,by rw[HE.out];rfl,by rw[rowsX_no (by rw[HE.out];decide)];exact isMx_no _,HRT.out _ _,y_ _ _ _⟩
 ·have hE:rowsE ma f t=q_ ma:=by unfold rowsE;rw[if_pos hf]
  have HE:=h_ (And.intro hE hf)
  rw[n_ hf]
  obtain ⟨k,hk⟩:=gN (q_ ma)
  rw[hk]at HE ⊢
  clear hE hf hk
  go_wp2
  refine bodyPost_ret (v:=.tuple #[.agg #[.int .i64 0,.int .i64 0,.slice none 0 0],.iface 65 (.int .i64 k)]) (by simp[results,Try.results28,go_sem,p0,p1,p2]) rfl ⟨_,by rw[HE.out.1,n_ HE.out.2],by rw[rowsX_no (by rw[HE.out.1];exact HE.out.2)];exact isMx_no _,HRT.out _ _,y_ _ _ _⟩
end Go.Proofs.Ytniloklglpchfaf
