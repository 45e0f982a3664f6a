/- What Turn and Rows of package mat come to. -/
import Derived.Test.YtniloklglpchfakGreatPkHdP
import Derived.Test.YtniloklglpchfakGreatMOps2
namespace Go.Proofs.YtniloklglpchfakGreat
open Go.RowKit
def turnE (a:Mx):Int:=if q_ a≠0 then q_ a else if 12<a.rows then 1 else 0
def turnX (a:Mx):Mx:=if turnE a=0 then ⟨a.cols,a.rows,tab (a.cols.toNat*a.rows.toNat) (fun q=>(a.cells[q % a.rows.toNat*a.cols.toNat+q / a.rows.toNat]?).getD 0)⟩ else noMx
theorem turnX_no{a:Mx}(h:turnE a≠0):turnX a=noMx:=by unfold turnX;rw[if_neg h]
theorem turnX_yes{a:Mx}{R C:Nat}(h:turnE a=0)(e1:a.rows=(R:Int))(e2:a.cols=(C:Int)):turnX a=⟨C,R,tab (C*R) (fun q=>(a.cells[q % R*C+q / R]?).getD 0)⟩:=by
 unfold turnX;rw[if_pos h,e1,e2];simp
set_option maxHeartbeats 800000 in
theorem mturn_any(va:Value)(ma:Mx)(w:World)(hva:M_ w va ma):
  Calls Tryz.prog 155 #[va] w (MxErr w (turnX ma) (turnE ma)):=by
 obtain ⟨sa,rfl,hsa⟩:=hva
 have b0:=o_ w (.cells #[.int .i64 ma.rows,.int .i64 ma.cols,sa] 28)
 have b1:=b0.trans ((o_ _ (.cells #[.int .i64 0,.int .i64 0,.slice none 0 0] 28)).mono b0.size)
 have hmx:=mxs_one (hsa.u_ b1) 28
 have hch:=checks_any _ _ _ hmx
 rw[faults_one]at hch
 have HCH:=h_ hch
 clear hmx hch
 obtain ⟨W2,hW2⟩:=gM (((w.alloc (.cells #[.int .i64 ma.rows,.int .i64 ma.cols,sa] 28)).alloc (.cells #[.int .i64 0,.int .i64 0,.slice none 0 0] 28)))
 have A0:BoxMx W2 (w.heap.size) ma:=by
  have h:=box_of (hsa) 28
  rw[hW2]
  have h:=h.u_ (o_ _ (.cells #[.int .i64 0,.int .i64 0,.slice none 0 0] 28))
  simpa using h
 have hW2s:W2.heap.size=w.heap.size+2:=by rw[hW2];simp
 have hW2b:Below w.heap.size w W2:=by rw[hW2];exact b1
 have hQ:ResBox W2 (w.heap.size+1):=by rw[hW2];exact ResBox.new _ _ (by simp)
 rw[←hW2]at HCH
 have HQ:=h_ hQ
 have HW2:=h_ hW2
 have HA0:=h_ A0
 have HS:=h_ hW2s
 have HB:=h_ hW2b
 clear b0 b1 hsa A0 hQ hW2s hW2b hW2
 go_enter Tryz.func155,Tryz.ntmps155
 go_wp2_with fail
 rw[←HW2.out]
 have h:=HCH.out
 rw[HS.out]at h
 refine h.mono ?_
 clear h
 rintro e w3 ⟨rfl,hb3⟩
 have hb:=(o_ W2 _).trans (hb3.mono (by simp))
 have HB3:=h_ hb
 have p:=HQ.out.u_ hb
 have p0:=p.c0
 have p1:=p.c1
 have p2:=p.c2
 have p3:=p.f 0
 have p4:=p.f 1
 have p5:=p.f 2
 clear hb hb3 p HCH HQ
 have HW:=h_ (HB.out.trans (HB3.out.mono HB.out.size))
 have ret0:∀(t u:Value),Below w.heap.size w (((w3.setCell ⟨w.heap.size+1,0,none⟩ t).setCell ⟨w.heap.size+1,1,none⟩ u).setCell ⟨w.heap.size+1,2,none⟩ (.slice none 0 0)):=fun t u=>((HW.out.setCell (by first|(simp;done)|(simp;omega)) _).setCell (by first|(simp;done)|(simp;omega)) _).setCell (by first|(simp;done)|(simp;omega)) _
 have HRT:=h_ ret0
 clear ret0
 by_cases hf:q_ ma=0
 ·rw[e_ hf]
  obtain ⟨Ra,Ca,ga⟩:=o__ hf
  have ra1:=ga.r
  have ra2:=ga.hR
  have ra3:=ga.c
  have ra4:=ga.hC
  have ka1:0≤ma.rows:=by omega
  have ka2:ma.rows≤24:=by omega
  have ka3:0≤ma.cols:=by omega
  have ka4:ma.cols≤12:=by omega
  obtain ⟨s0,d00,d01,d02,hi0⟩:=HA0.out.u_ HB3.out
  by_cases hs:12<ma.rows
  ·skip
   have HE:=h_ (show turnE ma=1 from by unfold turnE;rw[if_neg (by simp[hf]),if_pos hs])
   clear hf ga ra1 ra2 ra3 ra4 hi0
   go_wp2
   refine bodyPost_ret (v:=.tuple #[.agg #[.int .i64 0,.int .i64 0,.slice none 0 0],.iface 94 (.int .i64 1)]) (by simp[results,Tryz.results155,go_sem,p0,p1,p2]) rfl ⟨_,by rw[HE.out];rfl,by rw[turnX_no (by rw[HE.out];decide)];exact isMx_no _,HRT.out _ _,y_ _ _ _⟩
  ·skip
   have HE:=h_ (show turnE ma=0 from by unfold turnE;rw[if_neg (by simp[hf]),if_neg hs])
   have eg:=enters_of (f:=160) Tryz.func160 (by kernel_rfl) rfl
   have hg:=turn_gives w.heap.size ma Ra Ca w3 (HA0.out.u_ HB3.out) ga.c ga.hR (by omega) ga.l
   have HF:=h_ (fill_any _ _ eg Ca Ra ma.cols ma.rows ga.c ga.r (by omega) ga.hR _ w3 hg)
   have HG:=h_ (And.intro ga trivial)
   clear hg eg hf ga ra1 ra2 ra3 ra4 hi0
   go_wp2_with fail
   refine HF.out.mono ?_
   rintro e w4 ⟨xa,xn,xc,rfl,hnew,hb4⟩
   have HN:=h_ hnew
   have HB4:=h_ hb4
   have o0:=c_ hb4 p0
   have o1:=c_ hb4 p1
   have o2:=c_ hb4 p2
   have hlt:w.heap.size+1<w3.heap.size:=World.block_lt_of_cell? w3 _ p0
   have o3:=(hb4.frozen (p:=⟨w.heap.size+1,0,none⟩) hlt).trans p3
   have o4:=(hb4.frozen (p:=⟨w.heap.size+1,1,none⟩) hlt).trans p4
   have o5:=(hb4.frozen (p:=⟨w.heap.size+1,2,none⟩) hlt).trans p5
   have HLT:=h_ hlt
   clear hnew hb4 hlt p0 p1 p2 p3 p4 p5 d00 d01 d02
   go_wp2
   refine bodyPost_ret (v:=.tuple #[.agg #[.int .i64 (ma.cols),.int .i64 (ma.rows),.slice xa xn xc],.nilIface]) (by simp[results,Tryz.results155,go_sem,o0,o1,o2]) rfl ⟨_,by rw[HE.out];rfl,?_,?_,HN.out.fresh HW.out.size _ _⟩
   ·have HI:=(((HN.out.set HLT.out 0 (.int .i64 (ma.cols))).set HLT.out 1 (.int .i64 (ma.rows))).set HLT.out 2 (.slice xa xn xc)).isInts
    rw[turnX_yes HE.out HG.out.1.r HG.out.1.c]
    exact ⟨_,by rw[HG.out.1.r,HG.out.1.c],HI⟩
   ·exact (((HW.out.trans (HB4.out.mono HW.out.size)).setCell (by first|(simp;done)|(simp;omega)) _).setCell (by first|(simp;done)|(simp;omega)) _).setCell (by first|(simp;done)|(simp;omega)) _
 ·have hE:turnE ma=q_ ma:=by unfold turnE;rw[if_pos hf]
  have HE:=h_ (And.intro hE hf)
  rw[n_ hf]
  obtain ⟨k,hk⟩:=gN (q_ ma)
  rw[hk]at HE ⊢
  clear hE hf hk
  go_wp2
  refine bodyPost_ret (v:=.tuple #[.agg #[.int .i64 0,.int .i64 0,.slice none 0 0],.iface 94 (.int .i64 k)]) (by simp[results,Tryz.results155,go_sem,p0,p1,p2]) rfl ⟨_,by rw[HE.out.1,n_ HE.out.2],by rw[turnX_no (by rw[HE.out.1];exact HE.out.2)];exact isMx_no _,HRT.out _ _,y_ _ _ _⟩
def rowsE (a:Mx) (f t:Int):Int:=if q_ a≠0 then q_ a else if f<0∨t<f∨a.rows<t then 1 else 0
def rowsX (a:Mx) (f t:Int):Mx:=if rowsE a f t=0 then ⟨t - f,a.cols,tab ((t - f).toNat*a.cols.toNat) (fun q=>(a.cells[f.toNat*a.cols.toNat+q]?).getD 0)⟩ else noMx
theorem rowsX_no{a:Mx}{f t:Int}(h:rowsE a f t≠0):rowsX a f t=noMx:=by unfold rowsX;rw[if_neg h]
theorem row_col{f C q:Nat}:(f+q / C)*C+q % C=f*C+q:=by
 rw[Nat.add_mul,Nat.add_assoc,Nat.mul_comm (q / C),Nat.div_add_mod]
set_option maxHeartbeats 800000 in
theorem mrows_any(va:Value)(ma:Mx)(f t:Int)(w:World)(hva:M_ w va ma):
  Calls Tryz.prog 61 #[va,.int .i64 f,.int .i64 t] w (MxErr w (rowsX ma f t) (rowsE ma f t)):=by
 obtain ⟨sa,rfl,hsa⟩:=hva
 have b0:=o_ w (.cells #[.int .i64 ma.rows,.int .i64 ma.cols,sa] 28)
 have b1:=b0.trans ((o_ _ (.cells #[.int .i64 f] 3)).mono b0.size)
 have b2:=b1.trans ((o_ _ (.cells #[.int .i64 0,.int .i64 0,.slice none 0 0] 28)).mono b1.size)
 have hmx:=mxs_one (hsa.u_ b2) 28
 have hch:=checks_any _ _ _ hmx
 rw[faults_one]at hch
 have HCH:=h_ hch
 clear hmx hch
 obtain ⟨W2,hW2⟩:=gM ((((w.alloc (.cells #[.int .i64 ma.rows,.int .i64 ma.cols,sa] 28)).alloc (.cells #[.int .i64 f] 3)).alloc (.cells #[.int .i64 0,.int .i64 0,.slice none 0 0] 28)))
 have A0:BoxMx W2 (w.heap.size) ma:=by
  have h:=box_of (hsa) 28
  rw[hW2]
  have h:=h.u_ (o_ _ (.cells #[.int .i64 f] 3))
  have h:=h.u_ (o_ _ (.cells #[.int .i64 0,.int .i64 0,.slice none 0 0] 28))
  simpa using h
 have A1:W2.cell? ⟨w.heap.size+1,0,none⟩=some (.int .i64 f):=by
  have h:=box_new (w.alloc (.cells #[.int .i64 ma.rows,.int .i64 ma.cols,sa] 28)) #[.int .i64 f] 3 (B:=w.heap.size+1) (j:=0) (x:=.int .i64 f) (by simp) rfl
  rw[hW2]
  have h:=p_ h (.cells #[.int .i64 0,.int .i64 0,.slice none 0 0] 28)
  exact h
 have hW2s:W2.heap.size=w.heap.size+3:=by rw[hW2];simp
 have hW2b:Below w.heap.size w W2:=by rw[hW2];exact b2
 have hQ:ResBox W2 (w.heap.size+1+1):=by rw[hW2];exact ResBox.new _ _ (by simp)
 rw[←hW2]at HCH
 have HQ:=h_ hQ
 have HW2:=h_ hW2
 have HA0:=h_ A0
 have HA1:=h_ A1
 have HS:=h_ hW2s
 have HB:=h_ hW2b
 clear b0 b1 b2 hsa A0 A1 hQ hW2s hW2b hW2
 go_enter Tryz.func61,Tryz.ntmps61
 go_wp2_with fail
 rw[←HW2.out]
 have h:=HCH.out
 rw[HS.out]at h
 refine h.mono ?_
 clear h
 rintro e w3 ⟨rfl,hb3⟩
 have hb:=(o_ W2 _).trans (hb3.mono (by simp))
 have HB3:=h_ hb
 have p:=HQ.out.u_ hb
 have p0:=p.c0
 have p1:=p.c1
 have p2:=p.c2
 have p3:=p.f 0
 have p4:=p.f 1
 have p5:=p.f 2
 clear hb hb3 p HCH HQ
 have HW:=h_ (HB.out.trans (HB3.out.mono HB.out.size))
 have ret0:∀(t u:Value),Below w.heap.size w (((w3.setCell ⟨w.heap.size+1+1,0,none⟩ t).setCell ⟨w.heap.size+1+1,1,none⟩ u).setCell ⟨w.heap.size+1+1,2,none⟩ (.slice none 0 0)):=fun t u=>((HW.out.setCell (by first|(simp;done)|(simp;omega)) _).setCell (by first|(simp;done)|(simp;omega)) _).setCell (by first|(simp;done)|(simp;omega)) _
 have HRT:=h_ ret0
 clear ret0
 by_cases hf:q_ ma=0
 ·rw[e_ hf]
  obtain ⟨Ra,Ca,ga⟩:=o__ hf
  have ra1:=ga.r
  have ra2:=ga.hR
  have ra3:=ga.c
  have ra4:=ga.hC
  have ka1:0≤ma.rows:=by omega
  have ka2:ma.rows≤24:=by omega
  have ka3:0≤ma.cols:=by omega
  have ka4:ma.cols≤12:=by omega
  obtain ⟨s0,d00,d01,d02,hi0⟩:=HA0.out.u_ HB3.out
  have d10:=c_ HB3.out HA1.out
  by_cases hs:0≤f∧f≤t∧t≤ma.rows
  ·obtain ⟨hs1,hs2,hs3⟩:=hs
   have hs:¬(f<0∨t<f∨ma.rows<t):=by omega
   have HE:=h_ (show rowsE ma f t=0 from by unfold rowsE;rw[if_neg (by simp[hf]),if_neg hs])
   have eg:=enters_of (f:=95) Tryz.func95 (by kernel_rfl) rfl
   obtain ⟨F,hF⟩:∃F:Nat,f=(F:Int):=⟨f.toNat,by omega⟩
   obtain ⟨N,hN⟩:∃N:Nat,t - f=(N:Int):=⟨(t - f).toNat,by omega⟩
   have hg:=rows_gives w.heap.size (w.heap.size+1) ma Ra Ca F N f w3 (HA0.out.u_ HB3.out) (c_ HB3.out HA1.out) hF ga.c ga.hR (by omega) ga.l (by omega)
   have HFN:=h_ (And.intro hF hN)
   have HF0:=h_ (fill_any _ _ eg N Ca (t - f) ma.cols hN ga.c (by omega) (by omega) _ w3 hg)
   clear hF hN
   have HF:=HF0
   have HG:=h_ (And.intro ga trivial)
   clear hg eg hf ga ra1 ra2 ra3 ra4 hi0
   go_wp2_with fail
   refine HF.out.mono ?_
   rintro e w4 ⟨xa,xn,xc,rfl,hnew,hb4⟩
   have HN:=h_ hnew
   have HB4:=h_ hb4
   have o0:=c_ hb4 p0
   have o1:=c_ hb4 p1
   have o2:=c_ hb4 p2
   have hlt:w.heap.size+1+1<w3.heap.size:=World.block_lt_of_cell? w3 _ p0
   have o3:=(hb4.frozen (p:=⟨w.heap.size+1+1,0,none⟩) hlt).trans p3
   have o4:=(hb4.frozen (p:=⟨w.heap.size+1+1,1,none⟩) hlt).trans p4
   have o5:=(hb4.frozen (p:=⟨w.heap.size+1+1,2,none⟩) hlt).trans p5
   have HLT:=h_ hlt
   clear hnew hb4 hlt p0 p1 p2 p3 p4 p5 d00 d01 d02 d10
   go_wp2
   refine bodyPost_ret (v:=.tuple #[.agg #[.int .i64 (t - f),.int .i64 (ma.cols),.slice xa xn xc],.nilIface]) (by simp[results,Tryz.results61,go_sem,o0,o1,o2]) rfl ⟨_,by rw[HE.out];rfl,?_,?_,HN.out.fresh HW.out.size _ _⟩
   ·have HI:=(((HN.out.set HLT.out 0 (.int .i64 (t - f))).set HLT.out 1 (.int .i64 (ma.cols))).set HLT.out 2 (.slice xa xn xc)).isInts
    unfold rowsX
    rw[if_pos HE.out,HFN.out.2,HFN.out.1,HG.out.1.c]
    simp only[Int.toNat_natCast]
    refine ⟨_,rfl,?_⟩
    have e:tab (N*Ca) (fun q=>(ma.cells[(F+q / Ca)*Ca+q % Ca]?).getD 0)=tab (N*Ca) (fun q=>(ma.cells[F*Ca+q]?).getD 0):=tab_congr (fun q _=>by rw[row_col])
    rw[HFN.out.2,HG.out.1.c,e]at HI
    exact HI
   ·exact (((HW.out.trans (HB4.out.mono HW.out.size)).setCell (by first|(simp;done)|(simp;omega)) _).setCell (by first|(simp;done)|(simp;omega)) _).setCell (by first|(simp;done)|(simp;omega)) _
  ·have hs':f<0∨t<f∨ma.rows<t:=by omega
   have hE:rowsE ma f t=1:=by unfold rowsE;rw[if_neg (by simp[hf]),if_pos hs']
   by_cases hs1:f<0
   ·clear hs hs'
    have HE:=h_ (show rowsE ma f t=1 from hE)
    clear hf ga ra1 ra2 ra3 ra4 hi0
    clear hE
    go_wp2
    refine bodyPost_ret (v:=.tuple #[.agg #[.int .i64 0,.int .i64 0,.slice none 0 0],.iface 94 (.int .i64 1)]) (by simp[results,Tryz.results61,go_sem,p0,p1,p2]) rfl ⟨_,by rw[HE.out];rfl,by rw[rowsX_no (by rw[HE.out];decide)];exact isMx_no _,HRT.out _ _,y_ _ _ _⟩
   ·by_cases hs2:t<f
    ·clear hs hs'
     have HE:=h_ (show rowsE ma f t=1 from hE)
     clear hf ga ra1 ra2 ra3 ra4 hi0
     clear hE
     go_wp2
     refine bodyPost_ret (v:=.tuple #[.agg #[.int .i64 0,.int .i64 0,.slice none 0 0],.iface 94 (.int .i64 1)]) (by simp[results,Tryz.results61,go_sem,p0,p1,p2]) rfl ⟨_,by rw[HE.out];rfl,by rw[rowsX_no (by rw[HE.out];decide)];exact isMx_no _,HRT.out _ _,y_ _ _ _⟩
    ·have hs3:ma.rows<t:=by omega
     clear hs hs'
     have HE:=h_ (show rowsE ma f t=1 from hE)
     clear hf ga ra1 ra2 ra3 ra4 hi0
     clear hE
     go_wp2
     refine bodyPost_ret (v:=.tuple #[.agg #[.int .i64 0,.int .i64 0,.slice none 0 0],.iface 94 (.int .i64 1)]) (by simp[results,Tryz.results61,go_sem,p0,p1,p2]) rfl ⟨_,by rw[HE.out];rfl,by rw[rowsX_no (by rw[HE.out];decide)];exact isMx_no _,HRT.out _ _,y_ _ _ _⟩
 ·have hE:rowsE ma f t=q_ ma:=by unfold rowsE;rw[if_pos hf]
  have HE:=h_ (And.intro hE hf)
  rw[n_ hf]
  obtain ⟨k,hk⟩:=gN (q_ ma)
  rw[hk]at HE ⊢
  clear hE hf hk
  go_wp2
  refine bodyPost_ret (v:=.tuple #[.agg #[.int .i64 0,.int .i64 0,.slice none 0 0],.iface 94 (.int .i64 k)]) (by simp[results,Tryz.results61,go_sem,p0,p1,p2]) rfl ⟨_,by rw[HE.out.1,n_ HE.out.2],by rw[rowsX_no (by rw[HE.out.1];exact HE.out.2)];exact isMx_no _,HRT.out _ _,y_ _ _ _⟩
end Go.Proofs.YtniloklglpchfakGreat
/- Plain facts on what Mul and Turn of package mat give: what stands where, and that Check takes it. -/
namespace Go.Proofs.YtniloklglpchfakGreat
theorem dot_bd(us vs:List Int)(Ca Cb i j:Nat):∀k,inEnds (dot us vs Ca Cb i j k)=true
 |0=>by simp[dot,inEnds]
 |k+1=>by rw[ends_iff];exact ad_bd _ _
theorem tab_ends{n:Nat}{f:Nat→Int}(h:∀q,q<n→inEnds (f q)=true):(tab n f).all inEnds=true:=by
 refine all_yes (fun k x hk hx=>?_)
 rw[tab_len]at hk
 rw[tab_at hk]at hx
 rw[←Option.some.inj hx];exact h k hk
theorem Good.mul0{a b:Mx}{Ra Ca Cb:Nat}(ga:Good a Ra Ca)(gb:Good b Ca Cb):mulE a b=0:=by
 unfold mulE faults
 rw[ga.fault]
 have:faults [b]=0:=by rw[faults_one,gb.fault]
 simp only[if_pos,this,ne_eq,not_true,if_false]
 rw[if_neg (by simp[ga.c,gb.r])]
theorem Good.mul{a b:Mx}{Ra Ca Cb:Nat}(ga:Good a Ra Ca)(gb:Good b Ca Cb):Good (mulX a b) Ra Cb:=by
 rw[mulX_yes (ga.mul0 gb) ga.r ga.c gb.c]
 exact ⟨rfl,rfl,ga.hR,gb.hC,tab_len _ _,tab_ends (fun q _=>dot_bd _ _ _ _ _ _ _)⟩
theorem Good.turn0{a:Mx}{R C:Nat}(ga:Good a R C)(hR:R≤12):turnE a=0:=by
 unfold turnE;rw[ga.fault,if_neg (by simp),if_neg (by rw[ga.r];omega)]
theorem getD_ends{zs:List Int}(h:zs.all inEnds=true)(i:Nat):inEnds ((zs[i]?).getD 0)=true:=by
 rcases Nat.lt_or_ge i zs.length with hi|hi
 ·rw[List.getElem?_eq_getElem hi];exact (List.all_eq_true.1 h) _ (List.getElem_mem hi)
 ·rw[List.getElem?_eq_none hi];simp[inEnds]
theorem Good.turn{a:Mx}{R C:Nat}(ga:Good a R C)(hR:R≤12):Good (turnX a) C R:=by
 rw[turnX_yes (ga.turn0 hR) ga.r ga.c]
 exact ⟨rfl,rfl,by have:=ga.hC;omega,hR,tab_len _ _,tab_ends (fun q _=>getD_ends ga.e _)⟩
open Go.RowKit
theorem b_{w u v:World}(h:Below w.heap.size w u)(k:Below u.heap.size u v):Below w.heap.size w v:=h.trans (k.mono h.size)
theorem below_box{w u v:World}{o:Obj}(h:Below w.heap.size w u)(k:Below (u.alloc o).heap.size (u.alloc o) v):Below w.heap.size w v:=b_ (b_ h (o_ _ _)) k
def GoodEnd (w:World) (m:Mx) (e:Ending) (w':World):Prop:=∃a n k,e=.returned (.tuple #[.agg #[.int .i64 m.rows,.int .i64 m.cols,.slice a n k],.nilIface])∧M_ w' (.agg #[.int .i64 m.rows,.int .i64 m.cols,.slice a n k]) m∧Below w.heap.size w w'
def BadEnd (w:World) (j:Int) (e:Ending) (w':World):Prop:=∃a n k,e=.returned (.tuple #[.agg #[.int .i64 0,.int .i64 0,.slice a n k],.iface 94 (.int .i64 j)])∧M_ w' (.agg #[.int .i64 0,.int .i64 0,.slice a n k]) noMx∧Below w.heap.size w w'
theorem MxErr.good{w:World}{m:Mx}{j:Int}{e:Ending}{w':World}(h:MxErr w m j e w')(hj:j=0):GoodEnd w m e w':=by
 obtain ⟨v,rfl,⟨s,rfl,hs⟩,hb,_⟩:=h
 obtain ⟨a,n,k,rfl⟩:=hs.shape
 exact ⟨a,n,k,by rw[e_ hj],⟨_,rfl,hs⟩,hb⟩
theorem MxErr.bad{w:World}{m:Mx}{j:Int}{e:Ending}{w':World}(h:MxErr w m j e w')(hj:j≠0)(hm:m=noMx):BadEnd w j e w':=by
 subst hm
 obtain ⟨v,rfl,⟨s,rfl,hs⟩,hb,_⟩:=h
 obtain ⟨a,n,k,rfl⟩:=hs.shape
 exact ⟨a,n,k,by rw[n_ hj];rfl,⟨_,rfl,hs⟩,hb⟩
theorem MxErr.fresh{w:World}{m:Mx}{j:Int}{v x:Value}{w':World}(h:MxErr w m j (.returned (.tuple #[v,x])) w'):F_ w.heap.size v:=by
 obtain ⟨v',e,_,_,hf⟩:=h
 have:v=v':=by simp at e;exact e.1
 rw[this];exact hf
theorem M_.set{B:Nat}{w:World}{m:Mx}{v:Value}(h:M_ w v m)(hf:F_ B v){b:Nat}(hb:b<B)(q:Nat)(u:Value):M_ (w.setCell ⟨b,q,none⟩ u) v m:=by
 obtain ⟨s,rfl,a,cap,rfl,h2,h3,h4⟩:=h
 refine ⟨_,rfl,a,cap,rfl,h2,h3,?_⟩
 rcases h4 with h0|⟨b',off,rfl,hc⟩
 ·exact .inl h0
 ·rcases hf _ _ _ _ _ rfl with hz|hz
  ·exact .inl (List.eq_nil_of_length_eq_zero hz)
  ·refine .inr ⟨b',off,rfl,fun i x hx=>cell_other (hc i x hx) (by show b'≠b;simp only[]at hz;omega) q u⟩
theorem M_.ints{w:World}{m:Mx}{r c s:Value}(h:M_ w (.agg #[r,c,s]) m):I_ w s m.cells:=by
 obtain ⟨s',e,hs⟩:=h
 have:s=s':=by simp at e;exact e.2.2
 rw[this];exact hs
theorem sameM_refl(m:Mx):sameM m m=true:=by unfold sameM;simp
theorem M_.set3{B:Nat}{w:World}{m:Mx}{v:Value}(h:M_ w v m)(hf:F_ B v){b:Nat}(hb:b<B)(x y z:Value):M_ (((w.setCell ⟨b,0,none⟩ x).setCell ⟨b,1,none⟩ y).setCell ⟨b,2,none⟩ z) v m:=
 ((h.set hf hb 0 x).set hf hb 1 y).set hf hb 2 z
theorem Good.turn1{a:Mx}{R C:Nat}(ga:Good a R C)(hR:12<R):Go.Proofs.YtniloklglpchfakGreat.turnE a=1:=by
 unfold Go.Proofs.YtniloklglpchfakGreat.turnE;rw[ga.fault,if_neg (by simp),if_pos (by rw[ga.r];omega)]
end Go.Proofs.YtniloklglpchfakGreat
/- Layers as plain data and in memory: what is wrong with one, how wide it is, what comes of a matrix by it, what goes back. No program in sight. -/
namespace Go.Proofs.YtniloklglpchfakGreat
open Go.RowKit
structure Ly where
 k:Int
 w:Mx
 b:Mx
def IsLy (w:World) (v:Value) (l:Ly):Prop:=∃s t,v=.agg #[.int .i64 l.k,.int .i64 l.w.rows,.int .i64 l.w.cols,s,.int .i64 l.b.rows,.int .i64 l.b.cols,t]∧I_ w s l.w.cells∧I_ w t l.b.cells
theorem IsLy.u_{w w':World}{v:Value}{l:Ly}(h:IsLy w v l)(hb:Below w.heap.size w w'):IsLy w' v l:=by
 obtain ⟨s,t,h1,h2,h3⟩:=h;exact ⟨s,t,h1,h2.u_ hb,h3.u_ hb⟩
def IsTwo (w:World) (v:Value) (a b:Mx):Prop:=∃s t,v=.agg #[.int .i64 a.rows,.int .i64 a.cols,s,.int .i64 b.rows,.int .i64 b.cols,t]∧I_ w s a.cells∧I_ w t b.cells
def fitsL (l:Ly):Bool:=
 if l.k=1 then decide (1≤l.w.rows∧l.w.rows≤12∧1≤l.w.cols∧l.b.rows=1∧l.b.cols=l.w.cols)
 else if l.k=2 then decide (l.w.rows=0∧l.w.cols=0∧l.b.rows=0∧l.b.cols=0)
 else if l.k=3 then decide (l.w.rows=1∧l.w.cols=1∧l.b.rows=0∧l.b.cols=0)
 else decide (l.w.rows=0∧l.w.cols=0∧l.b.rows=1∧1≤l.b.cols)
def l_ (l:Ly):Int:=if l.k<1∨4<l.k then 1 else if q_ l.w≠0 then q_ l.w else if q_ l.b≠0 then q_ l.b else if fitsL l=false then 2 else 0
def takesL (l:Ly) (n:Int):Bool:=if l.k=1 then decide (n=l.w.rows) else if l.k=4 then decide (n=l.b.cols) else true
def g_ (l:Ly) (n:Int):Int:=if l.k=1 then l.w.cols else n
def wideE (l:Ly) (n:Int):Int:=if l_ l≠0 then l_ l else if n<0∨12<n then 1 else if takesL l n=false then 2 else 0
def wideX (l:Ly) (n:Int):Int:=if wideE l n=0 then g_ l n else 0
def goE (l:Ly) (x:Mx):Int:=if l_ l≠0 then l_ l else if q_ x≠0 then q_ x else if takesL l x.cols=false then 2 else 0
def eachX (a:Mx) (f:Nat→Int):Mx:=⟨a.rows,a.cols,tab a.cells.length f⟩
def A_ (m:Mx) (q:Nat):Int:=(m.cells[q]?).getD 0
theorem cellAt_some{m:Mx}{i:Nat}{x:Int}(h:m.cells[i]?=some x):A_ m i=x:=by unfold A_;rw[h];rfl
def addRows (a b:Mx):Mx:=eachX a (fun q=>ad (A_ a q) (A_ b (q % b.cols.toNat)))
def reluX (a:Mx):Mx:=eachX a (fun q=>max (A_ a q) 0)
def reluB (x g:Mx):Mx:=eachX g (fun q=>if 0<A_ x q then A_ g q else 0)
def goG (l:Ly) (x:Mx):Mx:=if l.k=1 then addRows (mulX x l.w) l.b else if l.k=2 then reluX x else if l.k=3 then timesX x (A_ l.w 0) else addRows x l.b
def goX (l:Ly) (x:Mx):Mx:=if goE l x=0 then goG l x else noMx
def backE (l:Ly) (x g:Mx):Int:=if goE l x≠0 then goE l x else if q_ g≠0 then q_ g else if g.rows≠x.rows∨g.cols≠g_ l x.cols then 2 else if l.k=1∧12<x.rows then 1 else 0
def sumP (x g:Mx):Nat→Int
 |0=>0
 |n+1=>ad (sumP x g n) (ml (A_ x n) (A_ g n))
def backG (l:Ly) (x g:Mx):Mx:=if l.k=1 then mulX g (turnX l.w) else if l.k=2 then reluB x g else if l.k=3 then timesX g (A_ l.w 0) else eachX g (A_ g)
def backX (l:Ly) (x g:Mx):Mx:=if backE l x g=0 then backG l x g else noMx
def gradW (l:Ly) (x g:Mx):Mx:=if backE l x g=0 then (if l.k=1 then mulX (turnX x) g else if l.k=3 then ⟨1,1,[sumP x g x.cells.length]⟩ else noMx) else noMx
def gradB (l:Ly) (x g:Mx):Mx:=if backE l x g=0 then (if l.k=1∨l.k=4 then sumsX g else noMx) else noMx
def Fresh2 (B:Nat) (v:Value):Prop:=∀r c x n k r' c' x' n' k',v=.agg #[r,c,.slice x n k,r',c',.slice x' n' k']→F_ B (.agg #[r,c,.slice x n k])∧F_ B (.agg #[r',c',.slice x' n' k'])
def BackErr (w:World) (m a b:Mx) (k:Int) (e:Ending) (w':World):Prop:=∃v' d,e=.returned (.tuple #[v',d,errV k])∧M_ w' v' m∧IsTwo w' d a b∧Below w.heap.size w w'∧F_ w.heap.size v'∧Fresh2 w.heap.size d
theorem lgood_of{l:Ly}(h:l_ l=0):1≤l.k∧l.k≤4∧q_ l.w=0∧q_ l.b=0∧fitsL l=true:=by
 unfold l_ at h
 by_cases h1:l.k<1∨4<l.k
 ·rw[if_pos h1]at h;cases h
 ·rw[if_neg h1]at h
  by_cases h2:q_ l.w≠0
  ·rw[if_pos h2]at h;exact absurd h h2
  ·rw[if_neg h2]at h
   by_cases h3:q_ l.b≠0
   ·rw[if_pos h3]at h;exact absurd h h3
   ·rw[if_neg h3]at h
    by_cases h4:fitsL l=false
    ·rw[if_pos h4]at h;cases h
    ·exact ⟨by omega,by omega,Decidable.not_not.1 h2,Decidable.not_not.1 h3,by simpa using h4⟩
def Three (w:World) (B:Nat) (r c:Int) (s:Value):Prop:=w.cell? ⟨B,0,none⟩=some (.int .i64 r)∧w.cell? ⟨B,1,none⟩=some (.int .i64 c)∧w.cell? ⟨B,2,none⟩=some s
structure Mut (w:World) (B:Nat) (r c:Int) (s:Value):Prop where
 t:Three w B r c s
 f:∀j,w.frozen? ⟨B,j,none⟩=false
theorem Mut.set{w:World}{B:Nat}{r c:Int}{s:Value}(h:Mut w B r c s)(r' c':Int)(s':Value):Mut (((w.setCell ⟨B,0,none⟩ (.int .i64 r')).setCell ⟨B,1,none⟩ (.int .i64 c')).setCell ⟨B,2,none⟩ s') B r' c' s':=by
 obtain ⟨⟨h0,h1,h2⟩,hf⟩:=h
 have o:∀(u:World) (i j:Nat) (x:Value),i≠j→(u.setCell ⟨B,i,none⟩ x).cell? ⟨B,j,none⟩=u.cell? ⟨B,j,none⟩:=fun u i j x hij=>World.cell?_setCell_other _ _ _ _ (fun e=>hij (by injection e))
 refine ⟨⟨?_,?_,?_⟩,fun j=>by simp[hf]⟩
 ·rw[o _ 2 0 _ (by decide),o _ 1 0 _ (by decide)];exact World.cell?_setCell_same _ _ _ h0
 ·rw[o _ 2 1 _ (by decide)];exact World.cell?_setCell_same _ _ _ ((o _ 0 1 _ (by decide)).trans h1)
 ·exact World.cell?_setCell_same _ _ _ ((o _ 1 2 _ (by decide)).trans ((o _ 0 2 _ (by decide)).trans h2))
theorem cell_at_other(u:World)(B i j:Nat)(x:Value)(hij:i≠j):(u.setCell ⟨B,i,none⟩ x).cell? ⟨B,j,none⟩=u.cell? ⟨B,j,none⟩:=World.cell?_setCell_other _ _ _ _ (fun e=>hij (by injection e))
theorem S_{V u:World}{B:Nat}(h:Below V.heap.size V u)(hB:V.heap.size≤B)(x y z:Value):Below V.heap.size V (((u.setCell ⟨B,0,none⟩ x).setCell ⟨B,1,none⟩ y).setCell ⟨B,2,none⟩ z):=
 ((h.setCell hB _).setCell hB _).setCell hB _
end Go.Proofs.YtniloklglpchfakGreat
