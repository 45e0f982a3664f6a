/- What Turn and Rows of package mat come to. -/
import Derived.Test.YtpniemnfdleiiajGreatDoorPkMAt
namespace Go.Proofs.YtpniemnfdleiiajGreatDoor
open Go.RowKit
def turnE (a:Mx):Int:=if q_ a≠0 then q_ a else if 12<a.rows then 1 else 0
def turnX (a:Mx):Mx:=if turnE a=0 then ⟨a.cols,a.rows,tab (a.cols.toNat*a.rows.toNat) (fun q=>(a.cells[q % a.rows.toNat*a.cols.toNat+q / a.rows.toNat]?).getD 0)⟩ else noMx
theorem turnX_no{a:Mx}(h:turnE a≠0):turnX a=noMx:=by unfold turnX;rw[if_neg h]
theorem turnX_yes{a:Mx}{R C:Nat}(h:turnE a=0)(e1:a.rows=(R:Int))(e2:a.cols=(C:Int)):turnX a=⟨C,R,tab (C*R) (fun q=>(a.cells[q % R*C+q / R]?).getD 0)⟩:=by
 unfold turnX;rw[if_pos h,e1,e2];simp
set_option maxHeartbeats 800000 in
theorem mturn_any(va:Value)(ma:Mx)(w:World)(hva:M_ w va ma):
  Calls Tryz.prog 107 #[va] w (MxErr w (turnX ma) (turnE ma)):=by
 obtain ⟨sa,rfl,hsa⟩:=hva
 have b0:=o_ w (.cells #[.int .i64 ma.rows,.int .i64 ma.cols,sa] 25)
 have b1:=b0.trans ((o_ _ (.cells #[.int .i64 0,.int .i64 0,.slice none 0 0] 25)).mono b0.size)
 have hmx:=mxs_one (hsa.u_ b1) 25
 have hch:=checks_any _ _ _ hmx
 rw[faults_one]at hch
 have HCH:=h_ hch
 clear hmx hch
 obtain ⟨W2,hW2⟩:=gM (((w.alloc (.cells #[.int .i64 ma.rows,.int .i64 ma.cols,sa] 25)).alloc (.cells #[.int .i64 0,.int .i64 0,.slice none 0 0] 25)))
 have A0:BoxMx W2 (w.heap.size) ma:=by
  have h:=box_of (hsa) 25
  rw[hW2]
  have h:=h.u_ (o_ _ (.cells #[.int .i64 0,.int .i64 0,.slice none 0 0] 25))
  simpa using h
 have hW2s:W2.heap.size=w.heap.size+2:=by rw[hW2];simp
 have hW2b:Below w.heap.size w W2:=by rw[hW2];exact b1
 have hQ:ResBox W2 (w.heap.size+1):=by rw[hW2];exact ResBox.new _ _ (by simp)
 rw[←hW2]at HCH
 have HQ:=h_ hQ
 have HW2:=h_ hW2
 have HA0:=h_ A0
 have HS:=h_ hW2s
 have HB:=h_ hW2b
 clear b0 b1 hsa A0 hQ hW2s hW2b hW2
 go_enter Tryz.func107,Tryz.ntmps107
 go_wp2_with fail
 rw[←HW2.out]
 have h:=HCH.out
 rw[HS.out]at h
 refine h.mono ?_
 clear h
 rintro e w3 ⟨rfl,hb3⟩
 have hb:=(o_ W2 _).trans (hb3.mono (by simp))
 have HB3:=h_ hb
 have p:=HQ.out.u_ hb
 have p0:=p.c0
 have p1:=p.c1
 have p2:=p.c2
 have p3:=p.f 0
 have p4:=p.f 1
 have p5:=p.f 2
 clear hb hb3 p HCH HQ
 have HW:=h_ (HB.out.trans (HB3.out.mono HB.out.size))
 have ret0:∀(t u:Value),Below w.heap.size w (((w3.setCell ⟨w.heap.size+1,0,none⟩ t).setCell ⟨w.heap.size+1,1,none⟩ u).setCell ⟨w.heap.size+1,2,none⟩ (.slice none 0 0)):=fun t u=>((HW.out.setCell (by first|(simp;done)|(simp;omega)) _).setCell (by first|(simp;done)|(simp;omega)) _).setCell (by first|(simp;done)|(simp;omega)) _
 have HRT:=h_ ret0
 clear ret0
 by_cases hf:q_ ma=0
 ·rw[e_ hf]
  obtain ⟨Ra,Ca,ga⟩:=o__ hf
  have ra1:=ga.r
  have ra2:=ga.hR
  have ra3:=ga.c
  have ra4:=ga.hC
  have ka1:0≤ma.rows:=by omega
  have ka2:ma.rows≤24:=by omega
  have ka3:0≤ma.cols:=by omega
  have ka4:ma.cols≤12:=by omega
  obtain ⟨s0,d00,d01,d02,hi0⟩:=HA0.out.u_ HB3.out
  by_cases hs:12<ma.rows
  ·skip
   have HE:=h_ (show turnE ma=1 from by unfold turnE;rw[if_neg (by simp[hf]),if_pos hs])
   clear hf ga ra1 ra2 ra3 ra4 hi0
   go_wp2
   refine bodyPost_ret (v:=.tuple #[.agg #[.int .i64 0,.int .i64 0,.slice none 0 0],.iface 31 (.int .i64 1)]) (by simp[results,Tryz.results107,go_sem,p0,p1,p2]) rfl ⟨_,by rw[HE.out];rfl,by rw[turnX_no (by rw[HE.out];decide)];exact isMx_no _,HRT.out _ _,y_ _ _ _⟩
  ·skip
   have HE:=h_ (show turnE ma=0 from by unfold turnE;rw[if_neg (by simp[hf]),if_neg hs])
   have eg:=enters_of (f:=115) Tryz.func115 (by kernel_rfl) rfl
   have hg:=turn_gives w.heap.size ma Ra Ca w3 (HA0.out.u_ HB3.out) ga.c ga.hR (by omega) ga.l
   have HF:=h_ (fill_any _ _ eg Ca Ra ma.cols ma.rows ga.c ga.r (by omega) ga.hR _ w3 hg)
   have HG:=h_ (And.intro ga trivial)
   clear hg eg hf ga ra1 ra2 ra3 ra4 hi0
   go_wp2_with fail
   refine HF.out.mono ?_
   rintro e w4 ⟨xa,xn,xc,rfl,hnew,hb4⟩
   have HN:=h_ hnew
   have HB4:=h_ hb4
   have o0:=c_ hb4 p0
   have o1:=c_ hb4 p1
   have o2:=c_ hb4 p2
   have hlt:w.heap.size+1<w3.heap.size:=World.block_lt_of_cell? w3 _ p0
   have o3:=(hb4.frozen (p:=⟨w.heap.size+1,0,none⟩) hlt).trans p3
   have o4:=(hb4.frozen (p:=⟨w.heap.size+1,1,none⟩) hlt).trans p4
   have o5:=(hb4.frozen (p:=⟨w.heap.size+1,2,none⟩) hlt).trans p5
   have HLT:=h_ hlt
   clear hnew hb4 hlt p0 p1 p2 p3 p4 p5 d00 d01 d02
   go_wp2
   refine bodyPost_ret (v:=.tuple #[.agg #[.int .i64 (ma.cols),.int .i64 (ma.rows),.slice xa xn xc],.nilIface]) (by simp[results,Tryz.results107,go_sem,o0,o1,o2]) rfl ⟨_,by rw[HE.out];rfl,?_,?_,HN.out.fresh HW.out.size _ _⟩
   ·have HI:=(((HN.out.set HLT.out 0 (.int .i64 (ma.cols))).set HLT.out 1 (.int .i64 (ma.rows))).set HLT.out 2 (.slice xa xn xc)).isInts
    rw[turnX_yes HE.out HG.out.1.r HG.out.1.c]
    exact ⟨_,by rw[HG.out.1.r,HG.out.1.c],HI⟩
   ·exact (((HW.out.trans (HB4.out.mono HW.out.size)).setCell (by first|(simp;done)|(simp;omega)) _).setCell (by first|(simp;done)|(simp;omega)) _).setCell (by first|(simp;done)|(simp;omega)) _
 ·have hE:turnE ma=q_ ma:=by unfold turnE;rw[if_pos hf]
  have HE:=h_ (And.intro hE hf)
  rw[n_ hf]
  obtain ⟨k,hk⟩:=gN (q_ ma)
  rw[hk]at HE ⊢
  clear hE hf hk
  go_wp2
  refine bodyPost_ret (v:=.tuple #[.agg #[.int .i64 0,.int .i64 0,.slice none 0 0],.iface 31 (.int .i64 k)]) (by simp[results,Tryz.results107,go_sem,p0,p1,p2]) rfl ⟨_,by rw[HE.out.1,n_ HE.out.2],by rw[turnX_no (by rw[HE.out.1];exact HE.out.2)];exact isMx_no _,HRT.out _ _,y_ _ _ _⟩
end Go.Proofs.YtpniemnfdleiiajGreatDoor
/- Plain facts on what Mul and Turn of package mat give: what stands where, and that Check takes it. -/
namespace Go.Proofs.YtpniemnfdleiiajGreatDoor
theorem dot_bd(us vs:List Int)(Ca Cb i j:Nat):∀k,inEnds (dot us vs Ca Cb i j k)=true
 |0=>by simp[dot,inEnds]
 |k+1=>by rw[ends_iff];exact ad_bd _ _
theorem tab_ends{n:Nat}{f:Nat→Int}(h:∀q,q<n→inEnds (f q)=true):(tab n f).all inEnds=true:=by
 refine all_yes (fun k x hk hx=>?_)
 rw[tab_len]at hk
 rw[tab_at hk]at hx
 rw[←Option.some.inj hx];exact h k hk
theorem Good.mul0{a b:Mx}{Ra Ca Cb:Nat}(ga:Good a Ra Ca)(gb:Good b Ca Cb):mulE a b=0:=by
 unfold mulE faults
 rw[ga.fault]
 have:faults [b]=0:=by rw[faults_one,gb.fault]
 simp only[if_pos,this,ne_eq,not_true,if_false]
 rw[if_neg (by simp[ga.c,gb.r])]
theorem Good.mul{a b:Mx}{Ra Ca Cb:Nat}(ga:Good a Ra Ca)(gb:Good b Ca Cb):Good (mulX a b) Ra Cb:=by
 rw[mulX_yes (ga.mul0 gb) ga.r ga.c gb.c]
 exact ⟨rfl,rfl,ga.hR,gb.hC,tab_len _ _,tab_ends (fun q _=>dot_bd _ _ _ _ _ _ _)⟩
theorem Good.turn0{a:Mx}{R C:Nat}(ga:Good a R C)(hR:R≤12):turnE a=0:=by
 unfold turnE;rw[ga.fault,if_neg (by simp),if_neg (by rw[ga.r];omega)]
theorem getD_ends{zs:List Int}(h:zs.all inEnds=true)(i:Nat):inEnds ((zs[i]?).getD 0)=true:=by
 rcases Nat.lt_or_ge i zs.length with hi|hi
 ·rw[List.getElem?_eq_getElem hi];exact (List.all_eq_true.1 h) _ (List.getElem_mem hi)
 ·rw[List.getElem?_eq_none hi];simp[inEnds]
theorem Good.turn{a:Mx}{R C:Nat}(ga:Good a R C)(hR:R≤12):Good (turnX a) C R:=by
 rw[turnX_yes (ga.turn0 hR) ga.r ga.c]
 exact ⟨rfl,rfl,by have:=ga.hC;omega,hR,tab_len _ _,tab_ends (fun q _=>getD_ends ga.e _)⟩
open Go.RowKit
theorem b_{w u v:World}(h:Below w.heap.size w u)(k:Below u.heap.size u v):Below w.heap.size w v:=h.trans (k.mono h.size)
theorem below_box{w u v:World}{o:Obj}(h:Below w.heap.size w u)(k:Below (u.alloc o).heap.size (u.alloc o) v):Below w.heap.size w v:=b_ (b_ h (o_ _ _)) k
def GoodEnd (w:World) (m:Mx) (e:Ending) (w':World):Prop:=∃a n k,e=.returned (.tuple #[.agg #[.int .i64 m.rows,.int .i64 m.cols,.slice a n k],.nilIface])∧M_ w' (.agg #[.int .i64 m.rows,.int .i64 m.cols,.slice a n k]) m∧Below w.heap.size w w'
def BadEnd (w:World) (j:Int) (e:Ending) (w':World):Prop:=∃a n k,e=.returned (.tuple #[.agg #[.int .i64 0,.int .i64 0,.slice a n k],.iface 31 (.int .i64 j)])∧M_ w' (.agg #[.int .i64 0,.int .i64 0,.slice a n k]) noMx∧Below w.heap.size w w'
theorem MxErr.good{w:World}{m:Mx}{j:Int}{e:Ending}{w':World}(h:MxErr w m j e w')(hj:j=0):GoodEnd w m e w':=by
 obtain ⟨v,rfl,⟨s,rfl,hs⟩,hb,_⟩:=h
 obtain ⟨a,n,k,rfl⟩:=hs.shape
 exact ⟨a,n,k,by rw[e_ hj],⟨_,rfl,hs⟩,hb⟩
theorem MxErr.bad{w:World}{m:Mx}{j:Int}{e:Ending}{w':World}(h:MxErr w m j e w')(hj:j≠0)(hm:m=noMx):BadEnd w j e w':=by
 subst hm
 obtain ⟨v,rfl,⟨s,rfl,hs⟩,hb,_⟩:=h
 obtain ⟨a,n,k,rfl⟩:=hs.shape
 exact ⟨a,n,k,by rw[n_ hj];rfl,⟨_,rfl,hs⟩,hb⟩
theorem MxErr.fresh{w:World}{m:Mx}{j:Int}{v x:Value}{w':World}(h:MxErr w m j (.returned (.tuple #[v,x])) w'):F_ w.heap.size v:=by
 obtain ⟨v',e,_,_,hf⟩:=h
 have:v=v':=by simp at e;exact e.1
 rw[this];exact hf
theorem M_.set{B:Nat}{w:World}{m:Mx}{v:Value}(h:M_ w v m)(hf:F_ B v){b:Nat}(hb:b<B)(q:Nat)(u:Value):M_ (w.setCell ⟨b,q,none⟩ u) v m:=by
 obtain ⟨s,rfl,a,cap,rfl,h2,h3,h4⟩:=h
 refine ⟨_,rfl,a,cap,rfl,h2,h3,?_⟩
 rcases h4 with h0|⟨b',off,rfl,hc⟩
 ·exact .inl h0
 ·rcases hf _ _ _ _ _ rfl with hz|hz
  ·exact .inl (List.eq_nil_of_length_eq_zero hz)
  ·refine .inr ⟨b',off,rfl,fun i x hx=>cell_other (hc i x hx) (by show b'≠b;simp only[]at hz;omega) q u⟩
theorem M_.ints{w:World}{m:Mx}{r c s:Value}(h:M_ w (.agg #[r,c,s]) m):I_ w s m.cells:=by
 obtain ⟨s',e,hs⟩:=h
 have:s=s':=by simp at e;exact e.2.2
 rw[this];exact hs
theorem sameM_refl(m:Mx):sameM m m=true:=by unfold sameM;simp
theorem M_.set3{B:Nat}{w:World}{m:Mx}{v:Value}(h:M_ w v m)(hf:F_ B v){b:Nat}(hb:b<B)(x y z:Value):M_ (((w.setCell ⟨b,0,none⟩ x).setCell ⟨b,1,none⟩ y).setCell ⟨b,2,none⟩ z) v m:=
 ((h.set hf hb 0 x).set hf hb 1 y).set hf hb 2 z
theorem mulE_zero{a b:Mx}(h:mulE a b=0):∃Ra Ca Cb,Good a Ra Ca∧Good b Ca Cb:=by
 unfold mulE at h
 by_cases h1:faults [a,b]≠0
 ·rw[if_pos h1]at h;exact absurd h h1
 ·rw[if_neg h1]at h
  obtain ⟨fa,fb⟩:=faults_two (Decidable.not_not.1 h1)
  obtain ⟨Ra,Ca,ga⟩:=o__ fa
  obtain ⟨Rb,Cb,gb⟩:=o__ fb
  by_cases h2:a.cols≠b.rows
  ·rw[if_pos h2]at h;cases h
  ·have h3:a.cols=b.rows:=Decidable.not_not.1 h2
   have:Ca=Rb:=by have:=ga.c;have:=gb.r;omega
   subst this
   exact ⟨Ra,Ca,Cb,ga,gb⟩
theorem Good.turn1{a:Mx}{R C:Nat}(ga:Good a R C)(hR:12<R):Go.Proofs.YtpniemnfdleiiajGreatDoor.turnE a=1:=by
 unfold Go.Proofs.YtpniemnfdleiiajGreatDoor.turnE;rw[ga.fault,if_neg (by simp),if_pos (by rw[ga.r];omega)]
end Go.Proofs.YtpniemnfdleiiajGreatDoor
