/- What Mul, Turn and Rows of package mat come to. -/
import Derived.Test.YtniloklglpchfafMAt
import Derived.Test.YtniloklglpchfafPlain
namespace Go.Proofs.Ytniloklglpchfaf
open Go.RowKit
structure Good (m:Mx) (R C:Nat):Prop where
 r:m.rows=(R:Int)
 c:m.cols=(C:Int)
 hR:R≤24
 hC:C≤12
 l:m.cells.length=R*C
 e:m.cells.all inEnds=true
theorem o__{m:Mx}(h:q_ m=0):∃R C,Good m R C:=by
 unfold q_ at h
 by_cases h1:okSides m=false
 ·rw[if_pos h1]at h;cases h
 ·rw[if_neg h1]at h
  by_cases h2:(m.cells.length:Int)≠m.rows*m.cols
  ·rw[if_pos h2]at h;cases h
  ·rw[if_neg h2]at h
   by_cases h3:m.cells.all inEnds=false
   ·rw[if_pos h3]at h;cases h
   ·simp[okSides]at h1
    have hr:m.rows=(m.rows.toNat:Int):=by omega
    have hc:m.cols=(m.cols.toNat:Int):=by omega
    refine ⟨m.rows.toNat,m.cols.toNat,hr,hc,by omega,by omega,?_,by simpa using h3⟩
    have:(m.cells.length:Int)=m.rows*m.cols:=by simpa using h2
    rw[hr,hc]at this
    have e:((m.rows.toNat:Int)*(m.cols.toNat:Int))=((m.rows.toNat*m.cols.toNat:Nat):Int):=by simp
    rw[e]at this
    omega
theorem Good.fault{m:Mx}{R C:Nat}(h:Good m R C):q_ m=0:=by
 obtain ⟨r,c,hR,hC,l,e⟩:=h
 rw[←fault_none (m:=m) (by simp[okSides];omega) (by rw[l,r,c];simp) e]
theorem mxs_two{w:World}{a b:Mx}{sa sb:Value}(ha:I_ w sa a.cells)(hb:I_ w sb b.cells)(t:TypeId):
  IsMxs (w.alloc (.cells #[.int .i64 a.rows,.int .i64 a.cols,sa,.int .i64 b.rows,.int .i64 b.cols,sb] t)) (.slice (some ⟨w.heap.size,0,none⟩) 2 2) [a,b]:=by
 refine ⟨_,2,rfl,Nat.le_refl _,by unfold maxLen;omega,.inr ⟨w.heap.size,0,rfl,fun i m hm=>?_⟩⟩
 match i,hm with
 |0,hm=>simp at hm;subst hm;exact ⟨sa,by simp,by simp,by simp,ha.u_ (o_ _ _)⟩
 |1,hm=>simp at hm;subst hm;exact ⟨sb,by simp,by simp,by simp,hb.u_ (o_ _ _)⟩
theorem mxs_one{w:World}{a:Mx}{sa:Value}(ha:I_ w sa a.cells)(t:TypeId):
  IsMxs (w.alloc (.cells #[.int .i64 a.rows,.int .i64 a.cols,sa] t)) (.slice (some ⟨w.heap.size,0,none⟩) 1 1) [a]:=by
 refine ⟨_,1,rfl,Nat.le_refl _,by unfold maxLen;omega,.inr ⟨w.heap.size,0,rfl,fun i m hm=>?_⟩⟩
 match i,hm with
 |0,hm=>simp at hm;subst hm;exact ⟨sa,by simp,by simp,by simp,ha.u_ (o_ _ _)⟩
def noMx:Mx:=⟨0,0,[]⟩
theorem isMx_no(w:World):M_ w (.agg #[.int .i64 0,.int .i64 0,.slice none 0 0]) noMx:=⟨_,rfl,I_.nil w⟩
theorem box_of{w:World}{m:Mx}{s:Value}(h:I_ w s m.cells)(t:TypeId):BoxMx (w.alloc (.cells #[.int .i64 m.rows,.int .i64 m.cols,s] t)) w.heap.size m:=
 ⟨s,by simp,by simp,by simp,h.u_ (o_ _ _)⟩
theorem box_new(V:World)(cs:Array Value)(t:TypeId){B j:Nat}{x:Value}(hB:V.heap.size=B)(h:cs[j]?=some x):(V.alloc (.cells cs t)).cell? ⟨B,j,none⟩=some x:=by
 subst hB;exact (World.cell?_alloc_at _ _ _ _ rfl).trans h
theorem box_free(V:World)(cs:Array Value)(t:TypeId){B:Nat}(hB:V.heap.size=B)(j:Nat):(V.alloc (.cells cs t)).frozen? ⟨B,j,none⟩=false:=by
 subst hB;simp
structure ResBox (w:World) (B:Nat):Prop where
 c0:w.cell? ⟨B,0,none⟩=some (.int .i64 0)
 c1:w.cell? ⟨B,1,none⟩=some (.int .i64 0)
 c2:w.cell? ⟨B,2,none⟩=some (.slice none 0 0)
 f:∀j,w.frozen? ⟨B,j,none⟩=false
theorem ResBox.new(V:World)(t:TypeId){B:Nat}(hB:V.heap.size=B):ResBox (V.alloc (.cells #[.int .i64 0,.int .i64 0,.slice none 0 0] t)) B:=
 ⟨box_new V _ t hB rfl,box_new V _ t hB rfl,box_new V _ t hB rfl,box_free V _ t hB⟩
theorem ResBox.u_{w w':World}{B:Nat}(h:ResBox w B)(hb:Below w.heap.size w w'):ResBox w' B:=by
 have hlt:=World.block_lt_of_cell? w _ h.c0
 exact ⟨c_ hb h.c0,c_ hb h.c1,c_ hb h.c2,fun j=>(hb.frozen (p:=⟨B,j,none⟩) hlt).trans (h.f j)⟩
theorem eqF{x y:Int}(h:x=y):(x !=y)=false:=by simp[h]
theorem eqT{x y:Int}(h:¬x=y):(x !=y)=true:=by simp[h]
def mulE (a b:Mx):Int:=if faults [a,b]≠0 then faults [a,b] else if a.cols≠b.rows then 2 else 0
def mulX (a b:Mx):Mx:=if mulE a b=0 then ⟨a.rows,b.cols,tab (a.rows.toNat*b.cols.toNat) (fun q=>dot a.cells b.cells a.cols.toNat b.cols.toNat (q / b.cols.toNat) (q % b.cols.toNat) a.cols.toNat)⟩ else noMx
theorem mulX_no{a b:Mx}(h:mulE a b≠0):mulX a b=noMx:=by unfold mulX;rw[if_neg h]
theorem mulX_yes{a b:Mx}{Ra Ca Cb:Nat}(h:mulE a b=0)(e1:a.rows=(Ra:Int))(e2:a.cols=(Ca:Int))(e3:b.cols=(Cb:Int)):mulX a b=⟨Ra,Cb,tab (Ra*Cb) (fun q=>dot a.cells b.cells Ca Cb (q / Cb) (q % Cb) Ca)⟩:=by
 unfold mulX;rw[if_pos h,e1,e2,e3];simp
theorem faults_two{a b:Mx}(h:faults [a,b]=0):q_ a=0∧q_ b=0:=by
 unfold faults at h
 by_cases h1:q_ a=0
 ·rw[if_pos h1]at h
  unfold faults at h
  by_cases h2:q_ b=0
  ·exact ⟨h1,h2⟩
  ·rw[if_neg h2]at h;exact absurd h h2
 ·rw[if_neg h1]at h;exact absurd h h1
theorem faults_one(a:Mx):faults [a]=q_ a:=by
 unfold faults;split
 ·rename_i h;rw[h];rfl
 ·rfl
theorem NewInts.fresh{base B:Nat}{w:World}{s:Value}{zs:List Int}(h:NewInts base w s zs)(hB:B≤base)(r c:Value):F_ B (.agg #[r,c,s]):=by
 obtain ⟨a,cap,rfl,_,_,h4⟩:=h
 intro r' c' x n k e
 simp at e
 rcases h4 with h0|⟨b,off,ha,hb,_⟩
 ·left;rw[←e.2.2.2.1,h0];rfl
 ·right
  have e3:=e.2.2.1
  rw[ha]at e3
  have:=Option.some.inj e3
  rw[←this]
  exact Nat.le_trans hB hb
def MxErr (w:World) (m:Mx) (k:Int) (e:Ending) (w':World):Prop:=∃v',e=.returned (.tuple #[v',errV k])∧M_ w' v' m∧Below w.heap.size w w'∧F_ w.heap.size v'
set_option maxHeartbeats 800000 in
theorem mmul_any(va vb:Value)(ma mb:Mx)(w:World)(hva:M_ w va ma)(hvb:M_ w vb mb):
  Calls Try.prog 105 #[va,vb] w (MxErr w (mulX ma mb) (mulE ma mb)):=by
 obtain ⟨sa,rfl,hsa⟩:=hva
 obtain ⟨sb,rfl,hsb⟩:=hvb
 have b0:=o_ w (.cells #[.int .i64 ma.rows,.int .i64 ma.cols,sa] 28)
 have b1:=b0.trans ((o_ _ (.cells #[.int .i64 mb.rows,.int .i64 mb.cols,sb] 28)).mono b0.size)
 have b2:=b1.trans ((o_ _ (.cells #[.int .i64 0,.int .i64 0,.slice none 0 0] 28)).mono b1.size)
 have hmx:=mxs_two (hsa.u_ b2) (hsb.u_ b2) 28
 have hch:=checks_any _ _ _ hmx
 have HCH:=h_ hch
 clear hmx hch
 obtain ⟨W2,hW2⟩:=gM (((w.alloc (.cells #[.int .i64 ma.rows,.int .i64 ma.cols,sa] 28)).alloc (.cells #[.int .i64 mb.rows,.int .i64 mb.cols,sb] 28)).alloc (.cells #[.int .i64 0,.int .i64 0,.slice none 0 0] 28))
 have A0:BoxMx W2 w.heap.size ma:=by
  have h:=box_of hsa 28
  rw[hW2];exact (h.u_ (o_ _ _)).u_ (o_ _ _)
 have A1:BoxMx W2 (w.heap.size+1) mb:=by
  have h:=box_of (hsb.u_ b0) 28
  rw[hW2];have:=h.u_ (o_ _ (.cells #[.int .i64 0,.int .i64 0,.slice none 0 0] 28));simpa using this
 have hW2s:W2.heap.size=w.heap.size+3:=by rw[hW2];simp
 have hW2b:Below w.heap.size w W2:=by rw[hW2];exact b2
 have hQ:ResBox W2 (w.heap.size+1+1):=by rw[hW2];exact ResBox.new _ _ (by simp)
 rw[←hW2]at HCH
 have HQ:=h_ hQ
 have HW2:=h_ hW2
 have HA0:=h_ A0
 have HA1:=h_ A1
 have HS:=h_ hW2s
 have HB:=h_ hW2b
 clear b0 b1 b2 hsa hsb A0 A1 hQ hW2s hW2b hW2
 go_enter Try.func105,Try.ntmps105
 go_wp2_with fail
 rw[←HW2.out]
 have h:=HCH.out
 rw[HS.out]at h
 refine h.mono ?_
 clear h
 rintro e w3 ⟨rfl,hb3⟩
 have hb:=(o_ W2 _).trans (hb3.mono (by simp))
 have HB3:=h_ hb
 have p:=HQ.out.u_ hb
 have p0:=p.c0
 have p1:=p.c1
 have p2:=p.c2
 have p3:=p.f 0
 have p4:=p.f 1
 have p5:=p.f 2
 clear hb hb3 p HCH HQ
 have HW:=h_ (HB.out.trans (HB3.out.mono HB.out.size))
 have ret0:∀(t u:Value),Below w.heap.size w (((w3.setCell ⟨w.heap.size+1+1,0,none⟩ t).setCell ⟨w.heap.size+1+1,1,none⟩ u).setCell ⟨w.heap.size+1+1,2,none⟩ (.slice none 0 0)):=fun t u=>((HW.out.setCell (by simp;omega) _).setCell (by simp;omega) _).setCell (by simp;omega) _
 have HRT:=h_ ret0
 clear ret0
 by_cases hf:faults [ma,mb]=0
 ·rw[e_ hf]
  obtain ⟨fa,fb⟩:=faults_two hf
  obtain ⟨Ra,Ca,ga⟩:=o__ fa
  obtain ⟨Rb,Cb,gb⟩:=o__ fb
  obtain ⟨s0,d0,d1,d2,hi0⟩:=HA0.out.u_ HB3.out
  obtain ⟨t0,e0,e1,e2,hi1⟩:=HA1.out.u_ HB3.out
  by_cases hs:ma.cols=mb.rows
  ·have hE:mulE ma mb=0:=by unfold mulE;rw[if_neg (by simp[hf]),if_neg (by simp[hs])]
   have HE:=h_ hE
   have hb':=eqF hs
   have eg:=enters_of (f:=109) Try.func109 (by kernel_rfl) rfl
   have hCb:Ca=Rb:=by have:=ga.c;have:=gb.r;omega
   have hg:=mul_gives w.heap.size (w.heap.size+1) ma mb Ra Ca Cb w3 (HA0.out.u_ HB3.out) (HA1.out.u_ HB3.out) ga.c gb.c ga.hR (by have:=ga.hC;omega) (by have:=gb.hC;omega) ga.l (by rw[hCb];exact gb.l)
   have hfl:=fill_any _ _ eg Ra Cb ma.rows mb.cols ga.r gb.c ga.hR (by have:=gb.hC;omega) _ w3 hg
   have HF:=h_ hfl
   have HG:=h_ (And.intro ga gb)
   clear hg hfl eg hs hE hf ga gb fa fb hi0 hi1
   go_wp2_with fail
   refine HF.out.mono ?_
   rintro e w4 ⟨xa,xn,xc,rfl,hnew,hb4⟩
   have HN:=h_ hnew
   have HB4:=h_ hb4
   have o0:=c_ hb4 p0
   have o1:=c_ hb4 p1
   have o2:=c_ hb4 p2
   have hlt:w.heap.size+1+1<w3.heap.size:=World.block_lt_of_cell? w3 _ p0
   have o3:=(hb4.frozen (p:=⟨w.heap.size+1+1,0,none⟩) hlt).trans p3
   have o4:=(hb4.frozen (p:=⟨w.heap.size+1+1,1,none⟩) hlt).trans p4
   have o5:=(hb4.frozen (p:=⟨w.heap.size+1+1,2,none⟩) hlt).trans p5
   have HLT:=h_ hlt
   clear hnew hb4 hlt p0 p1 p2 p3 p4 p5 d0 d1 d2 e0 e1 e2
   go_wp2
   refine bodyPost_ret (v:=.tuple #[.agg #[.int .i64 ma.rows,.int .i64 mb.cols,.slice xa xn xc],.nilIface]) (by simp[results,Try.results105,go_sem,o0,o1,o2]) rfl ⟨_,by rw[HE.out];rfl,?_,?_,HN.out.fresh HW.out.size _ _⟩
   ·rw[mulX_yes HE.out HG.out.1.r HG.out.1.c HG.out.2.c]
    exact ⟨_,by rw[HG.out.1.r,HG.out.2.c],(((HN.out.set HLT.out _ _).set HLT.out _ _).set HLT.out _ _).isInts⟩
   ·exact (((HW.out.trans (HB4.out.mono HW.out.size)).setCell (by simp;omega) _).setCell (by simp;omega) _).setCell (by simp;omega) _
  ·have hE:mulE ma mb=2:=by unfold mulE;rw[if_neg (by simp[hf]),if_pos (by simp[hs])]
   have HE:=h_ hE
   have hb':=eqT hs
   clear hs hE hf ga gb fa fb hi0 hi1
   go_wp2
   refine bodyPost_ret (v:=.tuple #[.agg #[.int .i64 0,.int .i64 0,.slice none 0 0],.iface 65 (.int .i64 2)]) (by simp[results,Try.results105,go_sem,p0,p1,p2]) rfl ⟨_,by rw[HE.out];rfl,by rw[mulX_no (by rw[HE.out];decide)];exact isMx_no _,HRT.out _ _,y_ _ _ _⟩
 ·have hE:mulE ma mb=faults [ma,mb]:=by unfold mulE;rw[if_pos hf]
  have HE:=h_ (And.intro hE hf)
  rw[n_ hf]
  obtain ⟨k,hk⟩:=gN (faults [ma,mb])
  rw[hk]at HE ⊢
  clear hE hf hk
  go_wp2
  refine bodyPost_ret (v:=.tuple #[.agg #[.int .i64 0,.int .i64 0,.slice none 0 0],.iface 65 (.int .i64 k)]) (by simp[results,Try.results105,go_sem,p0,p1,p2]) rfl ⟨_,by rw[HE.out.1,n_ HE.out.2],by rw[mulX_no (by rw[HE.out.1];exact HE.out.2)];exact isMx_no _,HRT.out _ _,y_ _ _ _⟩
set_option maxHeartbeats 400000 in
theorem add_gives(A B:Nat)(m k:Mx)(R C:Nat)(w:World)(hA:BoxMx w A m)(hB:BoxMx w B k)(hc:m.cols=(C:Int))(hc':k.cols=(C:Int))(hR:R≤24)(hC:C≤24)(hl:m.cells.length=R*C)(hl':k.cells.length=R*C):
  Gives 81 #[.pointer (some ⟨A,0,none⟩),.pointer (some ⟨B,0,none⟩)] R C (fun i j=>ad ((m.cells[i*C+j]?).getD 0) ((k.cells[i*C+j]?).getD 0)) w:=by
 intro W i j xi xj hxi hxj hi hj hb
 obtain ⟨s,d0,d1,d2,hs⟩:=hA.u_ hb
 obtain ⟨t,e0,e1,e2,ht⟩:=hB.u_ hb
 obtain ⟨sa,sn,sc,rfl⟩:=hs.shape
 obtain ⟨ta,tn,tc,rfl⟩:=ht.shape
 have hm:M_ W (.agg #[.int .i64 m.rows,.int .i64 m.cols,.slice sa sn sc]) m:=⟨_,rfl,hs⟩
 have hk:M_ W (.agg #[.int .i64 k.rows,.int .i64 k.cols,.slice ta tn tc]) k:=⟨_,rfl,ht⟩
 have HC:=h_ (fun W' (h:Below W.heap.size W W')=>at_any _ m R C i j xi xj W' (hm.u_ h) hc hR hC hl hxi hxj hi hj)
 have HD:=h_ (fun W' (h:Below W.heap.size W W')=>at_any _ k R C i j xi xj W' (hk.u_ h) hc' hR hC hl' hxi hxj hi hj)
 have HA:=h_ (And.intro d0 (And.intro d1 d2))
 have HB:=h_ (And.intro e0 (And.intro e1 e2))
 have HB0:=h_ (show Below W.heap.size W W.drew from ⟨rfl,rfl,rfl,Nat.le_refl _,fun _ _=>rfl⟩)
 clear hs hm hb hB hl hc hxi hxj hA hk ht hl' hc'
 go_enter Try.func81,Try.ntmps81
 go_wp2_with fail
 go_region_held3 (fun W'=>W'.cell? ⟨A,0,none⟩=some (.int .i64 m.rows)∧W'.cell? ⟨A,1,none⟩=some (.int .i64 m.cols)∧W'.cell? ⟨A,2,none⟩=some (.slice sa sn sc)∧W'.cell? ⟨B,0,none⟩=some (.int .i64 k.rows)∧W'.cell? ⟨B,1,none⟩=some (.int .i64 k.cols)∧W'.cell? ⟨B,2,none⟩=some (.slice ta tn tc)) (go_keep)
  (first
   |(go_at_call 51;refine (HD.out _ HB1.out).mono ?_;rintro e w2 ⟨rfl,hb2⟩;have HB2:=h_ (HB1.out.trans (hb2.mono HB1.out.size));have h0:=c_ HB2.out HA.out.1;have h1:=c_ HB2.out HA.out.2.1;have h2:=c_ HB2.out HA.out.2.2;have i0:=c_ HB2.out HB.out.1;have i1:=c_ HB2.out HB.out.2.1;have i2:=c_ HB2.out HB.out.2.2;clear hb2)
   |(go_at_call 51;refine (HC.out _ HB0.out).mono ?_;rintro e w1 ⟨rfl,hb1⟩;have HB1:=h_ (HB0.out.trans (hb1.mono HB0.out.size));have f0:=c_ HB1.out HA.out.1;have f1:=c_ HB1.out HA.out.2.1;have f2:=c_ HB1.out HA.out.2.2;have g0:=c_ HB1.out HB.out.1;have g1:=c_ HB1.out HB.out.2.1;have g2:=c_ HB1.out HB.out.2.2;clear hb1)
   |(go_at_call 40;refine (add_any _ _ _).mono ?_;rintro e w3 ⟨rfl,rfl⟩))
 go_wp2
 go_ret
 exact ⟨rfl,HB2.out⟩
set_option maxHeartbeats 400000 in
theorem times_gives(A X:Nat)(m:Mx)(x:Int)(R C:Nat)(w:World)(hA:BoxMx w A m)(hX:w.cell? ⟨X,0,none⟩=some (.int .i64 x))(hc:m.cols=(C:Int))(hR:R≤24)(hC:C≤24)(hl:m.cells.length=R*C):
  Gives 125 #[.pointer (some ⟨A,0,none⟩),.pointer (some ⟨X,0,none⟩)] R C (fun i j=>ml ((m.cells[i*C+j]?).getD 0) x) w:=by
 intro W i j xi xj hxi hxj hi hj hb
 obtain ⟨s,d0,d1,d2,hs⟩:=hA.u_ hb
 have d3:=c_ hb hX
 obtain ⟨sa,sn,sc,rfl⟩:=hs.shape
 have hm:M_ W (.agg #[.int .i64 m.rows,.int .i64 m.cols,.slice sa sn sc]) m:=⟨_,rfl,hs⟩
 have HC:=h_ (fun W' (h:Below W.heap.size W W')=>at_any _ m R C i j xi xj W' (hm.u_ h) hc hR hC hl hxi hxj hi hj)
 have HA:=h_ (And.intro d0 (And.intro d1 (And.intro d2 d3)))
 have HB0:=h_ (show Below W.heap.size W W.drew from ⟨rfl,rfl,rfl,Nat.le_refl _,fun _ _=>rfl⟩)
 clear hs hm hb hl hc hxi hxj hA hX
 go_enter Try.func125,Try.ntmps125
 go_wp2_with fail
 go_region_held3 (fun W'=>W'.cell? ⟨A,0,none⟩=some (.int .i64 m.rows)∧W'.cell? ⟨A,1,none⟩=some (.int .i64 m.cols)∧W'.cell? ⟨A,2,none⟩=some (.slice sa sn sc)∧W'.cell? ⟨X,0,none⟩=some (.int .i64 x)) (go_keep)
  (first
   |(go_at_call 51;refine (HC.out _ HB0.out).mono ?_;rintro e w1 ⟨rfl,hb1⟩;have HB1:=h_ (HB0.out.trans (hb1.mono HB0.out.size));have f0:=c_ HB1.out HA.out.1;have f1:=c_ HB1.out HA.out.2.1;have f2:=c_ HB1.out HA.out.2.2.1;have f3:=c_ HB1.out HA.out.2.2.2;clear hb1)
   |(go_at_call 65;refine (mul_any _ _ _).mono ?_;rintro e w3 ⟨rfl,rfl⟩))
 go_wp2
 go_ret
 exact ⟨rfl,HB1.out⟩
set_option maxHeartbeats 800000 in
set_option maxRecDepth 100000 in
theorem sums_gives(A:Nat)(m:Mx)(R C:Nat)(w:World)(hA:BoxMx w A m)(hr:m.rows=(R:Int))(hc:m.cols=(C:Int))(hR:R≤24)(hC:C≤24)(hl:m.cells.length=R*C):
  Gives 113 #[.pointer (some ⟨A,0,none⟩)] 1 C (fun _ j=>colS m.cells C j R) w:=by
 intro W i j xi xj hxi hxj hi hj hb
 have hA1:=hA.u_ hb
 obtain ⟨s,d0,d1,d2,hs⟩:=hA1
 obtain ⟨sa,sn,sc,rfl⟩:=hs.shape
 have hm:M_ W (.agg #[.int .i64 m.rows,.int .i64 m.cols,.slice sa sn sc]) m:=⟨_,rfl,hs⟩
 have HC:=h_ (fun W' (h:Below W.heap.size W W') (l:Nat) (xl:Int) (hxl:xl=(l:Int)) (hlt:l<R)=>at_any _ m R C l j xl xj W' (hm.u_ h) hc hR hC hl hxl hxj hlt hj)
 have HA:=h_ (And.intro d0 (And.intro d1 d2))
 obtain ⟨r,er⟩:=gN (m.rows)
 have hrr:r=(R:Int):=by rw[←er];exact hr
 have HRR:=h_ hrr
 rw[er]at HC HA d0
 clear hs hm hb hA hl hc hxi hxj hr er hrr
 go_enter Try.func113,Try.ntmps113
 go_wp2
 go_loopw [6,10] (fun v a wr=>∃(l:Nat) (xl:Int),l≤R∧xl=(l:Int)∧a=.int .i64 xl∧v=.int .i64 (colS m.cells C j l)∧Below W.heap.size W wr) (fun _ a _=>R - (intOf a).toNat)
 case atStart=>exact ⟨0,0,Nat.zero_le _,rfl,rfl,rfl,Below.refl _ _⟩
 case round=>
  obtain ⟨l,xl,hl,hxl,rfl,rfl,hbw⟩:=hrel
  have HBW:=h_ hbw
  have HXL:=h_ hxl
  have hxl0:0≤xl:=by omega
  have hxl1:xl≤24:=by omega
  have a0:=c_ hbw HA.out.1
  have a1:=c_ hbw HA.out.2.1
  have a2:=c_ hbw HA.out.2.2
  clear hbw hxl d0 d1 d2
  by_cases hlt:xl<r
  ·have hlR:l<R:=by have:=HXL.out;have:=HRR.out;omega
   go_wp2_with fail
   refine (HC.out _ HBW.out l xl HXL.out hlR).mono ?_
   rintro e w1 ⟨rfl,hb1⟩
   have HB1:=h_ (HBW.out.trans (hb1.mono HBW.out.size))
   clear hb1
   go_wp2_with (go_at_call 40;refine (add_any _ _ _).mono ?_;rintro e w3 ⟨rfl,rfl⟩)
   go_roundw
   case rel=>exact ⟨l+1,_,by omega,by have:=HXL.out;omega,rfl,rfl,HB1.out⟩
   case measure=>have:=HXL.out;simp[intOf];omega
  ·go_wp2
   go_ret
   exact ⟨i_ (by rw[show l=R by have:=HXL.out;have:=HRR.out;omega]),HBW.out⟩
end Go.Proofs.Ytniloklglpchfaf
