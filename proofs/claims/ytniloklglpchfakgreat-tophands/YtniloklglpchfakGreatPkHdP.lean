/- Two stages by hand, in the order of an even plan: what each has done, when it can go on. No program in sight. -/
import Derived.Test.YtniloklglpchfakGreatPkPlR3
import Derived.Test.YtniloklglpchfakGreatPkFix
import Derived.Test.YtniloklglpchfakGreatPkLvOf
import Derived.Deep.RegionHeld3
namespace Go.Proofs.YtniloklglpchfakGreat
open Go.RowKit
def bks (l:List (Int×Int)) (c:Nat):Nat:=(l.take c).countP (fun a=>decide (a.1=2))
theorem bks_zero(l:List (Int×Int)):bks l 0=0:=by simp[bks]
theorem bks_back{l:List (Int×Int)}{c:Nat}{a:Int×Int}(h:l[c]?=some a)(ha:a.1=2):bks l (c+1)=bks l c+1:=by
 unfold bks;rw[take_snoc h,List.countP_append];simp[ha]
theorem bks_forth{l:List (Int×Int)}{c:Nat}{a:Int×Int}(h:l[c]?=some a)(ha:a.1≠2):bks l (c+1)=bks l c:=by
 unfold bks;rw[take_snoc h,List.countP_append];simp[ha]
theorem gob_at{l:List (Int×Int)}(h:gob 0 l=true):∀c,c≤l.length→gob (bks l c:Int) (l.drop c)=true
 |0,_=>by rw[bks_zero];exact h
 |c+1,hc=>by
  obtain ⟨a,ha⟩:∃a,l[c]?=some a:=⟨_,List.getElem?_eq_getElem hc⟩
  have ih:=gob_at h c (by omega)
  rw[gob_drop ha]at ih
  by_cases h2:a.1=2
  ·rw[if_pos h2]at ih
   by_cases h3:a.2=(bks l c:Int)
   ·rw[if_pos h3]at ih
    rw[bks_back ha h2]
    exact ih
   ·rw[if_neg h3]at ih;cases ih
  ·rw[if_neg h2]at ih
   rw[bks_forth ha h2]
   exact ih
theorem gob_next{l:List (Int×Int)}(h:gob 0 l=true){c:Nat}{a:Int×Int}(ha:l[c]?=some a)(h2:a.1=2):a.2=(bks l c:Int):=by
 have ih:=gob_at h c (by have:=(List.getElem?_eq_some_iff.1 ha).1;omega)
 rw[gob_drop ha,if_pos h2]at ih
 by_cases h3:a.2=(bks l c:Int)
 ·exact h3
 ·rw[if_neg h3]at ih;cases ih
theorem bks_mem{l:List (Int×Int)}(h:gob 0 l=true)(m:Int):∀c,c≤l.length→((2,m)∈l.take c↔0≤m∧m<(bks l c:Int))
 |0,_=>by rw[bks_zero];simp
 |c+1,hc=>by
  obtain ⟨a,ha⟩:∃a,l[c]?=some a:=⟨_,List.getElem?_eq_getElem hc⟩
  rw[take_snoc ha,List.mem_append,bks_mem h m c (by omega),List.mem_singleton]
  by_cases h2:a.1=2
  ·have h3:=gob_next h ha h2
   rw[bks_back ha h2]
   constructor
   ·rintro (q|q)
    ·omega
    ·have:m=a.2:=by rw[←q]
     omega
   ·intro q
    by_cases e:m<(bks l c:Int)
    ·exact .inl ⟨q.1,e⟩
    ·refine .inr ?_
     have:m=a.2:=by omega
     rw[this,←h2]
  ·rw[bks_forth ha h2]
   constructor
   ·rintro (q|q)
    ·exact q
    ·exact absurd (by rw[←q]) h2
   ·exact .inl
theorem gob_of{l:List (Int×Int)}{m:Nat}(h:∀x∈l,okA (m:Int) x)(h2:apart l)(h3:¬(l.length:Int)<2*(m:Int))(he:evenA (-1) l=true):gob 0 l=true:=by
 rw[gob_even (m:=(m:Int)) (last:=-1) (apart_nodup h2) (fun x hx=>⟨(h _ hx).2.2.1,(h _ hx).2.2.2⟩) (fun x h0 h1=>act_in h h2 h3 ⟨show (1:Int)≤2 by decide,show (2:Int)≤2 by decide,h0,h1⟩) (by omega)]
 exact he
structure StOK (l:List (Int×Int)) (P:Nat):Prop where
 ok:∀x∈l,okA (P:Int) x
 ap:apart l
 len:l.length=2*P
 ah:ahead l
 gb:gob 0 l=true
theorem StOK.all{l:List (Int×Int)}{P:Nat}(h:StOK l P){x:Int×Int}(hx:okA (P:Int) x):x∈l:=act_in h.ok h.ap (by rw[h.len];omega) hx
theorem StOK.bks_le{l:List (Int×Int)}{P:Nat}(h:StOK l P){c:Nat}(hc:c≤2*P):bks l c≤P:=by
 rcases Nat.lt_or_ge P (bks l c) with q|q
 ·have:=(bks_mem h.gb (P:Int) c (by rw[h.len];exact hc)).2 ⟨by omega,by omega⟩
  have:=(h.ok _ (List.mem_of_mem_take this)).2.2.2
  omega
 ·exact q
theorem StOK.fore{l:List (Int×Int)}{P:Nat}(h:StOK l P){c:Nat}{m:Int}(ha:l[c]?=some (2,m)):(1,m)∈l.take c:=by
 have hm:=h.ok _ (List.mem_of_getElem? ha)
 obtain ⟨i,hi⟩:=List.getElem?_of_mem (h.all (x:=(1,m)) ⟨show (1:Int)≤1 by decide,show (1:Int)≤2 by decide,hm.2.2.1,hm.2.2.2⟩)
 rcases Nat.lt_trichotomy i c with q|q|q
 ·exact (take_iff h.ap hi c).2 q
 ·subst q;rw[ha]at hi;cases hi
 ·exact absurd ⟨rfl,rfl⟩ (h.ah i c _ _ q hi ha)
theorem StOK.forth{l:List (Int×Int)}{P:Nat}(h:StOK l P){c:Nat}{a:Int×Int}(ha:l[c]?=some a):a=(1,a.2)∨a=(2,a.2):=by
 obtain ⟨h1,h2,_,_⟩:=h.ok _ (List.mem_of_getElem? ha)
 have:a.1=1∨a.1=2:=by omega
 rcases this with e|e
 ·left;rw[←e]
 ·right;rw[←e]
structure HandP (p0 p1:List (Int×Int)) (P:Nat):Prop where
 s0:StOK p0 P
 s1:StOK p1 P
 dn:doneB [p0,p1]=true
 lo:1≤P
 hi:P≤12
theorem hand_of{p0 p1:List (Int×Int)}{P:Nat}(h:planE [p0,p1] (P:Int)=0)(he:evenB [p0,p1]=true):HandP p0 p1 P:=by
 obtain ⟨h1,h2,h3⟩:=planE_in h
 have hr:1≤P∧P≤12:=by
  unfold rangeP at h1
  omega
 have hs:∀l∈[p0,p1],evenA (-1) l=true:=by
  unfold evenB at he
  exact List.all_eq_true.1 he
 have ha:actsE p0 (P:Int)=0∧actsE p1 (P:Int)=0:=by
  unfold stagesE at h2
  by_cases c:actsE p0 (P:Int)=0
  ·rw[if_pos c]at h2
   unfold stagesE at h2
   by_cases d:actsE p1 (P:Int)=0
   ·exact ⟨c,d⟩
   ·rw[if_neg d]at h2;exact absurd h2 d
  ·rw[if_neg c]at h2;exact absurd h2 c
 have mk:∀l,actsE l (P:Int)=0→evenA (-1) l=true→StOK l P:=fun l e1 e2=>by
  obtain ⟨a1,a2,a3,a4⟩:=actsE_in e1
  have:=acts_len a1 a2
  exact ⟨a1,a2,by omega,a4,gob_of a1 a2 a3 e2⟩
 exact ⟨mk p0 ha.1 (hs p0 (by simp)),mk p1 ha.2 (hs p1 (by simp)),h3,hr.1,hr.2⟩
theorem whr_take{l:List (Int×Int)}(h:apart l){a:Int×Int}(ha:a∈l)(c:Nat):whr a l<(c:Int)↔a∈l.take c:=by
 obtain ⟨i,hi⟩:=List.getElem?_of_mem ha
 rw[take_iff h hi c,whr_at hi (fun j x hj hx e=>h i j a x hj hi hx e.symm)]
 omega
theorem can0{p0 p1:List (Int×Int)}{P c0 c1:Nat}(h:HandP p0 p1 P){a:Int×Int}(ha:p0[c0]?=some a):Can [p0,p1] [c0,c1] 0↔(a.1=2→a∈p1.take c1):=by
 have hok:=h.s0.ok _ (List.mem_of_getElem? ha)
 have hin:a∈p1:=h.s1.all hok
 constructor
 ·rintro ⟨b,hb,hk⟩ h2
  obtain rfl:a=b:=Option.some.inj (ha.symm.trans hb)
  exact (whr_take h.s1.ap hin c1).1 (hk 1 (show 1<2 by decide) (.inl ⟨h2,rfl⟩))
 ·intro q
  refine ⟨a,ha,fun k hk hn=>?_⟩
  rcases hn with ⟨h2,e⟩|⟨_,e⟩
  ·subst e
   exact (whr_take h.s1.ap hin c1).2 (q h2)
  ·omega
theorem can1{p0 p1:List (Int×Int)}{P c0 c1:Nat}(h:HandP p0 p1 P){a:Int×Int}(ha:p1[c1]?=some a):Can [p0,p1] [c0,c1] 1↔(a.1≠2→a∈p0.take c0):=by
 have hok:=h.s1.ok _ (List.mem_of_getElem? ha)
 have hin:a∈p0:=h.s0.all hok
 constructor
 ·rintro ⟨b,hb,hk⟩ h2
  obtain rfl:a=b:=Option.some.inj (ha.symm.trans hb)
  exact (whr_take h.s0.ap hin c0).1 (hk 0 (show 0<2 by decide) (.inr ⟨h2,rfl⟩))
 ·intro q
  refine ⟨a,ha,fun k hk hn=>?_⟩
  rcases hn with ⟨h2,e⟩|⟨h2,e⟩
  ·subst e
   have:([p0,p1]:List (List (Int×Int))).length=2:=rfl
   omega
  ·obtain rfl:k=0:=by omega
   exact (whr_take h.s0.ap hin c0).2 (q h2)
theorem hand_no{p0 p1:List (Int×Int)}{c0 c1:Nat}:(p0[c0]?=none→¬Can [p0,p1] [c0,c1] 0)∧(p1[c1]?=none→¬Can [p0,p1] [c0,c1] 1):=by
 refine ⟨fun h q=>?_,fun h q=>?_⟩
 ·obtain ⟨a,ha,_⟩:=q
  rw[show (stA [p0,p1] 0)[atN [c0,c1] 0]?=p0[c0]? from rfl,h]at ha
  cases ha
 ·obtain ⟨a,ha,_⟩:=q
  rw[show (stA [p0,p1] 1)[atN [c0,c1] 1]?=p1[c1]? from rfl,h]at ha
  cases ha
theorem hand_end{p0 p1:List (Int×Int)}{P c0 c1:Nat}(h:HandP p0 p1 P)(hu:Und [p0,p1] [c0,c1])(h0:¬Can [p0,p1] [c0,c1] 0)(h1:¬Can [p0,p1] [c0,c1] 1):c0=2*P∧c1=2*P:=by
 have hc:Closed [p0,p1] [c0,c1]:=fun s hs=>by
  have:s=0∨s=1:=by
   have:([p0,p1]:List (List (Int×Int))).length=2:=rfl
   omega
  rcases this with rfl|rfl
  ·exact h0
  ·exact h1
 have hd:=(done_iff hu hc).1 h.dn
 have e0:=hd 0 (show 0<2 by decide)
 have e1:=hd 1 (show 1<2 by decide)
 exact ⟨by rw[←h.s0.len];exact e0,by rw[←h.s1.len];exact e1⟩
theorem und_first(p0 p1:List (Int×Int)):Und [p0,p1] [0,0]:=und_zero [p0,p1]
theorem und_next0{p0 p1:List (Int×Int)}{c0 c1:Nat}(hu:Und [p0,p1] [c0,c1])(hc:Can [p0,p1] [c0,c1] 0):Und [p0,p1] [c0+1,c1]:=hu.step rfl hc
theorem und_next1{p0 p1:List (Int×Int)}{c0 c1:Nat}(hu:Und [p0,p1] [c0,c1])(hc:Can [p0,p1] [c0,c1] 1):Und [p0,p1] [c0,c1+1]:=hu.step rfl hc
theorem idx_cell{m:Mx}{R C i j:Nat}(hl:m.cells.length=R*C)(hi:i<R)(hj:j<C):m.cells[i*C+j]?=some ((m.cells[i*C+j]?).getD 0):=by
 have:=idx_lt hi hj
 rw[List.getElem?_eq_getElem (by omega)];rfl
set_option maxHeartbeats 400000 in
theorem at_any(v:Value)(m:Mx)(R C i j:Nat)(xi xj:Int)(w:World)(hv:M_ w v m)(hc:m.cols=(C:Int))(hR:R≤24)(hC:C≤24)(hl:m.cells.length=R*C)(hxi:xi=(i:Int))(hxj:xj=(j:Int))(hi:i<R)(hj:j<C):
  Calls Tryz.prog 96 #[v,.int .i64 xi,.int .i64 xj] w fun e w'=>e=.returned (.int .i64 ((m.cells[i*C+j]?).getD 0))∧Below w.heap.size w w':=by
 obtain ⟨s,rfl,hs⟩:=hv
 have hx:=idx_cell hl hi hj
 have hidx:=idx_lt hi hj
 obtain ⟨x,ex⟩:=gN ((m.cells[i*C+j]?).getD 0)
 rw[ex]at hx ⊢
 have hn576:=Nat.mul_le_mul hR hC
 obtain ⟨aa,cap,rfl,h2,h3,h4⟩:=hs
 obtain ⟨b,off,rfl,hcl⟩:=h4.resolve_left (fun e=>by rw[e]at hx;simp at hx)
 obtain ⟨c,ec⟩:=gN (m.cols)
 obtain ⟨r,er⟩:=gN (m.rows)
 rw[ec]at hc
 rw[ec,er]
 have cx:∀o,(w.alloc o).cell? ⟨b,off+(xi*c+xj).toNat,none⟩=some (.int .i64 x):=fun o=>by
  rw[idx_nat hxi hxj hc];exact p_ (hcl _ _ hx) o
 obtain ⟨N,hN⟩:=gN (m.cells.length)
 have t3:xi*c+xj<(N:Int):=by rw[mul_cast_idx hxi hxj hc];omega
 have t1:=mul_bds hxi hc (by omega) hC
 have u1:=wrap_in (x:=xi*c) (by omega) (by omega)
 have u2:=wrap_in (x:=xi*c+xj) (by omega) (by omega)
 have g1:0≤xi*c+xj:=by omega
 rw[hN]at h2 ⊢
 have hN':N≤576:=by omega
 clear hx ex hcl h4 hl hxi hxj hc hidx hN hn576 ec er
 go_enter Tryz.func96,Tryz.ntmps96
 go_wp2
 go_ret
 exact ⟨rfl,o_ _ _⟩
def BoxMx (w:World) (B:Nat) (m:Mx):Prop:=∃s,w.cell? ⟨B,0,none⟩=some (.int .i64 m.rows)∧w.cell? ⟨B,1,none⟩=some (.int .i64 m.cols)∧w.cell? ⟨B,2,none⟩=some s∧I_ w s m.cells
theorem BoxMx.u_{w w':World}{B:Nat}{m:Mx}(h:BoxMx w B m)(hb:Below w.heap.size w w'):BoxMx w' B m:=by
 obtain ⟨s,h0,h1,h2,h3⟩:=h
 exact ⟨s,c_ hb h0,c_ hb h1,c_ hb h2,h3.u_ hb⟩
set_option maxHeartbeats 400000 in
theorem turn_gives(B:Nat)(m:Mx)(R C:Nat)(w:World)(hB:BoxMx w B m)(hc:m.cols=(C:Int))(hR:R≤24)(hC:C≤24)(hl:m.cells.length=R*C):
  Gives 160 #[.pointer (some ⟨B,0,none⟩)] C R (fun i j=>(m.cells[j*C+i]?).getD 0) w:=by
 intro W i j xi xj hxi hxj hi hj hb
 obtain ⟨s,d0,d1,d2,hs⟩:=hB.u_ hb
 obtain ⟨sa,sn,sc,rfl⟩:=hs.shape
 have hm:M_ W (.agg #[.int .i64 m.rows,.int .i64 m.cols,.slice sa sn sc]) m:=⟨_,rfl,hs⟩
 have HC:=h_ (at_any _ m R C j i xj xi W hm hc hR hC hl hxj hxi hj hi)
 clear hs hm hb hB hl hc hxi hxj
 go_enter Tryz.func160,Tryz.ntmps160
 go_wp2_with (go_at_call 96;refine HC.out.mono ?_;rintro e w1 ⟨rfl,hb1⟩)
 go_ret
 exact ⟨rfl,hb1⟩
set_option maxHeartbeats 400000 in
theorem rows_gives(B F:Nat)(m:Mx)(R C f n:Nat)(xf:Int)(w:World)(hB:BoxMx w B m)(hF:w.cell? ⟨F,0,none⟩=some (.int .i64 xf))(hxf:xf=(f:Int))(hc:m.cols=(C:Int))(hR:R≤24)(hC:C≤24)(hl:m.cells.length=R*C)(hfn:f+n≤R):
  Gives 95 #[.pointer (some ⟨B,0,none⟩),.pointer (some ⟨F,0,none⟩)] n C (fun i j=>(m.cells[(f+i)*C+j]?).getD 0) w:=by
 intro W i j xi xj hxi hxj hi hj hb
 obtain ⟨s,d0,d1,d2,hs⟩:=hB.u_ hb
 have d3:=c_ hb hF
 obtain ⟨sa,sn,sc,rfl⟩:=hs.shape
 have hm:M_ W (.agg #[.int .i64 m.rows,.int .i64 m.cols,.slice sa sn sc]) m:=⟨_,rfl,hs⟩
 have HC:=h_ (at_any _ m R C (f+i) j (xf+xi) xj W hm hc hR hC hl (by omega) hxj (by omega) hj)
 have u1:=wrap_in (x:=xf+xi) (by omega) (by omega)
 have b0:0≤xf∧xf≤24:=by omega
 have b1:0≤xi∧xi≤24:=by omega
 clear hs hm hb hB hl hc hxi hxj hF hxf
 go_enter Tryz.func95,Tryz.ntmps95
 go_wp2_with (go_at_call 96;refine HC.out.mono ?_;rintro e w1 ⟨rfl,hb1⟩)
 go_ret
 exact ⟨rfl,hb1⟩
set_option maxHeartbeats 800000 in
set_option maxRecDepth 100000 in
theorem mul_gives(A B:Nat)(m k:Mx)(Ra Ca Cb:Nat)(w:World)(hA:BoxMx w A m)(hB:BoxMx w B k)(hc:m.cols=(Ca:Int))(hc':k.cols=(Cb:Int))(hRa:Ra≤24)(hCa:Ca≤24)(hCb:Cb≤24)(hl:m.cells.length=Ra*Ca)(hl':k.cells.length=Ca*Cb):
  Gives 157 #[.pointer (some ⟨A,0,none⟩),.pointer (some ⟨B,0,none⟩)] Ra Cb (fun i j=>dot m.cells k.cells Ca Cb i j Ca) w:=by
 intro W i j xi xj hxi hxj hi hj hb
 have hA1:=hA.u_ hb
 have hB1:=hB.u_ hb
 obtain ⟨s,d0,d1,d2,hs⟩:=hA1
 obtain ⟨sa,sn,sc,rfl⟩:=hs.shape
 have hm:M_ W (.agg #[.int .i64 m.rows,.int .i64 m.cols,.slice sa sn sc]) m:=⟨_,rfl,hs⟩
 obtain ⟨t,e0,e1,e2,ht⟩:=hB1
 obtain ⟨ta,tn,tc,rfl⟩:=ht.shape
 have hk:M_ W (.agg #[.int .i64 k.rows,.int .i64 k.cols,.slice ta tn tc]) k:=⟨_,rfl,ht⟩
 have HC:=h_ (fun W' (h:Below W.heap.size W W') (l:Nat) (xl:Int) (hxl:xl=(l:Int)) (hlt:l<Ca)=>at_any _ m Ra Ca i l xi xl W' (hm.u_ h) hc hRa hCa hl hxi hxl hi hlt)
 have HD:=h_ (fun W' (h:Below W.heap.size W W') (l:Nat) (xl:Int) (hxl:xl=(l:Int)) (hlt:l<Ca)=>at_any _ k Ca Cb l j xl xj W' (hk.u_ h) hc' hCa hCb hl' hxl hxj hlt hj)
 have HA:=h_ (And.intro d0 (And.intro d1 d2))
 have HB:=h_ (And.intro e0 (And.intro e1 e2))
 obtain ⟨c,ec⟩:=gN (m.cols)
 have hcc:c=(Ca:Int):=by rw[←ec];exact hc
 have HCC:=h_ hcc
 rw[ec]at HC HA d1
 clear hs hm hb hA hB hl hc hxi hxj hk ht hl' hc' ec hcc
 go_enter Tryz.func157,Tryz.ntmps157
 go_wp2
 go_loopw [7,11] (fun v a wr=>∃(l:Nat) (xl:Int),l≤Ca∧xl=(l:Int)∧a=.int .i64 xl∧v=.int .i64 (dot m.cells k.cells Ca Cb i j l)∧Below W.heap.size W wr) (fun _ a _=>Ca - (intOf a).toNat)
 case atStart=>exact ⟨0,0,Nat.zero_le _,rfl,rfl,rfl,Below.refl _ _⟩
 case round=>
  obtain ⟨l,xl,hl,hxl,rfl,rfl,hbw⟩:=hrel
  have HBW:=h_ hbw
  have HXL:=h_ hxl
  have hxl0:0≤xl:=by omega
  have hxl1:xl≤24:=by omega
  have a0:=c_ hbw HA.out.1
  have a1:=c_ hbw HA.out.2.1
  have a2:=c_ hbw HA.out.2.2
  have b0:=c_ hbw HB.out.1
  have b1:=c_ hbw HB.out.2.1
  have b2:=c_ hbw HB.out.2.2
  clear hbw hxl d0 d1 d2 e0 e1 e2
  by_cases hlt:xl<c
  ·have hlC:l<Ca:=by have:=HXL.out;have:=HCC.out;omega
   have HB0:=h_ (show Below W.heap.size W wr.drew from ⟨HBW.out.os,HBW.out.tape,HBW.out.output,HBW.out.size,HBW.out.block⟩)
   go_wp2
   go_region_held3 (fun W'=>W'.cell? ⟨A,0,none⟩=some (.int .i64 m.rows)∧W'.cell? ⟨A,1,none⟩=some (.int .i64 c)∧W'.cell? ⟨A,2,none⟩=some (.slice sa sn sc)∧W'.cell? ⟨B,0,none⟩=some (.int .i64 k.rows)∧W'.cell? ⟨B,1,none⟩=some (.int .i64 k.cols)∧W'.cell? ⟨B,2,none⟩=some (.slice ta tn tc)) (go_keep)
    (first
     |(go_at_call 96;refine (HD.out _ HB1.out l xl HXL.out hlC).mono ?_;rintro e w2 ⟨rfl,hb2⟩;have HB2:=h_ (HB1.out.trans (hb2.mono HB1.out.size));have h0:=c_ HB2.out HA.out.1;have h1:=c_ HB2.out HA.out.2.1;have h2:=c_ HB2.out HA.out.2.2;have i0:=c_ HB2.out HB.out.1;have i1:=c_ HB2.out HB.out.2.1;have i2:=c_ HB2.out HB.out.2.2;clear hb2)
     |(go_at_call 96;refine (HC.out _ HB0.out l xl HXL.out hlC).mono ?_;rintro e w1 ⟨rfl,hb1⟩;have HB1:=h_ (HB0.out.trans (hb1.mono HB0.out.size));have f0:=c_ HB1.out HA.out.1;have f1:=c_ HB1.out HA.out.2.1;have f2:=c_ HB1.out HA.out.2.2;have g0:=c_ HB1.out HB.out.1;have g1:=c_ HB1.out HB.out.2.1;have g2:=c_ HB1.out HB.out.2.2;clear hb1)
     |(go_at_call 40;refine (add_any _ _ _).mono ?_;rintro e w3 ⟨rfl,rfl⟩)
     |(go_at_call 41;refine (mul_any _ _ _).mono ?_;rintro e w3 ⟨rfl,rfl⟩))
   go_wp2
   go_roundw
   case rel=>exact ⟨l+1,_,by omega,by have:=HXL.out;omega,rfl,rfl,HB2.out⟩
   case measure=>have:=HXL.out;simp[intOf];omega
  ·go_wp2
   go_ret
   exact ⟨i_ (by rw[show l=Ca by have:=HXL.out;have:=HCC.out;omega]),HBW.out⟩
structure Good (m:Mx) (R C:Nat):Prop where
 r:m.rows=(R:Int)
 c:m.cols=(C:Int)
 hR:R≤24
 hC:C≤12
 l:m.cells.length=R*C
 e:m.cells.all inEnds=true
theorem o__{m:Mx}(h:q_ m=0):∃R C,Good m R C:=by
 unfold q_ at h
 by_cases h1:okSides m=false
 ·rw[if_pos h1]at h;cases h
 ·rw[if_neg h1]at h
  by_cases h2:(m.cells.length:Int)≠m.rows*m.cols
  ·rw[if_pos h2]at h;cases h
  ·rw[if_neg h2]at h
   by_cases h3:m.cells.all inEnds=false
   ·rw[if_pos h3]at h;cases h
   ·simp[okSides]at h1
    have hr:m.rows=(m.rows.toNat:Int):=by omega
    have hc:m.cols=(m.cols.toNat:Int):=by omega
    refine ⟨m.rows.toNat,m.cols.toNat,hr,hc,by omega,by omega,?_,by simpa using h3⟩
    have:(m.cells.length:Int)=m.rows*m.cols:=by simpa using h2
    rw[hr,hc]at this
    have e:((m.rows.toNat:Int)*(m.cols.toNat:Int))=((m.rows.toNat*m.cols.toNat:Nat):Int):=by simp
    rw[e]at this
    omega
theorem Good.fault{m:Mx}{R C:Nat}(h:Good m R C):q_ m=0:=by
 obtain ⟨r,c,hR,hC,l,e⟩:=h
 rw[←fault_none (m:=m) (by simp[okSides];omega) (by rw[l,r,c];simp) e]
theorem mxs_two{w:World}{a b:Mx}{sa sb:Value}(ha:I_ w sa a.cells)(hb:I_ w sb b.cells)(t:TypeId):
  IsMxs (w.alloc (.cells #[.int .i64 a.rows,.int .i64 a.cols,sa,.int .i64 b.rows,.int .i64 b.cols,sb] t)) (.slice (some ⟨w.heap.size,0,none⟩) 2 2) [a,b]:=by
 refine ⟨_,2,rfl,Nat.le_refl _,by unfold maxLen;omega,.inr ⟨w.heap.size,0,rfl,fun i m hm=>?_⟩⟩
 match i,hm with
 |0,hm=>simp at hm;subst hm;exact ⟨sa,by simp,by simp,by simp,ha.u_ (o_ _ _)⟩
 |1,hm=>simp at hm;subst hm;exact ⟨sb,by simp,by simp,by simp,hb.u_ (o_ _ _)⟩
theorem mxs_one{w:World}{a:Mx}{sa:Value}(ha:I_ w sa a.cells)(t:TypeId):
  IsMxs (w.alloc (.cells #[.int .i64 a.rows,.int .i64 a.cols,sa] t)) (.slice (some ⟨w.heap.size,0,none⟩) 1 1) [a]:=by
 refine ⟨_,1,rfl,Nat.le_refl _,by unfold maxLen;omega,.inr ⟨w.heap.size,0,rfl,fun i m hm=>?_⟩⟩
 match i,hm with
 |0,hm=>simp at hm;subst hm;exact ⟨sa,by simp,by simp,by simp,ha.u_ (o_ _ _)⟩
def noMx:Mx:=⟨0,0,[]⟩
theorem isMx_no(w:World):M_ w (.agg #[.int .i64 0,.int .i64 0,.slice none 0 0]) noMx:=⟨_,rfl,I_.nil w⟩
theorem box_of{w:World}{m:Mx}{s:Value}(h:I_ w s m.cells)(t:TypeId):BoxMx (w.alloc (.cells #[.int .i64 m.rows,.int .i64 m.cols,s] t)) w.heap.size m:=
 ⟨s,by simp,by simp,by simp,h.u_ (o_ _ _)⟩
theorem box_new(V:World)(cs:Array Value)(t:TypeId){B j:Nat}{x:Value}(hB:V.heap.size=B)(h:cs[j]?=some x):(V.alloc (.cells cs t)).cell? ⟨B,j,none⟩=some x:=by
 subst hB;exact (World.cell?_alloc_at _ _ _ _ rfl).trans h
theorem box_free(V:World)(cs:Array Value)(t:TypeId){B:Nat}(hB:V.heap.size=B)(j:Nat):(V.alloc (.cells cs t)).frozen? ⟨B,j,none⟩=false:=by
 subst hB;simp
structure ResBox (w:World) (B:Nat):Prop where
 c0:w.cell? ⟨B,0,none⟩=some (.int .i64 0)
 c1:w.cell? ⟨B,1,none⟩=some (.int .i64 0)
 c2:w.cell? ⟨B,2,none⟩=some (.slice none 0 0)
 f:∀j,w.frozen? ⟨B,j,none⟩=false
theorem ResBox.new(V:World)(t:TypeId){B:Nat}(hB:V.heap.size=B):ResBox (V.alloc (.cells #[.int .i64 0,.int .i64 0,.slice none 0 0] t)) B:=
 ⟨box_new V _ t hB rfl,box_new V _ t hB rfl,box_new V _ t hB rfl,box_free V _ t hB⟩
theorem ResBox.u_{w w':World}{B:Nat}(h:ResBox w B)(hb:Below w.heap.size w w'):ResBox w' B:=by
 have hlt:=World.block_lt_of_cell? w _ h.c0
 exact ⟨c_ hb h.c0,c_ hb h.c1,c_ hb h.c2,fun j=>(hb.frozen (p:=⟨B,j,none⟩) hlt).trans (h.f j)⟩
theorem eqF{x y:Int}(h:x=y):(x !=y)=false:=by simp[h]
theorem eqT{x y:Int}(h:¬x=y):(x !=y)=true:=by simp[h]
def mulE (a b:Mx):Int:=if faults [a,b]≠0 then faults [a,b] else if a.cols≠b.rows then 2 else 0
def mulX (a b:Mx):Mx:=if mulE a b=0 then ⟨a.rows,b.cols,tab (a.rows.toNat*b.cols.toNat) (fun q=>dot a.cells b.cells a.cols.toNat b.cols.toNat (q / b.cols.toNat) (q % b.cols.toNat) a.cols.toNat)⟩ else noMx
theorem mulX_no{a b:Mx}(h:mulE a b≠0):mulX a b=noMx:=by unfold mulX;rw[if_neg h]
theorem mulX_yes{a b:Mx}{Ra Ca Cb:Nat}(h:mulE a b=0)(e1:a.rows=(Ra:Int))(e2:a.cols=(Ca:Int))(e3:b.cols=(Cb:Int)):mulX a b=⟨Ra,Cb,tab (Ra*Cb) (fun q=>dot a.cells b.cells Ca Cb (q / Cb) (q % Cb) Ca)⟩:=by
 unfold mulX;rw[if_pos h,e1,e2,e3];simp
theorem faults_two{a b:Mx}(h:faults [a,b]=0):q_ a=0∧q_ b=0:=by
 unfold faults at h
 by_cases h1:q_ a=0
 ·rw[if_pos h1]at h
  unfold faults at h
  by_cases h2:q_ b=0
  ·exact ⟨h1,h2⟩
  ·rw[if_neg h2]at h;exact absurd h h2
 ·rw[if_neg h1]at h;exact absurd h h1
theorem faults_one(a:Mx):faults [a]=q_ a:=by
 unfold faults;split
 ·rename_i h;rw[h];rfl
 ·rfl
theorem NewInts.fresh{base B:Nat}{w:World}{s:Value}{zs:List Int}(h:NewInts base w s zs)(hB:B≤base)(r c:Value):F_ B (.agg #[r,c,s]):=by
 obtain ⟨a,cap,rfl,_,_,h4⟩:=h
 intro r' c' x n k e
 simp at e
 rcases h4 with h0|⟨b,off,ha,hb,_⟩
 ·left;rw[←e.2.2.2.1,h0];rfl
 ·right
  have e3:=e.2.2.1
  rw[ha]at e3
  have:=Option.some.inj e3
  rw[←this]
  exact Nat.le_trans hB hb
def MxErr (w:World) (m:Mx) (k:Int) (e:Ending) (w':World):Prop:=∃v',e=.returned (.tuple #[v',errV k])∧M_ w' v' m∧Below w.heap.size w w'∧F_ w.heap.size v'
set_option maxHeartbeats 800000 in
theorem mmul_any(va vb:Value)(ma mb:Mx)(w:World)(hva:M_ w va ma)(hvb:M_ w vb mb):
  Calls Tryz.prog 153 #[va,vb] w (MxErr w (mulX ma mb) (mulE ma mb)):=by
 obtain ⟨sa,rfl,hsa⟩:=hva
 obtain ⟨sb,rfl,hsb⟩:=hvb
 have b0:=o_ w (.cells #[.int .i64 ma.rows,.int .i64 ma.cols,sa] 28)
 have b1:=b0.trans ((o_ _ (.cells #[.int .i64 mb.rows,.int .i64 mb.cols,sb] 28)).mono b0.size)
 have b2:=b1.trans ((o_ _ (.cells #[.int .i64 0,.int .i64 0,.slice none 0 0] 28)).mono b1.size)
 have hmx:=mxs_two (hsa.u_ b2) (hsb.u_ b2) 28
 have hch:=checks_any _ _ _ hmx
 have HCH:=h_ hch
 clear hmx hch
 obtain ⟨W2,hW2⟩:=gM (((w.alloc (.cells #[.int .i64 ma.rows,.int .i64 ma.cols,sa] 28)).alloc (.cells #[.int .i64 mb.rows,.int .i64 mb.cols,sb] 28)).alloc (.cells #[.int .i64 0,.int .i64 0,.slice none 0 0] 28))
 have A0:BoxMx W2 w.heap.size ma:=by
  have h:=box_of hsa 28
  rw[hW2];exact (h.u_ (o_ _ _)).u_ (o_ _ _)
 have A1:BoxMx W2 (w.heap.size+1) mb:=by
  have h:=box_of (hsb.u_ b0) 28
  rw[hW2];have:=h.u_ (o_ _ (.cells #[.int .i64 0,.int .i64 0,.slice none 0 0] 28));simpa using this
 have hW2s:W2.heap.size=w.heap.size+3:=by rw[hW2];simp
 have hW2b:Below w.heap.size w W2:=by rw[hW2];exact b2
 have hQ:ResBox W2 (w.heap.size+1+1):=by rw[hW2];exact ResBox.new _ _ (by simp)
 rw[←hW2]at HCH
 have HQ:=h_ hQ
 have HW2:=h_ hW2
 have HA0:=h_ A0
 have HA1:=h_ A1
 have HS:=h_ hW2s
 have HB:=h_ hW2b
 clear b0 b1 b2 hsa hsb A0 A1 hQ hW2s hW2b hW2
 go_enter Tryz.func153,Tryz.ntmps153
 go_wp2_with fail
 rw[←HW2.out]
 have h:=HCH.out
 rw[HS.out]at h
 refine h.mono ?_
 clear h
 rintro e w3 ⟨rfl,hb3⟩
 have hb:=(o_ W2 _).trans (hb3.mono (by simp))
 have HB3:=h_ hb
 have p:=HQ.out.u_ hb
 have p0:=p.c0
 have p1:=p.c1
 have p2:=p.c2
 have p3:=p.f 0
 have p4:=p.f 1
 have p5:=p.f 2
 clear hb hb3 p HCH HQ
 have HW:=h_ (HB.out.trans (HB3.out.mono HB.out.size))
 have ret0:∀(t u:Value),Below w.heap.size w (((w3.setCell ⟨w.heap.size+1+1,0,none⟩ t).setCell ⟨w.heap.size+1+1,1,none⟩ u).setCell ⟨w.heap.size+1+1,2,none⟩ (.slice none 0 0)):=fun t u=>((HW.out.setCell (by simp;omega) _).setCell (by simp;omega) _).setCell (by simp;omega) _
 have HRT:=h_ ret0
 clear ret0
 by_cases hf:faults [ma,mb]=0
 ·rw[e_ hf]
  obtain ⟨fa,fb⟩:=faults_two hf
  obtain ⟨Ra,Ca,ga⟩:=o__ fa
  obtain ⟨Rb,Cb,gb⟩:=o__ fb
  obtain ⟨s0,d0,d1,d2,hi0⟩:=HA0.out.u_ HB3.out
  obtain ⟨t0,e0,e1,e2,hi1⟩:=HA1.out.u_ HB3.out
  by_cases hs:ma.cols=mb.rows
  ·have hE:mulE ma mb=0:=by unfold mulE;rw[if_neg (by simp[hf]),if_neg (by simp[hs])]
   have HE:=h_ hE
   have hb':=eqF hs
   have eg:=enters_of (f:=157) Tryz.func157 (by kernel_rfl) rfl
   have hCb:Ca=Rb:=by have:=ga.c;have:=gb.r;omega
   have hg:=mul_gives w.heap.size (w.heap.size+1) ma mb Ra Ca Cb w3 (HA0.out.u_ HB3.out) (HA1.out.u_ HB3.out) ga.c gb.c ga.hR (by have:=ga.hC;omega) (by have:=gb.hC;omega) ga.l (by rw[hCb];exact gb.l)
   have hfl:=fill_any _ _ eg Ra Cb ma.rows mb.cols ga.r gb.c ga.hR (by have:=gb.hC;omega) _ w3 hg
   have HF:=h_ hfl
   have HG:=h_ (And.intro ga gb)
   clear hg hfl eg hs hE hf ga gb fa fb hi0 hi1
   go_wp2_with fail
   refine HF.out.mono ?_
   rintro e w4 ⟨xa,xn,xc,rfl,hnew,hb4⟩
   have HN:=h_ hnew
   have HB4:=h_ hb4
   have o0:=c_ hb4 p0
   have o1:=c_ hb4 p1
   have o2:=c_ hb4 p2
   have hlt:w.heap.size+1+1<w3.heap.size:=World.block_lt_of_cell? w3 _ p0
   have o3:=(hb4.frozen (p:=⟨w.heap.size+1+1,0,none⟩) hlt).trans p3
   have o4:=(hb4.frozen (p:=⟨w.heap.size+1+1,1,none⟩) hlt).trans p4
   have o5:=(hb4.frozen (p:=⟨w.heap.size+1+1,2,none⟩) hlt).trans p5
   have HLT:=h_ hlt
   clear hnew hb4 hlt p0 p1 p2 p3 p4 p5 d0 d1 d2 e0 e1 e2
   go_wp2
   refine bodyPost_ret (v:=.tuple #[.agg #[.int .i64 ma.rows,.int .i64 mb.cols,.slice xa xn xc],.nilIface]) (by simp[results,Tryz.results153,go_sem,o0,o1,o2]) rfl ⟨_,by rw[HE.out];rfl,?_,?_,HN.out.fresh HW.out.size _ _⟩
   ·rw[mulX_yes HE.out HG.out.1.r HG.out.1.c HG.out.2.c]
    exact ⟨_,by rw[HG.out.1.r,HG.out.2.c],(((HN.out.set HLT.out _ _).set HLT.out _ _).set HLT.out _ _).isInts⟩
   ·exact (((HW.out.trans (HB4.out.mono HW.out.size)).setCell (by simp;omega) _).setCell (by simp;omega) _).setCell (by simp;omega) _
  ·have hE:mulE ma mb=2:=by unfold mulE;rw[if_neg (by simp[hf]),if_pos (by simp[hs])]
   have HE:=h_ hE
   have hb':=eqT hs
   clear hs hE hf ga gb fa fb hi0 hi1
   go_wp2
   refine bodyPost_ret (v:=.tuple #[.agg #[.int .i64 0,.int .i64 0,.slice none 0 0],.iface 94 (.int .i64 2)]) (by simp[results,Tryz.results153,go_sem,p0,p1,p2]) rfl ⟨_,by rw[HE.out];rfl,by rw[mulX_no (by rw[HE.out];decide)];exact isMx_no _,HRT.out _ _,y_ _ _ _⟩
 ·have hE:mulE ma mb=faults [ma,mb]:=by unfold mulE;rw[if_pos hf]
  have HE:=h_ (And.intro hE hf)
  rw[n_ hf]
  obtain ⟨k,hk⟩:=gN (faults [ma,mb])
  rw[hk]at HE ⊢
  clear hE hf hk
  go_wp2
  refine bodyPost_ret (v:=.tuple #[.agg #[.int .i64 0,.int .i64 0,.slice none 0 0],.iface 94 (.int .i64 k)]) (by simp[results,Tryz.results153,go_sem,p0,p1,p2]) rfl ⟨_,by rw[HE.out.1,n_ HE.out.2],by rw[mulX_no (by rw[HE.out.1];exact HE.out.2)];exact isMx_no _,HRT.out _ _,y_ _ _ _⟩
set_option maxHeartbeats 400000 in
theorem add_gives(A B:Nat)(m k:Mx)(R C:Nat)(w:World)(hA:BoxMx w A m)(hB:BoxMx w B k)(hc:m.cols=(C:Int))(hc':k.cols=(C:Int))(hR:R≤24)(hC:C≤24)(hl:m.cells.length=R*C)(hl':k.cells.length=R*C):
  Gives 104 #[.pointer (some ⟨A,0,none⟩),.pointer (some ⟨B,0,none⟩)] R C (fun i j=>ad ((m.cells[i*C+j]?).getD 0) ((k.cells[i*C+j]?).getD 0)) w:=by
 intro W i j xi xj hxi hxj hi hj hb
 obtain ⟨s,d0,d1,d2,hs⟩:=hA.u_ hb
 obtain ⟨t,e0,e1,e2,ht⟩:=hB.u_ hb
 obtain ⟨sa,sn,sc,rfl⟩:=hs.shape
 obtain ⟨ta,tn,tc,rfl⟩:=ht.shape
 have hm:M_ W (.agg #[.int .i64 m.rows,.int .i64 m.cols,.slice sa sn sc]) m:=⟨_,rfl,hs⟩
 have hk:M_ W (.agg #[.int .i64 k.rows,.int .i64 k.cols,.slice ta tn tc]) k:=⟨_,rfl,ht⟩
 have HC:=h_ (fun W' (h:Below W.heap.size W W')=>at_any _ m R C i j xi xj W' (hm.u_ h) hc hR hC hl hxi hxj hi hj)
 have HD:=h_ (fun W' (h:Below W.heap.size W W')=>at_any _ k R C i j xi xj W' (hk.u_ h) hc' hR hC hl' hxi hxj hi hj)
 have HA:=h_ (And.intro d0 (And.intro d1 d2))
 have HB:=h_ (And.intro e0 (And.intro e1 e2))
 have HB0:=h_ (show Below W.heap.size W W.drew from ⟨rfl,rfl,rfl,Nat.le_refl _,fun _ _=>rfl⟩)
 clear hs hm hb hB hl hc hxi hxj hA hk ht hl' hc'
 go_enter Tryz.func104,Tryz.ntmps104
 go_wp2_with fail
 go_region_held3 (fun W'=>W'.cell? ⟨A,0,none⟩=some (.int .i64 m.rows)∧W'.cell? ⟨A,1,none⟩=some (.int .i64 m.cols)∧W'.cell? ⟨A,2,none⟩=some (.slice sa sn sc)∧W'.cell? ⟨B,0,none⟩=some (.int .i64 k.rows)∧W'.cell? ⟨B,1,none⟩=some (.int .i64 k.cols)∧W'.cell? ⟨B,2,none⟩=some (.slice ta tn tc)) (go_keep)
  (first
   |(go_at_call 96;refine (HD.out _ HB1.out).mono ?_;rintro e w2 ⟨rfl,hb2⟩;have HB2:=h_ (HB1.out.trans (hb2.mono HB1.out.size));have h0:=c_ HB2.out HA.out.1;have h1:=c_ HB2.out HA.out.2.1;have h2:=c_ HB2.out HA.out.2.2;have i0:=c_ HB2.out HB.out.1;have i1:=c_ HB2.out HB.out.2.1;have i2:=c_ HB2.out HB.out.2.2;clear hb2)
   |(go_at_call 96;refine (HC.out _ HB0.out).mono ?_;rintro e w1 ⟨rfl,hb1⟩;have HB1:=h_ (HB0.out.trans (hb1.mono HB0.out.size));have f0:=c_ HB1.out HA.out.1;have f1:=c_ HB1.out HA.out.2.1;have f2:=c_ HB1.out HA.out.2.2;have g0:=c_ HB1.out HB.out.1;have g1:=c_ HB1.out HB.out.2.1;have g2:=c_ HB1.out HB.out.2.2;clear hb1)
   |(go_at_call 40;refine (add_any _ _ _).mono ?_;rintro e w3 ⟨rfl,rfl⟩))
 go_wp2
 go_ret
 exact ⟨rfl,HB2.out⟩
set_option maxHeartbeats 400000 in
theorem times_gives(A X:Nat)(m:Mx)(x:Int)(R C:Nat)(w:World)(hA:BoxMx w A m)(hX:w.cell? ⟨X,0,none⟩=some (.int .i64 x))(hc:m.cols=(C:Int))(hR:R≤24)(hC:C≤24)(hl:m.cells.length=R*C):
  Gives 173 #[.pointer (some ⟨A,0,none⟩),.pointer (some ⟨X,0,none⟩)] R C (fun i j=>ml ((m.cells[i*C+j]?).getD 0) x) w:=by
 intro W i j xi xj hxi hxj hi hj hb
 obtain ⟨s,d0,d1,d2,hs⟩:=hA.u_ hb
 have d3:=c_ hb hX
 obtain ⟨sa,sn,sc,rfl⟩:=hs.shape
 have hm:M_ W (.agg #[.int .i64 m.rows,.int .i64 m.cols,.slice sa sn sc]) m:=⟨_,rfl,hs⟩
 have HC:=h_ (fun W' (h:Below W.heap.size W W')=>at_any _ m R C i j xi xj W' (hm.u_ h) hc hR hC hl hxi hxj hi hj)
 have HA:=h_ (And.intro d0 (And.intro d1 (And.intro d2 d3)))
 have HB0:=h_ (show Below W.heap.size W W.drew from ⟨rfl,rfl,rfl,Nat.le_refl _,fun _ _=>rfl⟩)
 clear hs hm hb hl hc hxi hxj hA hX
 go_enter Tryz.func173,Tryz.ntmps173
 go_wp2_with fail
 go_region_held3 (fun W'=>W'.cell? ⟨A,0,none⟩=some (.int .i64 m.rows)∧W'.cell? ⟨A,1,none⟩=some (.int .i64 m.cols)∧W'.cell? ⟨A,2,none⟩=some (.slice sa sn sc)∧W'.cell? ⟨X,0,none⟩=some (.int .i64 x)) (go_keep)
  (first
   |(go_at_call 96;refine (HC.out _ HB0.out).mono ?_;rintro e w1 ⟨rfl,hb1⟩;have HB1:=h_ (HB0.out.trans (hb1.mono HB0.out.size));have f0:=c_ HB1.out HA.out.1;have f1:=c_ HB1.out HA.out.2.1;have f2:=c_ HB1.out HA.out.2.2.1;have f3:=c_ HB1.out HA.out.2.2.2;clear hb1)
   |(go_at_call 41;refine (mul_any _ _ _).mono ?_;rintro e w3 ⟨rfl,rfl⟩))
 go_wp2
 go_ret
 exact ⟨rfl,HB1.out⟩
set_option maxHeartbeats 800000 in
set_option maxRecDepth 100000 in
theorem sums_gives(A:Nat)(m:Mx)(R C:Nat)(w:World)(hA:BoxMx w A m)(hr:m.rows=(R:Int))(hc:m.cols=(C:Int))(hR:R≤24)(hC:C≤24)(hl:m.cells.length=R*C):
  Gives 161 #[.pointer (some ⟨A,0,none⟩)] 1 C (fun _ j=>colS m.cells C j R) w:=by
 intro W i j xi xj hxi hxj hi hj hb
 have hA1:=hA.u_ hb
 obtain ⟨s,d0,d1,d2,hs⟩:=hA1
 obtain ⟨sa,sn,sc,rfl⟩:=hs.shape
 have hm:M_ W (.agg #[.int .i64 m.rows,.int .i64 m.cols,.slice sa sn sc]) m:=⟨_,rfl,hs⟩
 have HC:=h_ (fun W' (h:Below W.heap.size W W') (l:Nat) (xl:Int) (hxl:xl=(l:Int)) (hlt:l<R)=>at_any _ m R C l j xl xj W' (hm.u_ h) hc hR hC hl hxl hxj hlt hj)
 have HA:=h_ (And.intro d0 (And.intro d1 d2))
 obtain ⟨r,er⟩:=gN (m.rows)
 have hrr:r=(R:Int):=by rw[←er];exact hr
 have HRR:=h_ hrr
 rw[er]at HC HA d0
 clear hs hm hb hA hl hc hxi hxj hr er hrr
 go_enter Tryz.func161,Tryz.ntmps161
 go_wp2
 go_loopw [6,10] (fun v a wr=>∃(l:Nat) (xl:Int),l≤R∧xl=(l:Int)∧a=.int .i64 xl∧v=.int .i64 (colS m.cells C j l)∧Below W.heap.size W wr) (fun _ a _=>R - (intOf a).toNat)
 case atStart=>exact ⟨0,0,Nat.zero_le _,rfl,rfl,rfl,Below.refl _ _⟩
 case round=>
  obtain ⟨l,xl,hl,hxl,rfl,rfl,hbw⟩:=hrel
  have HBW:=h_ hbw
  have HXL:=h_ hxl
  have hxl0:0≤xl:=by omega
  have hxl1:xl≤24:=by omega
  have a0:=c_ hbw HA.out.1
  have a1:=c_ hbw HA.out.2.1
  have a2:=c_ hbw HA.out.2.2
  clear hbw hxl d0 d1 d2
  by_cases hlt:xl<r
  ·have hlR:l<R:=by have:=HXL.out;have:=HRR.out;omega
   go_wp2_with fail
   refine (HC.out _ HBW.out l xl HXL.out hlR).mono ?_
   rintro e w1 ⟨rfl,hb1⟩
   have HB1:=h_ (HBW.out.trans (hb1.mono HBW.out.size))
   clear hb1
   go_wp2_with (go_at_call 40;refine (add_any _ _ _).mono ?_;rintro e w3 ⟨rfl,rfl⟩)
   go_roundw
   case rel=>exact ⟨l+1,_,by omega,by have:=HXL.out;omega,rfl,rfl,HB1.out⟩
   case measure=>have:=HXL.out;simp[intOf];omega
  ·go_wp2
   go_ret
   exact ⟨i_ (by rw[show l=R by have:=HXL.out;have:=HRR.out;omega]),HBW.out⟩
end Go.Proofs.YtniloklglpchfakGreat
