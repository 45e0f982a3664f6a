/- What each of package layer comes to: a matrix in new memory of what a function value gives, cell by cell. Condition: the function gives f i at each cell, and turns nothing old. -/
import Derived.Test.YtpniemnfdleiiajPkLBox
namespace Go.Proofs.Ytpniemnfdleiiaj
open Go.RowKit
def GivesE (K:Nat) (cap:Array Value) (zs:List Int) (f:Nat→Int) (w:World):Prop:=
 ∀(W:World) (i:Nat) (xi x:Int),xi=(i:Int)→zs[i]?=some x→Below w.heap.size w W→Calls Try.prog K (#[.int .i64 xi,.int .i64 x]++cap) W fun e w'=>e=.returned (.int .i64 (f i))∧Below W.heap.size W w'
set_option maxHeartbeats 1600000 in
set_option maxRecDepth 100000 in
theorem each_any(K:Nat)(cap:Array Value)(eg:∀args w,(callFunc K args).run Try.prog w=.ok (.enter K args) w)(v:Value)(m:Mx)(f:Nat→Int)(w:World)(hv:M_ w v m)(hn:m.cells.length≤576)(hG:GivesE K cap m.cells f w):
  Calls Try.prog 74 #[v,.func (.func K) #[] cap] w fun e w'=>
   ∃a n k,e=.returned (.agg #[.int .i64 m.rows,.int .i64 m.cols,.slice a n k])∧NewInts w.heap.size w' (.slice a n k) (tab m.cells.length f)∧Below w.heap.size w w':=by
 obtain ⟨s,rfl,hs⟩:=hv
 obtain ⟨r,er⟩:=gN (m.rows)
 obtain ⟨c,ec⟩:=gN (m.cols)
 obtain ⟨N,eN⟩:=gN (m.cells.length)
 rw[er,ec,eN]
 rw[eN]at hn
 have HG:=h_ hG
 have HI:=h_ hs
 have HN:=h_ eN
 obtain ⟨sa,cap0,rfl,h2,h3,h4⟩:=hs
 rw[eN]at h2 HI ⊢
 have H4:=h_ h4
 have hmk:=run_mk0 (N:Int) N rfl (by omega)
 obtain ⟨W1,hW1⟩:=gM ((w.alloc (.cells #[.int .i64 r,.int .i64 c,.slice sa N cap0] 25)).alloc (.cells #[.int .i64 0,.int .i64 0,.slice none 0 0] 25))
 have hW1s:W1.heap.size=w.heap.size+2:=by rw[hW1];simp
 have hW1b:Below w.heap.size w W1:=by rw[hW1];exact (o_ _ _).trans ((o_ _ _).mono (by simp))
 have hown0:Own (W1.alloc (.cells (zeros N) 3)) (w.heap.size+2) (.slice (some ⟨W1.heap.size,0,none⟩) 0 N) 0 f:=World.ownsRow_made _ _ _ (by omega) (by unfold maxLen;omega) (zeros_size N)
 have a0:W1.cell? ⟨w.heap.size,0,none⟩=some (.int .i64 r):=by rw[hW1];exact p_ (by simp) _
 have a1:W1.cell? ⟨w.heap.size,1,none⟩=some (.int .i64 c):=by rw[hW1];exact p_ (by simp) _
 have a2:W1.cell? ⟨w.heap.size,2,none⟩=some (.slice sa N cap0):=by rw[hW1];exact p_ (by simp) _
 have q0:W1.cell? ⟨w.heap.size+1,0,none⟩=some (.int .i64 0):=by rw[hW1];exact box_new _ _ _ (by simp) rfl
 have q1:W1.cell? ⟨w.heap.size+1,1,none⟩=some (.int .i64 0):=by rw[hW1];exact box_new _ _ _ (by simp) rfl
 have q2:W1.cell? ⟨w.heap.size+1,2,none⟩=some (.slice none 0 0):=by rw[hW1];exact box_new _ _ _ (by simp) rfl
 have qf:∀j,W1.frozen? ⟨w.heap.size+1,j,none⟩=false:=fun j=>by rw[hW1];exact box_free _ _ _ (by simp) j
 have HA:=h_ (And.intro a0 (And.intro a1 a2))
 have HQ:=h_ (And.intro q0 (And.intro q1 q2))
 have HQF:=h_ qf
 have HO:=h_ hown0
 have HB:=h_ hW1b
 have HS:=h_ hW1s
 have p2:=p_ a2 (.cells (zeros N) 3)
 clear a0 a1 q0 q1 q2 qf hown0 hW1b hG er ec eN h4
 go_enter Try.func74,Try.ntmps74
 go_wp2_with fail
 rw[←hW1]
 clear hW1
 go_wp2
 have hgoal:=HO.out
 rw[hW1s]at hgoal
 have HO1:=h_ hgoal
 clear hgoal hW1s hmk p2 a2
 go_loopw [5,15] (fun v a wr=>∃(i:Nat) (xi:Int),i≤N∧xi=(i:Int)∧a=.int .i64 xi∧Own wr (w.heap.size+2) v i f∧Below (w.heap.size+2) W1 wr) (fun _ a _=>N - (intOf a).toNat)
 case atStart=>exact ⟨0,0,Nat.zero_le _,rfl,rfl,HO1.out,(Below.refl _ _).alloc (by have:=HS.out;omega) _⟩
 case round=>
  obtain ⟨i,xi,hi,hxi,rfl,hro,hbw⟩:=hrel
  have HRO:=h_ hro
  have HBW:=h_ hbw
  have HXI:=h_ hxi
  have hxi0:0≤xi:=by omega
  have hxi1:xi≤576:=by omega
  clear hro hbw hxi
  by_cases hlt:xi<(N:Int)
  ·have hin:i<N:=by have:=HXI.out;omega
   obtain ⟨x,hx⟩:∃x,m.cells[i]?=some x:=⟨m.cells[i]'(by have:=HN.out;omega),List.getElem?_eq_getElem _⟩
   obtain ⟨b,off,rfl,hcl⟩:=H4.out.resolve_left (fun e=>by rw[e]at hx;simp at hx)
   have cx:wr.cell? ⟨b,off+xi.toNat,none⟩=some (.int .i64 x):=by
    rw[show xi.toNat=i by have:=HXI.out;omega]
    have h0:=hcl i x hx
    exact c_ (HB.out.trans (HBW.out.mono (by omega))) h0
   have hcall:=HG.out wr i xi x HXI.out hx (HB.out.trans (HBW.out.mono (by omega)))
   obtain ⟨e0,ei,hz0,hz1,hz2⟩:=info_parts infoInt
   have HE:=h_ (And.intro ei (And.intro hz0 (And.intro hz1 hz2)))
   clear ei hz0 hz1 hz2 hcl hx
   go_wp2_with (first
    |(at_builtin;refine wpList_append_own _ rfl _ _ 23 rfl (w.heap.size+2) 3 e0 (.int .i64 0) 1 8 Try.underlying23 HE.out.1 HE.out.2.1 HE.out.2.2.1 HE.out.2.2.2 rfl (by decide) _ _ _ rfl ((HRO.out.u_ hb1).alloc _) ⟨w1.heap.size,0,none⟩ 1 1 [.int .i64 (f i)] rfl rfl ?c1 ?c2 ?c3 ?c4 ?c5 ?_)
    |(go_at_fn K;refine hcall.mono ?_;rintro e w1 ⟨rfl,hb1⟩))
   case c1=>
    intro k u hk
    match k,hk with
    |0,hk=>simp at hk;subst hk;simp[Addr.add]
   case c2=>intro u hu;simp at hu;subst hu;rfl
   case c3=>unfold maxLen;omega
   case c4=>omega
   case c5=>have:=HBW.out.size;have:=hb1.size;have:=HS.out;simp;omega
   intro v' w' hown' hgrow _
   have hown2:Own w' (w.heap.size+2) v' (i+1) f:=by
    show w'.ownsRow _ _ _ _ _ _
    rw[tab_succ,List.map_append]
    exact hown'
   have hbel2:Below (w.heap.size+2) W1 w':=by
    have s1:=HBW.out.size
    have s2:=HS.out
    have s3:=hb1.size
    exact ((HBW.out.trans (hb1.mono (by omega))).alloc (by omega) _).grown hgrow (by simp;omega) (fun k hk=>(World.ownsRow.lt HRO.out k hk).1)
   have HO2:=h_ hown2
   have HB2:=h_ hbel2
   clear hown' hgrow hown2 hbel2 hcall
   go_wp2
   go_roundw
   case rel=>exact ⟨i+1,_,by omega,by have:=HXI.out;omega,rfl,HO2.out,HB2.out⟩
   case measure=>have:=HXI.out;simp[intOf];omega
  ·have hiN:i=N:=by have:=HXI.out;omega
   have a0:=(HBW.out.cell (p:=⟨w.heap.size,0,none⟩) (by simp)).trans HA.out.1
   have a1:=(HBW.out.cell (p:=⟨w.heap.size,1,none⟩) (by simp)).trans HA.out.2.1
   have p0:=(HBW.out.cell (p:=⟨w.heap.size+1,0,none⟩) (by simp)).trans HQ.out.1
   have p1:=(HBW.out.cell (p:=⟨w.heap.size+1,1,none⟩) (by simp)).trans HQ.out.2.1
   have p2:=(HBW.out.cell (p:=⟨w.heap.size+1,2,none⟩) (by simp)).trans HQ.out.2.2
   have z0:=(HBW.out.frozen (p:=⟨w.heap.size+1,0,none⟩) (by simp)).trans (HQF.out 0)
   have z1:=(HBW.out.frozen (p:=⟨w.heap.size+1,1,none⟩) (by simp)).trans (HQF.out 1)
   have z2:=(HBW.out.frozen (p:=⟨w.heap.size+1,2,none⟩) (by simp)).trans (HQF.out 2)
   have hI:=HRO.out.isInts (by rw[hiN];unfold maxLen;omega)
   obtain ⟨ta,tn,tc,rfl⟩:=hI.shape
   have HIR:=h_ hiN
   clear hI hiN
   go_wp2
   refine bodyPost_ret (v:=.agg #[.int .i64 r,.int .i64 c,.slice ta tn tc]) (by simp[results,Try.results74,go_sem,p0,p1,p2]) rfl ⟨ta,tn,tc,rfl,?_,?_⟩
   ·have h:=World.ownsRow.kept (row:=some (w.heap.size+1)) HRO.out (w_ (w_ (w_ (World.grownBy.refl wr (some (w.heap.size+1))) 0 (.int .i64 r)) 1 (.int .i64 c)) 2 (.slice ta tn tc)) (by
     cases e:(Value.slice ta tn tc).ownBlock with
     |none=>exact .inl rfl
     |some k=>exact .inr (fun e'=>by have:=(World.ownsRow.lt HRO.out k e).1;have:=Option.some.inj e';omega))
    have h':=Own.newInts (f:=f) h (by rw[HIR.out];unfold maxLen;omega)
    rw[HIR.out]at h'
    obtain ⟨a,cap,h1,h2,h3,h4⟩:=h'
    exact ⟨a,cap,h1,h2,h3,h4.imp id (fun ⟨b,off,e,hb,hc⟩=>⟨b,off,e,by omega,hc⟩)⟩
   ·exact (((HB.out.trans (HBW.out.mono (by omega))).setCell (by simp) _).setCell (by simp) _).setCell (by simp) _
end Go.Proofs.Ytpniemnfdleiiaj
