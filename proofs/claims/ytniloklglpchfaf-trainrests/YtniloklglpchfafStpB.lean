/- What both of package step comes to: a matrix in new memory of what a function value gives of two matrices, cell by cell; and what its two closures give. Condition: the second has as many cells as the first, not more than 576. -/
import Derived.Test.YtniloklglpchfafPkLBox
import Derived.Test.YtniloklglpchfafPkStep
namespace Go.Proofs.Ytniloklglpchfaf
open Go.RowKit
def GivesB (K:Nat) (cap:Array Value) (f:Int→Int→Int) (w:World):Prop:=
 ∀(W:World) (x y:Int),Below w.heap.size w W→Calls Try.prog K (#[.int .i64 x,.int .i64 y]++cap) W fun e w'=>e=.returned (.int .i64 (f x y))∧Below W.heap.size W w'
theorem GivesB.u_{K:Nat}{cap:Array Value}{f:Int→Int→Int}{w w':World}(h:GivesB K cap f w)(hb:Below w.heap.size w w'):GivesB K cap f w':=fun W x y h'=>h W x y (b_ hb h')
set_option maxHeartbeats 1600000 in
set_option maxRecDepth 100000 in
theorem stpboth_any(K:Nat)(cap:Array Value)(eg:∀args w,(callFunc K args).run Try.prog w=.ok (.enter K args) w)(m d:Mx)(sa:Option Addr)(sn sk:Nat)(ta:Option Addr)(tn tk:Nat)(f:Int→Int→Int)(w:World)(hs:I_ w (.slice sa sn sk) m.cells)(ht:I_ w (.slice ta tn tk) d.cells)(hl:d.cells.length=m.cells.length)(hn:m.cells.length≤576)(hG:GivesB K cap f w):
  Calls Try.prog 66 #[.agg #[.int .i64 m.rows,.int .i64 m.cols,.slice sa sn sk],.agg #[.int .i64 d.rows,.int .i64 d.cols,.slice ta tn tk],.func (.func K) #[] cap] w fun e w'=>
   ∃a n k,e=.returned (.agg #[.int .i64 m.rows,.int .i64 m.cols,.slice a n k])∧NewInts w.heap.size w' (.slice a n k) (tab m.cells.length (fun q=>f (A_ m q) (A_ d q)))∧Below w.heap.size w w':=by
 obtain ⟨r,er⟩:=gN (m.rows)
 obtain ⟨c,ec⟩:=gN (m.cols)
 obtain ⟨N,eN⟩:=gN (m.cells.length)
 obtain ⟨g,eg'⟩:∃g:Nat→Int,(fun q=>f (A_ m q) (A_ d q))=g:=⟨_,rfl⟩
 rw[er,ec,eN,eg']
 rw[eN]at hn hl
 have HGQ:=h_ (fun q=>(congrFun eg' q:f (A_ m q) (A_ d q)=g q))
 have HG:=h_ hG
 have HN:=h_ eN
 have HL:=h_ hl
 obtain ⟨_,_,e1,h2,h3,h4⟩:=hs
 injection e1 with e11 e12 e13
 rw[eN]at e12 h2
 replace e12:=e12.symm
 subst e11 e12 e13
 have H4:=h_ h4
 obtain ⟨_,_,e2,h2',h3',h4'⟩:=ht
 injection e2 with e21 e22 e23
 rw[hl]at e22
 replace e22:=e22.symm
 subst e21 e22 e23
 have H4':=h_ h4'
 have hmk:=run_mk0 (N:Int) N rfl (by omega)
 obtain ⟨W1,hW1⟩:=gM (((w.alloc (.cells #[.int .i64 r,.int .i64 c,.slice sa N sk] 28)).alloc (.cells #[.int .i64 d.rows,.int .i64 d.cols,.slice ta N tk] 28)).alloc (.cells #[.int .i64 0,.int .i64 0,.slice none 0 0] 28))
 have HW1:=h_ hW1
 have hW1s:W1.heap.size=w.heap.size+3:=by rw[hW1];simp
 have hW1b:Below w.heap.size w W1:=by rw[hW1];exact b_ (b_ (o_ _ _) (o_ _ _)) (o_ _ _)
 have hown0:Own (W1.alloc (.cells (zeros N) 3)) (w.heap.size+3) (.slice (some ⟨W1.heap.size,0,none⟩) 0 N) 0 g:=World.ownsRow_made _ _ _ (by omega) (by unfold maxLen;omega) (zeros_size N)
 have HXA:Hid (Box W1 w.heap.size [.int .i64 r,.int .i64 c,.slice sa N sk]):=by rw[hW1];exact h_ (((Box.new w [.int .i64 r,.int .i64 c,.slice sa N sk] 28 rfl).u_ (o_ _ _)).u_ (o_ _ _))
 have HXB:Hid (Box W1 (w.heap.size+1) [.int .i64 d.rows,.int .i64 d.cols,.slice ta N tk]):=by rw[hW1];exact h_ ((Box.new _ [.int .i64 d.rows,.int .i64 d.cols,.slice ta N tk] 28 (by simp)).u_ (o_ _ _))
 have HXZ:Hid (Box W1 (w.heap.size+1+1) [.int .i64 0,.int .i64 0,.slice none 0 0]):=by rw[hW1];exact h_ (Box.new _ [.int .i64 0,.int .i64 0,.slice none 0 0] 28 (by simp))
 have HXF:Hid (Free W1 (w.heap.size+1+1)):=by rw[hW1];exact h_ (Free.new _ _ _ (by simp))
 have HO:=h_ hown0
 have HB:=h_ hW1b
 have HS:=h_ hW1s
 have a2:=HXA.out 2 _ rfl
 have p2:=p_ a2 (.cells (zeros N) 3)
 clear hW1 hown0 hW1b hG er ec eN eg' hl h2 h3 h4 h2' h3' h4'
 go_enter Try.func66,Try.ntmps66
 go_wp2_with fail
 rw[←HW1.out]
 clear HW1
 go_wp2
 have hgoal:=HO.out
 rw[hW1s]at hgoal
 have HO1:=h_ hgoal
 clear hgoal hW1s hmk p2 a2
 go_loopw [7,17] (fun v a wr=>∃(i:Nat) (xi:Int),i≤N∧xi=(i:Int)∧a=.int .i64 xi∧Own wr (w.heap.size+3) v i g∧Below (w.heap.size+3) W1 wr) (fun _ a _=>N - (intOf a).toNat)
 case atStart=>exact ⟨0,0,Nat.zero_le _,rfl,rfl,HO1.out,(Below.refl _ _).alloc (by have:=HS.out;omega) _⟩
 case round=>
  obtain ⟨i,xi,hi,hxi,rfl,hro,hbw⟩:=hrel
  have HRO:=h_ hro
  have HBW:=h_ hbw
  have HXI:=h_ hxi
  have hxi0:0≤xi:=by omega
  have hxi1:xi≤576:=by omega
  clear hro hbw hxi
  have HWR:=h_ (show Below W1.heap.size W1 wr by rw[HS.out];exact HBW.out)
  by_cases hlt:xi<(N:Int)
  ·have hin:i<N:=by have:=HXI.out;omega
   obtain ⟨x,hx⟩:∃x,m.cells[i]?=some x:=⟨m.cells[i]'(by have:=HN.out;omega),List.getElem?_eq_getElem _⟩
   obtain ⟨y,hy⟩:∃y,d.cells[i]?=some y:=⟨d.cells[i]'(by have:=HL.out;omega),List.getElem?_eq_getElem _⟩
   obtain ⟨b,off,rfl,hcl⟩:=H4.out.resolve_left (fun e=>by rw[e]at hx;simp at hx)
   obtain ⟨b',off',rfl,hcl'⟩:=H4'.out.resolve_left (fun e=>by rw[e]at hy;simp at hy)
   have cx:wr.cell? ⟨b,off+xi.toNat,none⟩=some (.int .i64 x):=by
    rw[show xi.toNat=i by have:=HXI.out;omega]
    exact c_ (b_ HB.out HWR.out) (hcl i x hx)
   have cy:wr.cell? ⟨b',off'+xi.toNat,none⟩=some (.int .i64 y):=by
    rw[show xi.toNat=i by have:=HXI.out;omega]
    exact c_ (b_ HB.out HWR.out) (hcl' i y hy)
   have q2:=(HXB.out.u_ HWR.out) 2 _ rfl
   have hcall:=HG.out wr x y (b_ HB.out HWR.out)
   have hgi:f x y=g i:=by rw[←HGQ.out i,cellAt_some hx,cellAt_some hy]
   rw[hgi]at hcall
   obtain ⟨e0,ei,hz0,hz1,hz2⟩:=info_parts infoInt
   have HE:=h_ (And.intro ei (And.intro hz0 (And.intro hz1 hz2)))
   clear ei hz0 hz1 hz2 hcl hx hcl' hy hgi
   go_wp2_with (first
    |(at_builtin;refine wpList_append_own _ rfl _ _ 26 rfl (w.heap.size+3) 3 e0 (.int .i64 0) 1 8 Try.underlying26 HE.out.1 HE.out.2.1 HE.out.2.2.1 HE.out.2.2.2 rfl (by decide) _ _ _ rfl ((HRO.out.u_ hb1).alloc _) ⟨w1.heap.size,0,none⟩ 1 1 [.int .i64 (g i)] rfl rfl ?c1 ?c2 ?c3 ?c4 ?c5 ?_)
    |(go_at_fn K;refine hcall.mono ?_;rintro e w1 ⟨rfl,hb1⟩))
   case c1=>
    intro k u hk
    match k,hk with
    |0,hk=>simp at hk;subst hk;simp[Addr.add]
   case c2=>intro u hu;simp at hu;subst hu;rfl
   case c3=>unfold maxLen;omega
   case c4=>omega
   case c5=>have:=HBW.out.size;have:=hb1.size;have:=HS.out;simp;omega
   intro v' w' hown' hgrow _
   have hown2:Own w' (w.heap.size+3) v' (i+1) g:=by
    show w'.ownsRow _ _ _ _ _ _
    rw[tab_succ,List.map_append]
    exact hown'
   have hbel2:Below (w.heap.size+3) W1 w':=by
    have s1:=HBW.out.size
    have s2:=HS.out
    have s3:=hb1.size
    exact ((HBW.out.trans (hb1.mono (by omega))).alloc (by omega) _).grown hgrow (by simp;omega) (fun k hk=>(World.ownsRow.lt HRO.out k hk).1)
   have HO2:=h_ hown2
   have HB2:=h_ hbel2
   clear hown' hgrow hown2 hbel2 hcall
   go_wp2
   go_roundw
   case rel=>exact ⟨i+1,_,by omega,by have:=HXI.out;omega,rfl,HO2.out,HB2.out⟩
   case measure=>have:=HXI.out;simp[intOf];omega
  ·have hiN:i=N:=by have:=HXI.out;omega
   obtain ⟨a0,a1⟩:=(HXA.out.u_ HWR.out).c2
   obtain ⟨p0,p1,p2⟩:=(HXZ.out.u_ HWR.out).c3
   obtain ⟨z0,z1,z2⟩:=(HXF.out.u_ HWR.out HXZ.out.lt).f3
   have hI:=HRO.out.isInts (by rw[hiN];unfold maxLen;omega)
   obtain ⟨ra,rn,rc,rfl⟩:=hI.shape
   have HIR:=h_ hiN
   clear hI hiN
   go_wp2
   refine bodyPost_ret (v:=.agg #[.int .i64 r,.int .i64 c,.slice ra rn rc]) (by simp[results,Try.results66,go_sem,p0,p1,p2]) rfl ⟨ra,rn,rc,rfl,?_,?_⟩
   ·have h:=World.ownsRow.kept (row:=some (w.heap.size+1+1)) HRO.out (w_ (w_ (w_ (World.grownBy.refl wr (some (w.heap.size+1+1))) 0 (.int .i64 r)) 1 (.int .i64 c)) 2 (.slice ra rn rc)) (by
     cases e:(Value.slice ra rn rc).ownBlock with
     |none=>exact .inl rfl
     |some k=>exact .inr (fun e'=>by have:=(World.ownsRow.lt HRO.out k e).1;have:=Option.some.inj e';omega))
    have h':=Own.newInts (f:=g) h (by rw[HIR.out];unfold maxLen;omega)
    rw[HIR.out]at h'
    obtain ⟨a,cap,h1,h2,h3,h4⟩:=h'
    exact ⟨a,cap,h1,h2,h3,h4.imp id (fun ⟨b,off,e,hb,hc⟩=>⟨b,off,e,by omega,hc⟩)⟩
   ·exact below_sets (below_sets (below_sets (b_ HB.out HWR.out) (by omega) _ _) (by omega) _ _) (by omega) _ _
theorem stpup_gives(B:Nat)(ke:Int)(w:World)(hB:w.cell? ⟨B,0,none⟩=some (.int .i64 ke)):GivesB 64 #[.pointer (some ⟨B,0,none⟩)] (fun v d=>ad (ml v ke) d) w:=by
 intro W x y hb
 have k0:=c_ hb hB
 clear hb hB
 go_enter Try.func64,Try.ntmps64
 go_wp2_with (first|(go_at_call 65;refine (mul_any _ _ _).mono ?_;rintro e w1 ⟨rfl,rfl⟩)|(go_at_call 40;refine (add_any _ _ _).mono ?_;rintro e w1 ⟨rfl,rfl⟩))
 go_ret
 exact ⟨rfl,Below.refl _ _⟩
theorem stpturn_gives(B:Nat)(le:Int)(w:World)(hB:w.cell? ⟨B,0,none⟩=some (.int .i64 le)):GivesB 67 #[.pointer (some ⟨B,0,none⟩)] (fun x v=>sb x (ml v le)) w:=by
 intro W x y hb
 have k0:=c_ hb hB
 clear hb hB
 go_enter Try.func67,Try.ntmps67
 go_wp2_with (first|(go_at_call 65;refine (mul_any _ _ _).mono ?_;rintro e w1 ⟨rfl,rfl⟩)|(go_at_call 68;refine (sub_any _ _ _).mono ?_;rintro e w1 ⟨rfl,rfl⟩))
 go_ret
 exact ⟨rfl,Below.refl _ _⟩
end Go.Proofs.Ytniloklglpchfaf
