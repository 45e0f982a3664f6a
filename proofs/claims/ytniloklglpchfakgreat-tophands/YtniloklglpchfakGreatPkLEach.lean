/- What each of package layer comes to: a matrix in new memory of what a function value gives, cell by cell. Condition: the function gives f i at each cell, and turns nothing old. -/
import Derived.Test.YtniloklglpchfakGreatPkLBox
namespace Go.Proofs.YtniloklglpchfakGreat
open Go.RowKit
def GivesE (K:Nat) (cap:Array Value) (zs:List Int) (f:Nat→Int) (w:World):Prop:=
 ∀(W:World) (i:Nat) (xi x:Int),xi=(i:Int)→zs[i]?=some x→Below w.heap.size w W→Calls Tryz.prog K (#[.int .i64 xi,.int .i64 x]++cap) W fun e w'=>e=.returned (.int .i64 (f i))∧Below W.heap.size W w'
set_option maxHeartbeats 1600000 in
set_option maxRecDepth 100000 in
theorem each_any(K:Nat)(cap:Array Value)(eg:∀args w,(callFunc K args).run Tryz.prog w=.ok (.enter K args) w)(v:Value)(m:Mx)(f:Nat→Int)(w:World)(hv:M_ w v m)(hn:m.cells.length≤576)(hG:GivesE K cap m.cells f w):
  Calls Tryz.prog 158 #[v,.func (.func K) #[] cap] w fun e w'=>
   ∃a n k,e=.returned (.agg #[.int .i64 m.rows,.int .i64 m.cols,.slice a n k])∧NewInts w.heap.size w' (.slice a n k) (tab m.cells.length f)∧Below w.heap.size w w':=by
 obtain ⟨s,rfl,hs⟩:=hv
 obtain ⟨r,er⟩:=gN (m.rows)
 obtain ⟨c,ec⟩:=gN (m.cols)
 obtain ⟨N,eN⟩:=gN (m.cells.length)
 rw[er,ec,eN]
 rw[eN]at hn
 have HG:=h_ hG
 have HI:=h_ hs
 have HN:=h_ eN
 obtain ⟨sa,cap0,rfl,h2,h3,h4⟩:=hs
 rw[eN]at h2 HI ⊢
 have H4:=h_ h4
 have hmk:=run_mk0 (N:Int) N rfl (by omega)
 obtain ⟨W1,hW1⟩:=gM ((w.alloc (.cells #[.int .i64 r,.int .i64 c,.slice sa N cap0] 28)).alloc (.cells #[.int .i64 0,.int .i64 0,.slice none 0 0] 28))
 have hW1s:W1.heap.size=w.heap.size+2:=by rw[hW1];simp
 have hW1b:Below w.heap.size w W1:=by rw[hW1];exact (o_ _ _).trans ((o_ _ _).mono (by simp))
 have hown0:Own (W1.alloc (.cells (zeros N) 3)) (w.heap.size+2) (.slice (some ⟨W1.heap.size,0,none⟩) 0 N) 0 f:=World.ownsRow_made _ _ _ (by omega) (by unfold maxLen;omega) (zeros_size N)
 have a0:W1.cell? ⟨w.heap.size,0,none⟩=some (.int .i64 r):=by rw[hW1];exact p_ (by simp) _
 have a1:W1.cell? ⟨w.heap.size,1,none⟩=some (.int .i64 c):=by rw[hW1];exact p_ (by simp) _
 have a2:W1.cell? ⟨w.heap.size,2,none⟩=some (.slice sa N cap0):=by rw[hW1];exact p_ (by simp) _
 have q0:W1.cell? ⟨w.heap.size+1,0,none⟩=some (.int .i64 0):=by rw[hW1];exact box_new _ _ _ (by simp) rfl
 have q1:W1.cell? ⟨w.heap.size+1,1,none⟩=some (.int .i64 0):=by rw[hW1];exact box_new _ _ _ (by simp) rfl
 have q2:W1.cell? ⟨w.heap.size+1,2,none⟩=some (.slice none 0 0):=by rw[hW1];exact box_new _ _ _ (by simp) rfl
 have qf:∀j,W1.frozen? ⟨w.heap.size+1,j,none⟩=false:=fun j=>by rw[hW1];exact box_free _ _ _ (by simp) j
 have HA:=h_ (And.intro a0 (And.intro a1 a2))
 have HQ:=h_ (And.intro q0 (And.intro q1 q2))
 have HQF:=h_ qf
 have HO:=h_ hown0
 have HB:=h_ hW1b
 have HS:=h_ hW1s
 have p2:=p_ a2 (.cells (zeros N) 3)
 clear a0 a1 q0 q1 q2 qf hown0 hW1b hG er ec eN h4
 go_enter Tryz.func158,Tryz.ntmps158
 go_wp2_with fail
 rw[←hW1]
 clear hW1
 go_wp2
 have hgoal:=HO.out
 rw[hW1s]at hgoal
 have HO1:=h_ hgoal
 clear hgoal hW1s hmk p2 a2
 go_loopw [5,15] (fun v a wr=>∃(i:Nat) (xi:Int),i≤N∧xi=(i:Int)∧a=.int .i64 xi∧Own wr (w.heap.size+2) v i f∧Below (w.heap.size+2) W1 wr) (fun _ a _=>N - (intOf a).toNat)
 case atStart=>exact ⟨0,0,Nat.zero_le _,rfl,rfl,HO1.out,(Below.refl _ _).alloc (by have:=HS.out;omega) _⟩
 case round=>
  obtain ⟨i,xi,hi,hxi,rfl,hro,hbw⟩:=hrel
  have HRO:=h_ hro
  have HBW:=h_ hbw
  have HXI:=h_ hxi
  have hxi0:0≤xi:=by omega
  have hxi1:xi≤576:=by omega
  clear hro hbw hxi
  by_cases hlt:xi<(N:Int)
  ·have hin:i<N:=by have:=HXI.out;omega
   obtain ⟨x,hx⟩:∃x,m.cells[i]?=some x:=⟨m.cells[i]'(by have:=HN.out;omega),List.getElem?_eq_getElem _⟩
   obtain ⟨b,off,rfl,hcl⟩:=H4.out.resolve_left (fun e=>by rw[e]at hx;simp at hx)
   have cx:wr.cell? ⟨b,off+xi.toNat,none⟩=some (.int .i64 x):=by
    rw[show xi.toNat=i by have:=HXI.out;omega]
    have h0:=hcl i x hx
    exact c_ (HB.out.trans (HBW.out.mono (by omega))) h0
   have hcall:=HG.out wr i xi x HXI.out hx (HB.out.trans (HBW.out.mono (by omega)))
   obtain ⟨e0,ei,hz0,hz1,hz2⟩:=info_parts infoInt
   have HE:=h_ (And.intro ei (And.intro hz0 (And.intro hz1 hz2)))
   clear ei hz0 hz1 hz2 hcl hx
   go_wp2_with (first
    |(at_builtin;refine wpList_append_own _ rfl _ _ 26 rfl (w.heap.size+2) 3 e0 (.int .i64 0) 1 8 Tryz.underlying26 HE.out.1 HE.out.2.1 HE.out.2.2.1 HE.out.2.2.2 rfl (by decide) _ _ _ rfl ((HRO.out.u_ hb1).alloc _) ⟨w1.heap.size,0,none⟩ 1 1 [.int .i64 (f i)] rfl rfl ?c1 ?c2 ?c3 ?c4 ?c5 ?_)
    |(go_at_fn K;refine hcall.mono ?_;rintro e w1 ⟨rfl,hb1⟩))
   case c1=>
    intro k u hk
    match k,hk with
    |0,hk=>simp at hk;subst hk;simp[Addr.add]
   case c2=>intro u hu;simp at hu;subst hu;rfl
   case c3=>unfold maxLen;omega
   case c4=>omega
   case c5=>have:=HBW.out.size;have:=hb1.size;have:=HS.out;simp;omega
   intro v' w' hown' hgrow _
   have hown2:Own w' (w.heap.size+2) v' (i+1) f:=by
    show w'.ownsRow _ _ _ _ _ _
    rw[tab_succ,List.map_append]
    exact hown'
   have hbel2:Below (w.heap.size+2) W1 w':=by
    have s1:=HBW.out.size
    have s2:=HS.out
    have s3:=hb1.size
    exact ((HBW.out.trans (hb1.mono (by omega))).alloc (by omega) _).grown hgrow (by simp;omega) (fun k hk=>(World.ownsRow.lt HRO.out k hk).1)
   have HO2:=h_ hown2
   have HB2:=h_ hbel2
   clear hown' hgrow hown2 hbel2 hcall
   go_wp2
   go_roundw
   case rel=>exact ⟨i+1,_,by omega,by have:=HXI.out;omega,rfl,HO2.out,HB2.out⟩
   case measure=>have:=HXI.out;simp[intOf];omega
  ·have hiN:i=N:=by have:=HXI.out;omega
   have a0:=(HBW.out.cell (p:=⟨w.heap.size,0,none⟩) (by simp)).trans HA.out.1
   have a1:=(HBW.out.cell (p:=⟨w.heap.size,1,none⟩) (by simp)).trans HA.out.2.1
   have p0:=(HBW.out.cell (p:=⟨w.heap.size+1,0,none⟩) (by simp)).trans HQ.out.1
   have p1:=(HBW.out.cell (p:=⟨w.heap.size+1,1,none⟩) (by simp)).trans HQ.out.2.1
   have p2:=(HBW.out.cell (p:=⟨w.heap.size+1,2,none⟩) (by simp)).trans HQ.out.2.2
   have z0:=(HBW.out.frozen (p:=⟨w.heap.size+1,0,none⟩) (by simp)).trans (HQF.out 0)
   have z1:=(HBW.out.frozen (p:=⟨w.heap.size+1,1,none⟩) (by simp)).trans (HQF.out 1)
   have z2:=(HBW.out.frozen (p:=⟨w.heap.size+1,2,none⟩) (by simp)).trans (HQF.out 2)
   have hI:=HRO.out.isInts (by rw[hiN];unfold maxLen;omega)
   obtain ⟨ta,tn,tc,rfl⟩:=hI.shape
   have HIR:=h_ hiN
   clear hI hiN
   go_wp2
   refine bodyPost_ret (v:=.agg #[.int .i64 r,.int .i64 c,.slice ta tn tc]) (by simp[results,Tryz.results158,go_sem,p0,p1,p2]) rfl ⟨ta,tn,tc,rfl,?_,?_⟩
   ·have h:=World.ownsRow.kept (row:=some (w.heap.size+1)) HRO.out (w_ (w_ (w_ (World.grownBy.refl wr (some (w.heap.size+1))) 0 (.int .i64 r)) 1 (.int .i64 c)) 2 (.slice ta tn tc)) (by
     cases e:(Value.slice ta tn tc).ownBlock with
     |none=>exact .inl rfl
     |some k=>exact .inr (fun e'=>by have:=(World.ownsRow.lt HRO.out k e).1;have:=Option.some.inj e';omega))
    have h':=Own.newInts (f:=f) h (by rw[HIR.out];unfold maxLen;omega)
    rw[HIR.out]at h'
    obtain ⟨a,cap,h1,h2,h3,h4⟩:=h'
    exact ⟨a,cap,h1,h2,h3,h4.imp id (fun ⟨b,off,e,hb,hc⟩=>⟨b,off,e,by omega,hc⟩)⟩
   ·exact (((HB.out.trans (HBW.out.mono (by omega))).setCell (by simp) _).setCell (by simp) _).setCell (by simp) _
set_option maxHeartbeats 400000 in
theorem addrow_gives(B:Nat)(b:Mx)(C:Nat)(zs:List Int)(w:World)(hB:BoxMx w B b)(hc:b.cols=(C:Int))(hC:0<C)(hC24:C≤24)(hl:b.cells.length=C)(hz:zs.length≤576):
  GivesE 159 #[.pointer (some ⟨B,0,none⟩)] zs (fun i=>ad ((zs[i]?).getD 0) (A_ b (i % C))) w:=by
 intro W i xi x hxi hx hb
 obtain ⟨s,d0,d1,d2,hs⟩:=hB.u_ hb
 obtain ⟨c,ec⟩:=gN (b.cols)
 rw[ec]at d1 hc
 have hi:i<zs.length:=by
  rcases Nat.lt_or_ge i zs.length with h|h
  ·exact h
  ·rw[List.getElem?_eq_none h]at hx;cases hx
 have hm:=Nat.mod_lt i hC
 obtain ⟨y,hy⟩:∃y:Int,xi % c=y:=⟨_,rfl⟩
 have hyi:y=((i % C:Nat):Int):=by rw[←hy,hxi,hc];simp
 obtain ⟨z,hz'⟩:=gN (A_ b (i % C))
 have hzc:b.cells[i % C]?=some z:=by rw[←hz'];unfold A_;rw[List.getElem?_eq_getElem (by omega)];rfl
 obtain ⟨aa,cap,rfl,h2,h3,h4⟩:=hs
 obtain ⟨bb,off,rfl,hcl⟩:=h4.resolve_left (fun e=>by rw[e]at hl;simp at hl;omega)
 have cz:W.cell? ⟨bb,off+y.toNat,none⟩=some (.int .i64 z):=by
  rw[show y.toNat=i % C by omega];exact hcl _ _ hzc
 rw[hl]at d2
 have hy0:0≤y:=by omega
 have hyl:y<(C:Int):=by omega
 have hxi0:0≤xi:=by omega
 have hxi1:xi≤576:=by omega
 have hcp:0<c:=by omega
 have hc24:c≤24:=by omega
 have HE:=h_ (show ad x z=ad ((zs[i]?).getD 0) (A_ b (i % C)) by rw[hx,hz'];rfl)
 clear hcl h4 hzc hz' hyi hb hB hl hxi hx hc ec hm hi h2 h3
 go_enter Tryz.func159,Tryz.ntmps159
 go_wp2_with fail
 go_quiet ((go_at_call 40;refine Calls.quiet_of_same (add_any _ _ _)))
 go_wp2
 go_ret
 exact ⟨i_ HE.out,below_drewN _ _⟩
set_option maxHeartbeats 400000 in
theorem relu_gives(zs:List Int)(w:World):GivesE 168 #[] zs (fun i=>max ((zs[i]?).getD 0) 0) w:=by
 intro W i xi x hxi hx hb
 have HE:=h_ (show (zs[i]?).getD 0=x by rw[hx];rfl)
 clear hx hxi hb
 simp only[HE.out]
 go_enter Tryz.func168,Tryz.ntmps168
 go_wp2
 all_goals
  go_ret
  exact ⟨i_ (by omega),Below.refl _ _⟩
set_option maxHeartbeats 400000 in
theorem reluB_gives(B:Nat)(x:Mx)(zs:List Int)(w:World)(hB:BoxMx w B x)(hl:x.cells.length=zs.length)(hz:zs.length≤576):
  GivesE 167 #[.pointer (some ⟨B,0,none⟩)] zs (fun i=>if 0<A_ x i then (zs[i]?).getD 0 else 0) w:=by
 intro W i xi c hxi hx hb
 obtain ⟨s,d0,d1,d2,hs⟩:=hB.u_ hb
 have hi:i<zs.length:=by
  rcases Nat.lt_or_ge i zs.length with h|h
  ·exact h
  ·rw[List.getElem?_eq_none h]at hx;cases hx
 obtain ⟨z,hz'⟩:=gN (A_ x i)
 have hzc:x.cells[i]?=some z:=by rw[←hz'];unfold A_;rw[List.getElem?_eq_getElem (by omega)];rfl
 obtain ⟨aa,cap,rfl,h2,h3,h4⟩:=hs
 obtain ⟨bb,off,rfl,hcl⟩:=h4.resolve_left (fun e=>by rw[e]at hzc;simp at hzc)
 have cz:W.cell? ⟨bb,off+xi.toNat,none⟩=some (.int .i64 z):=by
  rw[show xi.toNat=i by omega];exact hcl _ _ hzc
 obtain ⟨n,hn⟩:=gN (x.cells.length)
 rw[hn]at d2
 have hxi0:0≤xi:=by omega
 have hxi1:xi≤576:=by omega
 have hxl:xi<(n:Int):=by omega
 have HE:=h_ (show (zs[i]?).getD 0=c by rw[hx];rfl)
 simp only[HE.out,hz']
 clear hcl h4 hzc hz' hb hB hl hxi hx hi h2 h3 hn
 by_cases hz0:0<z
 ·rw[if_pos hz0]
  go_enter Tryz.func167,Tryz.ntmps167
  go_wp2
  go_ret
  exact ⟨rfl,Below.refl _ _⟩
 ·rw[if_neg hz0]
  go_enter Tryz.func167,Tryz.ntmps167
  go_wp2
  go_ret
  exact ⟨rfl,Below.refl _ _⟩
set_option maxHeartbeats 400000 in
theorem copy_gives(zs:List Int)(w:World):GivesE 178 #[] zs (fun i=>(zs[i]?).getD 0) w:=by
 intro W i xi x hxi hx hb
 have HE:=h_ (show (zs[i]?).getD 0=x by rw[hx];rfl)
 clear hx hxi hb
 simp only[HE.out]
 go_enter Tryz.func178,Tryz.ntmps178
 go_wp2
 go_ret
 exact ⟨rfl,Below.refl _ _⟩
def MxNew (w:World) (m:Mx) (e:Ending) (w':World):Prop:=∃a n k,e=.returned (.agg #[.int .i64 m.rows,.int .i64 m.cols,.slice a n k])∧NewInts w.heap.size w' (.slice a n k) m.cells∧Below w.heap.size w w'
theorem each_new{K:Nat}{cap:Array Value}(eg:∀args w,(callFunc K args).run Tryz.prog w=.ok (.enter K args) w){v:Value}{m:Mx}{f:Nat→Int}{w:World}(hv:M_ w v m)(hn:m.cells.length≤576)(hG:GivesE K cap m.cells f w):
  Calls Tryz.prog 158 #[v,.func (.func K) #[] cap] w (MxNew w (eachX m f)):=each_any K cap eg v m f w hv hn hG
set_option maxHeartbeats 400000 in
theorem addrows_any(va vb:Value)(a b:Mx)(C:Nat)(w:World)(hva:M_ w va a)(hvb:M_ w vb b)(hc:b.cols=(C:Int))(hC:0<C)(hC24:C≤24)(hl:b.cells.length=C)(hz:a.cells.length≤576):
  Calls Tryz.prog 154 #[va,vb] w (MxNew w (addRows a b)):=by
 obtain ⟨sa,rfl,hsa⟩:=hva
 obtain ⟨sb,rfl,hsb⟩:=hvb
 obtain ⟨xa,xn,xk,rfl⟩:=hsa.shape
 obtain ⟨ya,yn,yk,rfl⟩:=hsb.shape
 obtain ⟨r,er⟩:=gN (a.rows)
 obtain ⟨c,ec⟩:=gN (a.cols)
 obtain ⟨r',er'⟩:=gN (b.rows)
 obtain ⟨c',ec'⟩:=gN (b.cols)
 obtain ⟨V,hV⟩:=gM (((w.alloc (.cells #[.int .i64 a.rows,.int .i64 a.cols,.slice xa xn xk] 28)).alloc (.cells #[.int .i64 b.rows,.int .i64 b.cols,.slice ya yn yk] 28)).alloc (.cells #[.int .i64 0,.int .i64 0,.slice none 0 0] 28))
 have b0:=o_ w (.cells #[.int .i64 a.rows,.int .i64 a.cols,.slice xa xn xk] 28)
 have b1:=b0.trans ((o_ _ (.cells #[.int .i64 b.rows,.int .i64 b.cols,.slice ya yn yk] 28)).mono b0.size)
 have b2:=b1.trans ((o_ _ (.cells #[.int .i64 0,.int .i64 0,.slice none 0 0] 28)).mono b1.size)
 have HBB:BoxMx V (w.heap.size+1) b:=by
  have h:=box_of (hsb.u_ b0) 28
  rw[hV];have:=h.u_ (o_ _ (.cells #[.int .i64 0,.int .i64 0,.slice none 0 0] 28));simpa using this
 have hQ:ResBox V (w.heap.size+1+1):=by rw[hV];exact ResBox.new _ _ (by simp)
 rw[←hV]at b2
 have eg:=enters_of (f:=159) Tryz.func159 (by kernel_rfl) rfl
 have hA:M_ V (.agg #[.int .i64 a.rows,.int .i64 a.cols,.slice xa xn xk]) a:=⟨_,rfl,hsa.u_ b2⟩
 have hE:=each_new eg hA hz (addrow_gives (w.heap.size+1) b C a.cells V HBB hc hC hC24 hl hz)
 have hX:eachX a (fun i=>ad ((a.cells[i]?).getD 0) (A_ b (i % C)))=addRows a b:=by unfold addRows;rw[hc];rfl
 rw[hX]at hE
 have HX:=h_ hE
 have HQ:=h_ hQ
 have HB:=h_ b2
 have HR:=h_ (show (addRows a b).rows=r∧(addRows a b).cols=c from ⟨er,ec⟩)
 rw[er,ec,er',ec']at hV
 rw[er,ec]at HX
 rw[er,ec,er',ec']
 have HV:=h_ hV
 clear b0 b1 b2 hsa hsb HBB hQ eg hA hE hX hc hl hz er ec er' ec' hV
 go_enter Tryz.func154,Tryz.ntmps154
 go_wp2_with fail
 rw[←HV.out]
 refine HX.out.mono ?_
 rintro e w1 ⟨qa,qn,qk,rfl,hnew,hb1⟩
 rw[HR.out.1,HR.out.2]
 have p:=HQ.out.u_ hb1
 have p0:=p.c0
 have p1:=p.c1
 have p2:=p.c2
 have p3:=p.f 0
 have p4:=p.f 1
 have p5:=p.f 2
 have hlt:w.heap.size+1+1<V.heap.size:=World.block_lt_of_cell? V _ HQ.out.c0
 have HN:=h_ hnew
 have HB1:=h_ (b_ HB.out hb1)
 have HL:=h_ hlt
 clear p hnew hb1 hlt HX HQ
 go_wp2
 refine bodyPost_ret (v:=.agg #[.int .i64 r,.int .i64 c,.slice qa qn qk]) (by simp[results,Tryz.results154,go_sem,p0,p1,p2]) rfl ⟨qa,qn,qk,by rw[HR.out.1,HR.out.2],?_,?_⟩
 ·obtain ⟨a',cap,h1,h2,h3,h4⟩:=((HN.out.set HL.out 0 (.int .i64 r)).set HL.out 1 (.int .i64 c)).set HL.out 2 (.slice qa qn qk)
  exact ⟨a',cap,h1,h2,h3,h4.imp id (fun ⟨b,off,e,hb,hc⟩=>⟨b,off,e,Nat.le_trans HB.out.size hb,hc⟩)⟩
 ·exact ((HB1.out.setCell (by simp;omega) _).setCell (by simp;omega) _).setCell (by simp;omega) _
def shapeB (r c a b:Int):Bool:=decide (r=a∧c=b)
theorem shapeB_yes{r c a b:Int}(h:r=a∧c=b):shapeB r c a b=true:=decide_eq_true h
theorem shapeB_no{r c a b:Int}(h:¬(r=a∧c=b)):shapeB r c a b=false:=decide_eq_false h
set_option maxHeartbeats 400000 in
theorem shape_any(v:Value)(m:Mx)(a b:Int)(w:World)(hv:M_ w v m):Calls Tryz.prog 77 #[v,.int .i64 a,.int .i64 b] w fun e w'=>e=.returned (.bool (shapeB m.rows m.cols a b))∧Below w.heap.size w w':=by
 obtain ⟨s,rfl,hs⟩:=hv
 obtain ⟨r,er⟩:=gN (m.rows)
 obtain ⟨c,ec⟩:=gN (m.cols)
 rw[er,ec]
 clear er ec hs
 by_cases h1:r=a
 ·have g1:(r==a)=true:=by simp[h1]
  by_cases h2:c=b
  ·have g2:(c==b)=true:=by simp[h2]
   have HE:=h_ (shapeB_yes (r:=r) (c:=c) (a:=a) (b:=b) ⟨h1,h2⟩).symm
   clear h1 h2
   go_enter Tryz.func77,Tryz.ntmps77
   go_wp2
   go_ret
   exact ⟨ret_bool HE.out,o_ _ _⟩
  ·have g2:(c==b)=false:=by simp[h2]
   have HE:=h_ (shapeB_no (r:=r) (c:=c) (a:=a) (b:=b) (fun h=>h2 h.2)).symm
   clear h1 h2
   go_enter Tryz.func77,Tryz.ntmps77
   go_wp2
   go_ret
   exact ⟨ret_bool HE.out,o_ _ _⟩
 ·have g1:(r==a)=false:=by simp[h1]
  have HE:=h_ (shapeB_no (r:=r) (c:=c) (a:=a) (b:=b) (fun h=>h1 h.1)).symm
  clear h1
  go_enter Tryz.func77,Tryz.ntmps77
  go_wp2
  go_ret
  exact ⟨ret_bool HE.out,o_ _ _⟩
set_option maxHeartbeats 400000 in
theorem named_linear(wr wc br bc:Int)(xa:Option Addr)(xn xk:Nat)(ya:Option Addr)(yn yk:Nat)(w:World):Calls Tryz.prog 108 #[.agg #[.int .i64 1,.int .i64 wr,.int .i64 wc,.slice xa xn xk,.int .i64 br,.int .i64 bc,.slice ya yn yk]] w fun e w'=>e=.returned (.iface 202 (.agg #[.int .i64 wr,.int .i64 wc,.slice xa xn xk,.int .i64 br,.int .i64 bc,.slice ya yn yk]))∧Below w.heap.size w w':=by
 go_enter Tryz.func108,Tryz.ntmps108
 go_wp2
 go_ret
 exact ⟨rfl,o_ _ _⟩
set_option maxHeartbeats 400000 in
theorem named_relu(wr wc br bc:Int)(xa:Option Addr)(xn xk:Nat)(ya:Option Addr)(yn yk:Nat)(w:World):Calls Tryz.prog 108 #[.agg #[.int .i64 2,.int .i64 wr,.int .i64 wc,.slice xa xn xk,.int .i64 br,.int .i64 bc,.slice ya yn yk]] w fun e w'=>e=.returned (.iface 205 (.agg #[.int .i64 wr,.int .i64 wc,.slice xa xn xk,.int .i64 br,.int .i64 bc,.slice ya yn yk]))∧Below w.heap.size w w':=by
 go_enter Tryz.func108,Tryz.ntmps108
 go_wp2
 go_ret
 exact ⟨rfl,o_ _ _⟩
set_option maxHeartbeats 400000 in
theorem named_scale(wr wc br bc:Int)(xa:Option Addr)(xn xk:Nat)(ya:Option Addr)(yn yk:Nat)(w:World):Calls Tryz.prog 108 #[.agg #[.int .i64 3,.int .i64 wr,.int .i64 wc,.slice xa xn xk,.int .i64 br,.int .i64 bc,.slice ya yn yk]] w fun e w'=>e=.returned (.iface 206 (.agg #[.int .i64 wr,.int .i64 wc,.slice xa xn xk,.int .i64 br,.int .i64 bc,.slice ya yn yk]))∧Below w.heap.size w w':=by
 go_enter Tryz.func108,Tryz.ntmps108
 go_wp2
 go_ret
 exact ⟨rfl,o_ _ _⟩
set_option maxHeartbeats 400000 in
theorem named_shift(wr wc br bc:Int)(xa:Option Addr)(xn xk:Nat)(ya:Option Addr)(yn yk:Nat)(w:World):Calls Tryz.prog 108 #[.agg #[.int .i64 4,.int .i64 wr,.int .i64 wc,.slice xa xn xk,.int .i64 br,.int .i64 bc,.slice ya yn yk]] w fun e w'=>e=.returned (.iface 207 (.agg #[.int .i64 wr,.int .i64 wc,.slice xa xn xk,.int .i64 br,.int .i64 bc,.slice ya yn yk]))∧Below w.heap.size w w':=by
 go_enter Tryz.func108,Tryz.ntmps108
 go_wp2
 go_ret
 exact ⟨rfl,o_ _ _⟩
set_option maxHeartbeats 400000 in
theorem named_none(k:Int)(wr wc br bc:Int)(xa:Option Addr)(xn xk:Nat)(ya:Option Addr)(yn yk:Nat)(w:World)(h:k<1∨4<k):Calls Tryz.prog 108 #[.agg #[.int .i64 k,.int .i64 wr,.int .i64 wc,.slice xa xn xk,.int .i64 br,.int .i64 bc,.slice ya yn yk]] w fun e w'=>e=.returned .nilIface∧Below w.heap.size w w':=by
 have g1:(k==1)=false:=by simp;omega
 have g2:(k==2)=false:=by simp;omega
 have g3:(k==3)=false:=by simp;omega
 have g4:(k==4)=false:=by simp;omega
 clear h
 go_enter Tryz.func108,Tryz.ntmps108
 go_wp2
 go_ret
 exact ⟨rfl,o_ _ _⟩
def fits1 (a b:Mx):Bool:=decide (1≤a.rows∧a.rows≤12∧1≤a.cols∧b.rows=1∧b.cols=a.cols)
def fits2 (a b:Mx):Bool:=decide (a.rows=0∧a.cols=0∧b.rows=0∧b.cols=0)
def fits3 (a b:Mx):Bool:=decide (a.rows=1∧a.cols=1∧b.rows=0∧b.cols=0)
def fits4 (a b:Mx):Bool:=decide (a.rows=0∧a.cols=0∧b.rows=1∧1≤b.cols)
theorem fitsL_1{l:Ly}(h:l.k=1):fitsL l=fits1 l.w l.b:=by unfold fitsL fits1;rw[if_pos h]
theorem fitsL_2{l:Ly}(h:l.k=2):fitsL l=fits2 l.w l.b:=by unfold fitsL fits2;rw[if_neg (by omega),if_pos h]
theorem fitsL_3{l:Ly}(h:l.k=3):fitsL l=fits3 l.w l.b:=by unfold fitsL fits3;rw[if_neg (by omega),if_neg (by omega),if_pos h]
theorem fitsL_4{l:Ly}(h:l.k=4):fitsL l=fits4 l.w l.b:=by unfold fitsL fits4;rw[if_neg (by omega),if_neg (by omega),if_neg (by omega)]
set_option maxHeartbeats 800000 in
theorem fits_linear(v:Value)(a b:Mx)(w:World)(hv:IsTwo w v a b):Calls Tryz.prog 147 #[v] w fun e w'=>e=.returned (.bool (fits1 a b))∧Below w.heap.size w w':=by
 obtain ⟨s,t,rfl,hs,ht⟩:=hv
 obtain ⟨xa,xn,xk,rfl⟩:=hs.shape
 obtain ⟨ya,yn,yk,rfl⟩:=ht.shape
 obtain ⟨wr,e1⟩:=gN (a.rows)
 obtain ⟨wc,e2⟩:=gN (a.cols)
 obtain ⟨br,e3⟩:=gN (b.rows)
 obtain ⟨bc,e4⟩:=gN (b.cols)
 have hF:fits1 a b=decide (1≤wr∧wr≤12∧1≤wc∧br=1∧bc=wc):=by unfold fits1;rw[e1,e2,e3,e4]
 obtain ⟨F,hF'⟩:=gN (fits1 a b)
 rw[hF']at hF ⊢
 have HC:=h_ (fun W (h:Below w.heap.size w W)=>shape_any _ b 1 wc W ⟨_,rfl,ht.u_ h⟩)
 rw[e3,e4]at HC
 rw[e1,e2,e3,e4]
 clear hs ht e1 e2 e3 e4 hF'
 by_cases h1:1≤wr
 ·by_cases h2:wr≤12
  ·by_cases h3:1≤wc
   ·have HE:=h_ (show shapeB br bc 1 wc=F by rw[hF];unfold shapeB;rw[decide_eq_decide];exact ⟨fun h=>⟨h1,h2,h3,h⟩,fun h=>h.2.2.2⟩)
    clear hF
    go_enter Tryz.func147,Tryz.ntmps147
    go_wp2_with fail
    refine (HC.out _ (o_ _ _)).mono ?_
    rintro e w1 ⟨rfl,hb1⟩
    go_wp2
    go_ret
    exact ⟨ret_bool HE.out,below_box (Below.refl _ _) hb1⟩
   ·have HE:=h_ (show false=F by rw[hF,eq_comm,decide_eq_false_iff_not];exact fun h=>h3 h.2.2.1)
    clear hF
    go_enter Tryz.func147,Tryz.ntmps147
    go_wp2
    go_ret
    exact ⟨ret_bool HE.out,o_ _ _⟩
  ·have HE:=h_ (show false=F by rw[hF,eq_comm,decide_eq_false_iff_not];exact fun h=>h2 h.2.1)
   clear hF
   go_enter Tryz.func147,Tryz.ntmps147
   go_wp2
   go_ret
   exact ⟨ret_bool HE.out,o_ _ _⟩
 ·have HE:=h_ (show false=F by rw[hF,eq_comm,decide_eq_false_iff_not];exact fun h=>h1 h.1)
  clear hF
  go_enter Tryz.func147,Tryz.ntmps147
  go_wp2
  go_ret
  exact ⟨ret_bool HE.out,o_ _ _⟩
set_option maxHeartbeats 800000 in
theorem fits_relu(v:Value)(a b:Mx)(w:World)(hv:IsTwo w v a b):Calls Tryz.prog 165 #[v] w fun e w'=>e=.returned (.bool (fits2 a b))∧Below w.heap.size w w':=by
 obtain ⟨s,t,rfl,hs,ht⟩:=hv
 obtain ⟨xa,xn,xk,rfl⟩:=hs.shape
 obtain ⟨ya,yn,yk,rfl⟩:=ht.shape
 obtain ⟨wr,e1⟩:=gN (a.rows)
 obtain ⟨wc,e2⟩:=gN (a.cols)
 obtain ⟨br,e3⟩:=gN (b.rows)
 obtain ⟨bc,e4⟩:=gN (b.cols)
 have hF:fits2 a b=decide (wr=0∧wc=0∧br=0∧bc=0):=by unfold fits2;rw[e1,e2,e3,e4]
 obtain ⟨F,hF'⟩:=gN (fits2 a b)
 rw[hF']at hF ⊢
 have HC:=h_ (fun W (h:Below w.heap.size w W)=>shape_any _ a 0 0 W ⟨_,rfl,hs.u_ h⟩)
 have HD:=h_ (fun W (h:Below w.heap.size w W)=>shape_any _ b 0 0 W ⟨_,rfl,ht.u_ h⟩)
 rw[e1,e2]at HC
 rw[e3,e4]at HD
 rw[e1,e2,e3,e4]
 clear hs ht e1 e2 e3 e4 hF'
 have HB:=h_ (Box.new w [.int .i64 wr,.int .i64 wc,.slice xa xn xk,.int .i64 br,.int .i64 bc,.slice ya yn yk] 205 rfl)
 by_cases h1:wr=0∧wc=0
 ·have HE:=h_ (show shapeB br bc 0 0=F by rw[hF];unfold shapeB;rw[decide_eq_decide];exact ⟨fun h=>⟨h1.1,h1.2,h⟩,fun h=>h.2.2⟩)
  rw[shapeB_yes h1]at HC
  clear h1 hF
  go_enter Tryz.func165,Tryz.ntmps165
  go_wp2_with fail
  refine (HC.out _ (o_ _ _)).mono ?_
  rintro e w1 ⟨rfl,hb1⟩
  have H1:=h_ (HB.out.u_ hb1)
  obtain ⟨d3,d4,d5⟩:=H1.out.c35
  have W1:=h_ (below_box (Below.refl _ _) hb1)
  clear hb1
  go_wp2_with fail
  refine (HD.out _ W1.out).mono ?_
  rintro e w2 ⟨rfl,hb2⟩
  go_wp2
  go_ret
  exact ⟨ret_bool HE.out,b_ W1.out hb2⟩
 ·have HE:=h_ (show false=F by rw[hF,eq_comm,decide_eq_false_iff_not];exact fun h=>h1 ⟨h.1,h.2.1⟩)
  rw[shapeB_no h1]at HC
  clear h1 hF
  go_enter Tryz.func165,Tryz.ntmps165
  go_wp2_with fail
  refine (HC.out _ (o_ _ _)).mono ?_
  rintro e w1 ⟨rfl,hb1⟩
  go_wp2
  go_ret
  exact ⟨ret_bool HE.out,below_box (Below.refl _ _) hb1⟩
set_option maxHeartbeats 800000 in
theorem fits_scale(v:Value)(a b:Mx)(w:World)(hv:IsTwo w v a b):Calls Tryz.prog 170 #[v] w fun e w'=>e=.returned (.bool (fits3 a b))∧Below w.heap.size w w':=by
 obtain ⟨s,t,rfl,hs,ht⟩:=hv
 obtain ⟨xa,xn,xk,rfl⟩:=hs.shape
 obtain ⟨ya,yn,yk,rfl⟩:=ht.shape
 obtain ⟨wr,e1⟩:=gN (a.rows)
 obtain ⟨wc,e2⟩:=gN (a.cols)
 obtain ⟨br,e3⟩:=gN (b.rows)
 obtain ⟨bc,e4⟩:=gN (b.cols)
 have hF:fits3 a b=decide (wr=1∧wc=1∧br=0∧bc=0):=by unfold fits3;rw[e1,e2,e3,e4]
 obtain ⟨F,hF'⟩:=gN (fits3 a b)
 rw[hF']at hF ⊢
 have HC:=h_ (fun W (h:Below w.heap.size w W)=>shape_any _ a 1 1 W ⟨_,rfl,hs.u_ h⟩)
 have HD:=h_ (fun W (h:Below w.heap.size w W)=>shape_any _ b 0 0 W ⟨_,rfl,ht.u_ h⟩)
 rw[e1,e2]at HC
 rw[e3,e4]at HD
 rw[e1,e2,e3,e4]
 clear hs ht e1 e2 e3 e4 hF'
 have HB:=h_ (Box.new w [.int .i64 wr,.int .i64 wc,.slice xa xn xk,.int .i64 br,.int .i64 bc,.slice ya yn yk] 206 rfl)
 by_cases h1:wr=1∧wc=1
 ·have HE:=h_ (show shapeB br bc 0 0=F by rw[hF];unfold shapeB;rw[decide_eq_decide];exact ⟨fun h=>⟨h1.1,h1.2,h⟩,fun h=>h.2.2⟩)
  rw[shapeB_yes h1]at HC
  clear h1 hF
  go_enter Tryz.func170,Tryz.ntmps170
  go_wp2_with fail
  refine (HC.out _ (o_ _ _)).mono ?_
  rintro e w1 ⟨rfl,hb1⟩
  have H1:=h_ (HB.out.u_ hb1)
  obtain ⟨d3,d4,d5⟩:=H1.out.c35
  have W1:=h_ (below_box (Below.refl _ _) hb1)
  clear hb1
  go_wp2_with fail
  refine (HD.out _ W1.out).mono ?_
  rintro e w2 ⟨rfl,hb2⟩
  go_wp2
  go_ret
  exact ⟨ret_bool HE.out,b_ W1.out hb2⟩
 ·have HE:=h_ (show false=F by rw[hF,eq_comm,decide_eq_false_iff_not];exact fun h=>h1 ⟨h.1,h.2.1⟩)
  rw[shapeB_no h1]at HC
  clear h1 hF
  go_enter Tryz.func170,Tryz.ntmps170
  go_wp2_with fail
  refine (HC.out _ (o_ _ _)).mono ?_
  rintro e w1 ⟨rfl,hb1⟩
  go_wp2
  go_ret
  exact ⟨ret_bool HE.out,below_box (Below.refl _ _) hb1⟩
set_option maxHeartbeats 800000 in
theorem fits_shift(v:Value)(a b:Mx)(w:World)(hv:IsTwo w v a b):Calls Tryz.prog 175 #[v] w fun e w'=>e=.returned (.bool (fits4 a b))∧Below w.heap.size w w':=by
 obtain ⟨s,t,rfl,hs,ht⟩:=hv
 obtain ⟨xa,xn,xk,rfl⟩:=hs.shape
 obtain ⟨ya,yn,yk,rfl⟩:=ht.shape
 obtain ⟨wr,e1⟩:=gN (a.rows)
 obtain ⟨wc,e2⟩:=gN (a.cols)
 obtain ⟨br,e3⟩:=gN (b.rows)
 obtain ⟨bc,e4⟩:=gN (b.cols)
 have hF:fits4 a b=decide (wr=0∧wc=0∧br=1∧1≤bc):=by unfold fits4;rw[e1,e2,e3,e4]
 obtain ⟨F,hF'⟩:=gN (fits4 a b)
 rw[hF']at hF ⊢
 have HC:=h_ (fun W (h:Below w.heap.size w W)=>shape_any _ a 0 0 W ⟨_,rfl,hs.u_ h⟩)
 rw[e1,e2]at HC
 rw[e1,e2,e3,e4]
 clear hs ht e1 e2 e3 e4 hF'
 have HB:=h_ (Box.new w [.int .i64 wr,.int .i64 wc,.slice xa xn xk,.int .i64 br,.int .i64 bc,.slice ya yn yk] 207 rfl)
 by_cases h1:wr=0∧wc=0
 ·rw[shapeB_yes h1]at HC
  by_cases h2:br=1
  ·have g2:(br==1)=true:=by simp[h2]
   have HE:Hid (∀x:Bool,x=decide (1≤bc)→x=F):=h_ (fun x hx=>by rw[hx,hF,decide_eq_decide];exact ⟨fun h=>⟨h1.1,h1.2,h2,h⟩,fun h=>h.2.2.2⟩)
   clear h1 h2 hF
   by_cases h3:1≤bc
   ·go_enter Tryz.func175,Tryz.ntmps175
    go_wp2_with fail
    refine (HC.out _ (o_ _ _)).mono ?_
    rintro e w1 ⟨rfl,hb1⟩
    have H1:=h_ (HB.out.u_ hb1)
    have d3:=H1.out 3 _ rfl
    have d4:=H1.out 4 _ rfl
    have W1:=h_ (below_box (Below.refl _ _) hb1)
    clear hb1
    go_wp2
    go_ret
    exact ⟨ret_bool (HE.out _ (by simp[h3])),W1.out⟩
   ·go_enter Tryz.func175,Tryz.ntmps175
    go_wp2_with fail
    refine (HC.out _ (o_ _ _)).mono ?_
    rintro e w1 ⟨rfl,hb1⟩
    have H1:=h_ (HB.out.u_ hb1)
    have d3:=H1.out 3 _ rfl
    have d4:=H1.out 4 _ rfl
    have W1:=h_ (below_box (Below.refl _ _) hb1)
    clear hb1
    go_wp2
    go_ret
    exact ⟨ret_bool (HE.out _ (by simp)),W1.out⟩
  ·have g2:(br==1)=false:=by simp[h2]
   have HE:=h_ (show false=F by rw[hF,eq_comm,decide_eq_false_iff_not];exact fun h=>h2 h.2.2.1)
   clear h1 h2 hF
   go_enter Tryz.func175,Tryz.ntmps175
   go_wp2_with fail
   refine (HC.out _ (o_ _ _)).mono ?_
   rintro e w1 ⟨rfl,hb1⟩
   have H1:=h_ (HB.out.u_ hb1)
   have d3:=H1.out 3 _ rfl
   have W1:=h_ (below_box (Below.refl _ _) hb1)
   clear hb1
   go_wp2
   go_ret
   exact ⟨ret_bool HE.out,W1.out⟩
 ·have HE:=h_ (show false=F by rw[hF,eq_comm,decide_eq_false_iff_not];exact fun h=>h1 ⟨h.1,h.2.1⟩)
  rw[shapeB_no h1]at HC
  clear h1 hF
  go_enter Tryz.func175,Tryz.ntmps175
  go_wp2_with fail
  refine (HC.out _ (o_ _ _)).mono ?_
  rintro e w1 ⟨rfl,hb1⟩
  go_wp2
  go_ret
  exact ⟨ret_bool HE.out,below_box (Below.refl _ _) hb1⟩
set_option maxHeartbeats 400000 in
theorem takes_linear_any(n:Int)(wr wc br bc:Int)(xa:Option Addr)(xn xk:Nat)(ya:Option Addr)(yn yk:Nat)(w:World):Calls Tryz.prog 150 #[.agg #[.int .i64 wr,.int .i64 wc,.slice xa xn xk,.int .i64 br,.int .i64 bc,.slice ya yn yk],.int .i64 n] w fun e w'=>e=.returned (.bool (n==wr))∧Below w.heap.size w w':=by
 go_enter Tryz.func150,Tryz.ntmps150
 go_wp2
 go_ret
 exact ⟨rfl,o_ _ _⟩
set_option maxHeartbeats 400000 in
theorem gives_linear_any(n:Int)(wr wc br bc:Int)(xa:Option Addr)(xn xk:Nat)(ya:Option Addr)(yn yk:Nat)(w:World):Calls Tryz.prog 149 #[.agg #[.int .i64 wr,.int .i64 wc,.slice xa xn xk,.int .i64 br,.int .i64 bc,.slice ya yn yk],.int .i64 n] w fun e w'=>e=.returned (.int .i64 wc)∧Below w.heap.size w w':=by
 go_enter Tryz.func149,Tryz.ntmps149
 go_wp2
 go_ret
 exact ⟨rfl,o_ _ _⟩
set_option maxHeartbeats 400000 in
theorem takes_keeper_any(n:Int)(wr wc br bc:Int)(xa:Option Addr)(xn xk:Nat)(ya:Option Addr)(yn yk:Nat)(w:World):Calls Tryz.prog 163 #[.agg #[.int .i64 wr,.int .i64 wc,.slice xa xn xk,.int .i64 br,.int .i64 bc,.slice ya yn yk],.int .i64 n] w fun e w'=>e=.returned (.bool true)∧Below w.heap.size w w':=by
 go_enter Tryz.func163,Tryz.ntmps163
 go_wp2
 go_ret
 exact ⟨rfl,o_ _ _⟩
set_option maxHeartbeats 400000 in
theorem gives_keeper_any(n:Int)(wr wc br bc:Int)(xa:Option Addr)(xn xk:Nat)(ya:Option Addr)(yn yk:Nat)(w:World):Calls Tryz.prog 162 #[.agg #[.int .i64 wr,.int .i64 wc,.slice xa xn xk,.int .i64 br,.int .i64 bc,.slice ya yn yk],.int .i64 n] w fun e w'=>e=.returned (.int .i64 n)∧Below w.heap.size w w':=by
 go_enter Tryz.func162,Tryz.ntmps162
 go_wp2
 go_ret
 exact ⟨rfl,o_ _ _⟩
set_option maxHeartbeats 400000 in
theorem takes_shift_any(n:Int)(wr wc br bc:Int)(xa:Option Addr)(xn xk:Nat)(ya:Option Addr)(yn yk:Nat)(w:World):Calls Tryz.prog 177 #[.agg #[.int .i64 wr,.int .i64 wc,.slice xa xn xk,.int .i64 br,.int .i64 bc,.slice ya yn yk],.int .i64 n] w fun e w'=>e=.returned (.bool (n==bc))∧Below w.heap.size w w':=by
 go_enter Tryz.func177,Tryz.ntmps177
 go_wp2
 go_ret
 exact ⟨rfl,o_ _ _⟩
end Go.Proofs.YtniloklglpchfakGreat
