/- What fill of package mat comes to: a matrix in new memory of what a function value gives, cell by cell. Condition: the function gives f i j at each cell, and turns nothing old. -/
import Derived.Test.YtniloklglpchfaeGreatDoorPkSame
import Derived.Test.YtniloklglpchfaeGreatDoorPlain
import Derived.Laws.AppendOwn
import Derived.Shelf.Abstract
import Derived.Deep.RegionHeld3
namespace Go.Proofs.YtniloklglpchfaeGreatDoor
open Go.RowKit
def Gives (K:Nat) (cap:Array Value) (R C:Nat) (f:Nat->Nat->Int) (w:World):Prop:=
 ∀(W:World) (i j:Nat) (xi xj:Int),xi=(i:Int)->xj=(j:Int)->i<R->j<C->Below w.heap.size w W->Calls Tryz.prog K (#[.int .i64 xi,.int .i64 xj]++cap) W fun e w'=>e=.returned (.int .i64 (f i j))/\Below W.heap.size W w'
theorem run_mk0(L:Int)(n:Nat)(hL:L=(n:Int))(hn:n<=82944)(W:World):(Instr.makeSlice 26 (.int .i64 0) (.int .i64 L)).run Tryz.prog W=.ok (.slice (some ⟨W.heap.size,0,none⟩) 0 n) (W.alloc (.cells (zeros n) 3)):=by
 obtain ⟨i0,hi,hz0,hz1,hz2⟩:=info_parts infoInt
 subst hL
 have hr:=run_make (P:=Tryz.prog) W 26 3 i0 (.int .i64 0) Tryz.underlying26 hi hz0 .i64 .i64 (0:Int) (n:Int) (by omega) (by omega) (by rw[hz2];omega) (by omega)
 simpa [zeros,hz1,Value.cells] using hr
theorem tab_succ(n:Nat)(f:Nat->Int):tab (n+1) f=tab n f++[f n]:=by simp[tab,List.range_succ]
theorem zeros_size(n:Nat):(zeros n).size=n*1:=by
 unfold zeros;rw[<-Array.length_toList,toList_madeCells_one];simp
def Own (w:World) (base:Nat) (v:Value) (n:Nat) (f:Nat->Int):Prop:=w.ownsRow base 3 1 v n ((tab n f).map (Value.int .i64))
def NewInts (base:Nat) (w:World) (v:Value) (zs:List Int):Prop:=
 ∃(a:Option Addr) (cap:Nat),v=.slice a zs.length cap/\zs.length<=cap/\cap<=maxLen/\(zs=[]\/∃b off,a=some ⟨b,off,none⟩/\base<=b/\∀i x,zs[i]?=some x->w.cell? ⟨b,off+i,none⟩=some (.int .i64 x))
theorem NewInts.isInts{base:Nat}{w:World}{v:Value}{zs:List Int}(h:NewInts base w v zs):I_ w v zs:=by
 obtain ⟨a,cap,h1,h2,h3,h4⟩:=h
 exact ⟨a,cap,h1,h2,h3,h4.imp id (fun ⟨b,off,e,_,hc⟩=>⟨b,off,e,hc⟩)⟩
theorem NewInts.set{base:Nat}{w:World}{v:Value}{zs:List Int}(h:NewInts base w v zs){B:Nat}(hB:B<base)(q:Nat)(u:Value):NewInts base (w.setCell ⟨B,q,none⟩ u) v zs:=by
 obtain ⟨a,cap,h1,h2,h3,h4⟩:=h
 refine ⟨a,cap,h1,h2,h3,h4.imp id (fun ⟨b,off,e,hb,hc⟩=>⟨b,off,e,hb,fun i x hx=>cell_other (hc i x hx) (by show b≠B;omega) q u⟩)⟩
theorem Own.newInts{w:World}{base:Nat}{v:Value}{n:Nat}{f:Nat->Int}(h:Own w base v n f)(hm:n<=maxLen):NewInts base w v (tab n f):=by
 have hc:=fun g e=>World.ownsRow.cells h (g:=g) e
 obtain ⟨h1,h2⟩:=h
 rcases h2 with ⟨rfl,rfl⟩|⟨g,cap,cur,rfl,hg,_,h3,h4,_,_⟩
 ·exact ⟨none,0,rfl,Nat.le_refl _,Nat.zero_le _,.inl rfl⟩
 ·refine ⟨some ⟨g,0,none⟩,cap,by rw[tab_len],by rw[tab_len];exact h3,h4,.inr ⟨g,0,rfl,hg,fun i x hx=>?_⟩⟩
  have:=hc g rfl i (.int .i64 x) (by simp[hx])
  rw[Addr.add_lit]at this;exact this
theorem Own.isInts{w:World}{base:Nat}{v:Value}{n:Nat}{f:Nat->Int}(h:Own w base v n f)(hm:n<=maxLen):I_ w v (tab n f):=by
 have hc:=fun g e=>World.ownsRow.cells h (g:=g) e
 obtain ⟨h1,h2⟩:=h
 rcases h2 with ⟨rfl,rfl⟩|⟨g,cap,cur,rfl,_,_,h3,h4,_,_⟩
 ·exact I_.nil w
 ·refine ⟨some ⟨g,0,none⟩,cap,by rw[tab_len],by rw[tab_len];exact h3,h4,.inr ⟨g,0,rfl,fun i x hx=>?_⟩⟩
  have:=hc g rfl i (.int .i64 x) (by simp[hx])
  rw[Addr.add_lit]at this;exact this
theorem Own.alloc{w:World}{base:Nat}{v:Value}{n:Nat}{f:Nat->Int}(h:Own w base v n f)(o:Obj):Own (w.alloc o) base v n f:=World.ownsRow.alloc h o
theorem Own.u_{w w':World}{base:Nat}{v:Value}{n:Nat}{f:Nat->Int}(h:Own w base v n f)(hb:Below w.heap.size w w'):Own w' base v n f:=by
 refine World.ownsRow.kept (row:=none) h ⟨hb.os,hb.tape,hb.output,hb.size,fun k hk _=>hb.block k hk⟩ ?_
 cases e:v.ownBlock with
 |none=>exact .inl rfl
 |some k=>exact .inr (by simp)
set_option maxHeartbeats 1600000 in
set_option maxRecDepth 100000 in
theorem fill_any(K:Nat)(cap:Array Value)(eg:∀args w,(callFunc K args).run Tryz.prog w=.ok (.enter K args) w)(R C:Nat)(r c:Int)(hr:r=(R:Int))(hc:c=(C:Int))(hR:R<=24)(hC:C<=24)(f:Nat->Nat->Int)(w:World)(hG:Gives K cap R C f w):
  Calls Tryz.prog 116 #[.int .i64 r,.int .i64 c,.func (.func K) #[] cap] w fun e w'=>
   ∃a n k,e=.returned (.agg #[.int .i64 r,.int .i64 c,.slice a n k])/\NewInts w.heap.size w' (.slice a n k) (tab (R*C) (fun q=>f (q / C) (q % C)))/\Below w.heap.size w w':=by
 have HG:=h_ hG
 have Hr:=h_ hr
 have Hc:=h_ hc
 have t1:=mul_bds hr hc hR hC
 have u1:=wrap_in (x:=r*c) (by omega) (by omega)
 obtain ⟨N,hN⟩:=gN (R*C)
 have hN576:N<=576:=by have:=Nat.mul_le_mul hR hC;omega
 have hmk:=run_mk0 (r*c) N (by rw[hr,hc,<-hN];simp) (by omega)
 have HN:=h_ hN
 clear hG hr hc hN
 obtain ⟨W1,hW1⟩:=gM (w.alloc (.cells #[.int .i64 0,.int .i64 0,.slice none 0 0] 28))
 have hW1s:W1.heap.size=w.heap.size+1:=by rw[hW1];simp
 have hW1b:Below w.heap.size w W1:=by rw[hW1];exact o_ _ _
 have hown0:Own (W1.alloc (.cells (zeros N) 3)) (w.heap.size+1) (.slice (some ⟨W1.heap.size,0,none⟩) 0 N) 0 (fun q=>f (q / C) (q % C)):=World.ownsRow_made _ _ _ (by omega) (by unfold maxLen;omega) (zeros_size N)
 have q0:W1.cell? ⟨w.heap.size,0,none⟩=some (.int .i64 0):=by rw[hW1];simp
 have q1:W1.cell? ⟨w.heap.size,1,none⟩=some (.int .i64 0):=by rw[hW1];simp
 have q2:W1.cell? ⟨w.heap.size,2,none⟩=some (.slice none 0 0):=by rw[hW1];simp
 have qf:∀j,W1.frozen? ⟨w.heap.size,j,none⟩=false:=fun j=>by rw[hW1];simp
 have HQ:=h_ (And.intro q0 (And.intro q1 q2))
 have HQF:=h_ qf
 have HO:=h_ hown0
 have HB:=h_ hW1b
 have HS:=h_ hW1s
 clear q0 q1 q2 qf hown0 hW1b
 go_enter Tryz.func116,Tryz.ntmps116
 go_wp2_with fail
 rw[<-hW1]
 clear hW1
 go_wp2
 have hgoal:=HO.out
 rw[hW1s]at hgoal
 have HO1:=h_ hgoal
 clear hgoal hW1s hmk
 go_loopw [7,15] (fun v a wr=>∃(i:Nat) (xi:Int),i<=R/\xi=(i:Int)/\a=.int .i64 xi/\Own wr (w.heap.size+1) v (i*C) (fun q=>f (q / C) (q % C))/\Below (w.heap.size+1) W1 wr) (fun _ a _=>R - (intOf a).toNat)
 case atStart=>exact ⟨0,0,Nat.zero_le _,rfl,rfl,by rw[Nat.zero_mul];exact HO1.out,(Below.refl _ _).alloc (by have:=HS.out;omega) _⟩
 case round=>
  obtain ⟨i,xi,hi,hxi,rfl,hro,hbw⟩:=hrel
  have HRO:=h_ hro
  have HBW:=h_ hbw
  have HXI:=h_ hxi
  have hxi0:0<=xi:=by omega
  have hxi1:xi<=24:=by omega
  clear hro hbw hxi
  by_cases hlt:xi<r
  ·have hiR:i<R:=by have:=HXI.out;have:=Hr.out;omega
   go_wp2
   go_loopw [7,19] (fun v a wr=>∃(j:Nat) (xj:Int),j<=C/\xj=(j:Int)/\a=.int .i64 xj/\Own wr (w.heap.size+1) v (i*C+j) (fun q=>f (q / C) (q % C))/\Below (w.heap.size+1) W1 wr) (fun _ a _=>C - (intOf a).toNat)
   case atStart=>exact ⟨0,0,Nat.zero_le _,rfl,rfl,HRO.out,HBW.out⟩
   case round=>
    obtain ⟨j,xj,hj,hxj,rfl,hro,hbw⟩:=hrel
    have HRO2:=h_ hro
    have HBW2:=h_ hbw
    have HXJ:=h_ hxj
    have hxj0:0<=xj:=by omega
    have hxj1:xj<=24:=by omega
    clear hro hbw hxj
    by_cases hjc:xj<c
    ·have hjC:j<C:=by have:=HXJ.out;have:=Hc.out;omega
     have hcall:=HG.out wr i j xi xj HXI.out HXJ.out hiR hjC (HB.out.trans (HBW2.out.mono (by omega)))
     have hidx:=idx_lt hiR hjC
     obtain ⟨e0,ei,hz0,hz1,hz2⟩:=info_parts infoInt
     have HE:=h_ (And.intro ei (And.intro hz0 (And.intro hz1 hz2)))
     clear ei hz0 hz1 hz2
     go_wp2_with (first
      |(at_builtin;refine wpList_append_own _ rfl _ _ 26 rfl (w.heap.size+1) 3 e0 (.int .i64 0) 1 8 Tryz.underlying26 HE.out.1 HE.out.2.1 HE.out.2.2.1 HE.out.2.2.2 rfl (by decide) _ _ _ rfl ((HRO2.out.u_ hb1).alloc _) ⟨w1.heap.size,0,none⟩ 1 1 [.int .i64 (f i j)] rfl rfl ?c1 ?c2 ?c3 ?c4 ?c5 ?_)
      |(go_at_fn K;refine hcall.mono ?_;rintro e w1 ⟨rfl,hb1⟩))
     case c1=>
      intro k u hk
      match k,hk with
      |0,hk=>simp at hk;subst hk;simp[Addr.add]
     case c2=>intro u hu;simp at hu;subst hu;rfl
     case c3=>have:=HN.out;unfold maxLen;omega
     case c4=>have:=HN.out;omega
     case c5=>have:=HBW2.out.size;have:=hb1.size;have:=HS.out;simp;omega
     intro v' w' hown' hgrow _
     have hown2:Own w' (w.heap.size+1) v' (i*C+(j+1)) (fun q=>f (q / C) (q % C)):=by
      obtain ⟨e1,e2⟩:=at_div (R:=C) (i:=j) (j:=i) hjC
      show w'.ownsRow _ _ _ _ _ _
      rw[<-Nat.add_assoc,tab_succ,List.map_append]
      simp only[e1,e2]
      exact hown'
     have hbel2:Below (w.heap.size+1) W1 w':=by
      have s1:=HBW2.out.size
      have s2:=HS.out
      have s3:=hb1.size
      exact ((HBW2.out.trans (hb1.mono (by omega))).alloc (by omega) _).grown hgrow (by simp;omega) (fun k hk=>(World.ownsRow.lt HRO2.out k hk).1)
     have HO2:=h_ hown2
     have HB2:=h_ hbel2
     clear hown' hgrow hown2 hbel2 hcall
     go_wp2
     go_roundw
     case rel=>exact ⟨j+1,_,by omega,by have:=HXJ.out;omega,rfl,HO2.out,HB2.out⟩
     case measure=>have:=HXJ.out;simp[intOf];omega
    ·go_wp2
     go_roundw
     case rel=>exact ⟨i+1,_,by omega,by have:=HXI.out;omega,rfl,by have h:=HRO2.out;rw[show j=C by have:=HXJ.out;have:=Hc.out;omega,<-Nat.succ_mul]at h;exact h,HBW2.out⟩
     case measure=>have:=HXI.out;simp[intOf];omega
  ·have hiR:i=R:=by have:=HXI.out;have:=Hr.out;omega
   have p0:=(HBW.out.cell (p:=⟨w.heap.size,0,none⟩) (by simp)).trans HQ.out.1
   have p1:=(HBW.out.cell (p:=⟨w.heap.size,1,none⟩) (by simp)).trans HQ.out.2.1
   have p2:=(HBW.out.cell (p:=⟨w.heap.size,2,none⟩) (by simp)).trans HQ.out.2.2
   have z0:=(HBW.out.frozen (p:=⟨w.heap.size,0,none⟩) (by simp)).trans (HQF.out 0)
   have z1:=(HBW.out.frozen (p:=⟨w.heap.size,1,none⟩) (by simp)).trans (HQF.out 1)
   have z2:=(HBW.out.frozen (p:=⟨w.heap.size,2,none⟩) (by simp)).trans (HQF.out 2)
   have hI:=HRO.out.isInts (by rw[hiR];have:=HN.out;unfold maxLen;omega)
   obtain ⟨sa,sn,sc,rfl⟩:=hI.shape
   have HI:=h_ hI
   have HIR:=h_ hiR
   clear hI hiR
   go_wp2
   refine bodyPost_ret (v:=.agg #[.int .i64 r,.int .i64 c,.slice sa sn sc]) (by simp[results,Tryz.results116,go_sem,p0,p1,p2]) rfl ⟨sa,sn,sc,rfl,?_,?_⟩
   ·have h:=World.ownsRow.kept (row:=some w.heap.size) HRO.out (w_ (w_ (w_ (World.grownBy.refl wr (some w.heap.size)) 0 (.int .i64 r)) 1 (.int .i64 c)) 2 (.slice sa sn sc)) (by
     cases e:(Value.slice sa sn sc).ownBlock with
     |none=>exact .inl rfl
     |some k=>exact .inr (fun e'=>by have:=(World.ownsRow.lt HRO.out k e).1;have:=Option.some.inj e';omega))
    have h':=Own.newInts (f:=fun q=>f (q / C) (q % C)) h (by rw[HIR.out];have:=HN.out;unfold maxLen;omega)
    rw[HIR.out]at h'
    obtain ⟨a,cap,h1,h2,h3,h4⟩:=h'
    exact ⟨a,cap,h1,h2,h3,h4.imp id (fun ⟨b,off,e,hb,hc⟩=>⟨b,off,e,by omega,hc⟩)⟩
   ·exact (((HB.out.trans (HBW.out.mono (by omega))).setCell (by simp) _).setCell (by simp) _).setCell (by simp) _
theorem idx_cell{m:Mx}{R C i j:Nat}(hl:m.cells.length=R*C)(hi:i<R)(hj:j<C):m.cells[i*C+j]?=some ((m.cells[i*C+j]?).getD 0):=by
 have:=idx_lt hi hj
 rw[List.getElem?_eq_getElem (by omega)];rfl
set_option maxHeartbeats 400000 in
theorem at_any(v:Value)(m:Mx)(R C i j:Nat)(xi xj:Int)(w:World)(hv:M_ w v m)(hc:m.cols=(C:Int))(hR:R<=24)(hC:C<=24)(hl:m.cells.length=R*C)(hxi:xi=(i:Int))(hxj:xj=(j:Int))(hi:i<R)(hj:j<C):
  Calls Tryz.prog 118 #[v,.int .i64 xi,.int .i64 xj] w fun e w'=>e=.returned (.int .i64 ((m.cells[i*C+j]?).getD 0))/\Below w.heap.size w w':=by
 obtain ⟨s,rfl,hs⟩:=hv
 have hx:=idx_cell hl hi hj
 have hidx:=idx_lt hi hj
 obtain ⟨x,ex⟩:=gN ((m.cells[i*C+j]?).getD 0)
 rw[ex]at hx ⊢
 have hn576:=Nat.mul_le_mul hR hC
 obtain ⟨aa,cap,rfl,h2,h3,h4⟩:=hs
 obtain ⟨b,off,rfl,hcl⟩:=h4.resolve_left (fun e=>by rw[e]at hx;simp at hx)
 obtain ⟨c,ec⟩:=gN (m.cols)
 obtain ⟨r,er⟩:=gN (m.rows)
 rw[ec]at hc
 rw[ec,er]
 have cx:∀o,(w.alloc o).cell? ⟨b,off+(xi*c+xj).toNat,none⟩=some (.int .i64 x):=fun o=>by
  rw[idx_nat hxi hxj hc];exact p_ (hcl _ _ hx) o
 obtain ⟨N,hN⟩:=gN (m.cells.length)
 have t3:xi*c+xj<(N:Int):=by rw[mul_cast_idx hxi hxj hc];omega
 have t1:=mul_bds hxi hc (by omega) hC
 have u1:=wrap_in (x:=xi*c) (by omega) (by omega)
 have u2:=wrap_in (x:=xi*c+xj) (by omega) (by omega)
 have g1:0<=xi*c+xj:=by omega
 rw[hN]at h2 ⊢
 have hN':N<=576:=by omega
 clear hx ex hcl h4 hl hxi hxj hc hidx hN hn576 ec er
 go_enter Tryz.func118,Tryz.ntmps118
 go_wp2
 go_ret
 exact ⟨rfl,o_ _ _⟩
def BoxMx (w:World) (B:Nat) (m:Mx):Prop:=∃s,w.cell? ⟨B,0,none⟩=some (.int .i64 m.rows)/\w.cell? ⟨B,1,none⟩=some (.int .i64 m.cols)/\w.cell? ⟨B,2,none⟩=some s/\I_ w s m.cells
theorem BoxMx.u_{w w':World}{B:Nat}{m:Mx}(h:BoxMx w B m)(hb:Below w.heap.size w w'):BoxMx w' B m:=by
 obtain ⟨s,h0,h1,h2,h3⟩:=h
 exact ⟨s,c_ hb h0,c_ hb h1,c_ hb h2,h3.u_ hb⟩
set_option maxHeartbeats 400000 in
theorem turn_gives(B:Nat)(m:Mx)(R C:Nat)(w:World)(hB:BoxMx w B m)(hc:m.cols=(C:Int))(hR:R<=24)(hC:C<=24)(hl:m.cells.length=R*C):
  Gives 170 #[.pointer (some ⟨B,0,none⟩)] C R (fun i j=>(m.cells[j*C+i]?).getD 0) w:=by
 intro W i j xi xj hxi hxj hi hj hb
 obtain ⟨s,d0,d1,d2,hs⟩:=hB.u_ hb
 obtain ⟨sa,sn,sc,rfl⟩:=hs.shape
 have hm:M_ W (.agg #[.int .i64 m.rows,.int .i64 m.cols,.slice sa sn sc]) m:=⟨_,rfl,hs⟩
 have HC:=h_ (at_any _ m R C j i xj xi W hm hc hR hC hl hxj hxi hj hi)
 clear hs hm hb hB hl hc hxi hxj
 go_enter Tryz.func170,Tryz.ntmps170
 go_wp2_with (go_at_call 118;refine HC.out.mono ?_;rintro e w1 ⟨rfl,hb1⟩)
 go_ret
 exact ⟨rfl,hb1⟩
set_option maxHeartbeats 400000 in
theorem rows_gives(B F:Nat)(m:Mx)(R C f n:Nat)(xf:Int)(w:World)(hB:BoxMx w B m)(hF:w.cell? ⟨F,0,none⟩=some (.int .i64 xf))(hxf:xf=(f:Int))(hc:m.cols=(C:Int))(hR:R<=24)(hC:C<=24)(hl:m.cells.length=R*C)(hfn:f+n<=R):
  Gives 117 #[.pointer (some ⟨B,0,none⟩),.pointer (some ⟨F,0,none⟩)] n C (fun i j=>(m.cells[(f+i)*C+j]?).getD 0) w:=by
 intro W i j xi xj hxi hxj hi hj hb
 obtain ⟨s,d0,d1,d2,hs⟩:=hB.u_ hb
 have d3:=c_ hb hF
 obtain ⟨sa,sn,sc,rfl⟩:=hs.shape
 have hm:M_ W (.agg #[.int .i64 m.rows,.int .i64 m.cols,.slice sa sn sc]) m:=⟨_,rfl,hs⟩
 have HC:=h_ (at_any _ m R C (f+i) j (xf+xi) xj W hm hc hR hC hl (by omega) hxj (by omega) hj)
 have u1:=wrap_in (x:=xf+xi) (by omega) (by omega)
 have b0:0<=xf/\xf<=24:=by omega
 have b1:0<=xi/\xi<=24:=by omega
 clear hs hm hb hB hl hc hxi hxj hF hxf
 go_enter Tryz.func117,Tryz.ntmps117
 go_wp2_with (go_at_call 118;refine HC.out.mono ?_;rintro e w1 ⟨rfl,hb1⟩)
 go_ret
 exact ⟨rfl,hb1⟩
set_option maxHeartbeats 800000 in
set_option maxRecDepth 100000 in
theorem mul_gives(A B:Nat)(m k:Mx)(Ra Ca Cb:Nat)(w:World)(hA:BoxMx w A m)(hB:BoxMx w B k)(hc:m.cols=(Ca:Int))(hc':k.cols=(Cb:Int))(hRa:Ra<=24)(hCa:Ca<=24)(hCb:Cb<=24)(hl:m.cells.length=Ra*Ca)(hl':k.cells.length=Ca*Cb):
  Gives 167 #[.pointer (some ⟨A,0,none⟩),.pointer (some ⟨B,0,none⟩)] Ra Cb (fun i j=>dot m.cells k.cells Ca Cb i j Ca) w:=by
 intro W i j xi xj hxi hxj hi hj hb
 have hA1:=hA.u_ hb
 have hB1:=hB.u_ hb
 obtain ⟨s,d0,d1,d2,hs⟩:=hA1
 obtain ⟨sa,sn,sc,rfl⟩:=hs.shape
 have hm:M_ W (.agg #[.int .i64 m.rows,.int .i64 m.cols,.slice sa sn sc]) m:=⟨_,rfl,hs⟩
 obtain ⟨t,e0,e1,e2,ht⟩:=hB1
 obtain ⟨ta,tn,tc,rfl⟩:=ht.shape
 have hk:M_ W (.agg #[.int .i64 k.rows,.int .i64 k.cols,.slice ta tn tc]) k:=⟨_,rfl,ht⟩
 have HC:=h_ (fun W' (h:Below W.heap.size W W') (l:Nat) (xl:Int) (hxl:xl=(l:Int)) (hlt:l<Ca)=>at_any _ m Ra Ca i l xi xl W' (hm.u_ h) hc hRa hCa hl hxi hxl hi hlt)
 have HD:=h_ (fun W' (h:Below W.heap.size W W') (l:Nat) (xl:Int) (hxl:xl=(l:Int)) (hlt:l<Ca)=>at_any _ k Ca Cb l j xl xj W' (hk.u_ h) hc' hCa hCb hl' hxl hxj hlt hj)
 have HA:=h_ (And.intro d0 (And.intro d1 d2))
 have HB:=h_ (And.intro e0 (And.intro e1 e2))
 obtain ⟨c,ec⟩:=gN (m.cols)
 have hcc:c=(Ca:Int):=by rw[<-ec];exact hc
 have HCC:=h_ hcc
 rw[ec]at HC HA d1
 clear hs hm hb hA hB hl hc hxi hxj hk ht hl' hc' ec hcc
 go_enter Tryz.func167,Tryz.ntmps167
 go_wp2
 go_loopw [7,11] (fun v a wr=>∃(l:Nat) (xl:Int),l<=Ca/\xl=(l:Int)/\a=.int .i64 xl/\v=.int .i64 (dot m.cells k.cells Ca Cb i j l)/\Below W.heap.size W wr) (fun _ a _=>Ca - (intOf a).toNat)
 case atStart=>exact ⟨0,0,Nat.zero_le _,rfl,rfl,rfl,Below.refl _ _⟩
 case round=>
  obtain ⟨l,xl,hl,hxl,rfl,rfl,hbw⟩:=hrel
  have HBW:=h_ hbw
  have HXL:=h_ hxl
  have hxl0:0<=xl:=by omega
  have hxl1:xl<=24:=by omega
  have a0:=c_ hbw HA.out.1
  have a1:=c_ hbw HA.out.2.1
  have a2:=c_ hbw HA.out.2.2
  have b0:=c_ hbw HB.out.1
  have b1:=c_ hbw HB.out.2.1
  have b2:=c_ hbw HB.out.2.2
  clear hbw hxl d0 d1 d2 e0 e1 e2
  by_cases hlt:xl<c
  ·have hlC:l<Ca:=by have:=HXL.out;have:=HCC.out;omega
   have HB0:=h_ (show Below W.heap.size W wr.drew from ⟨HBW.out.os,HBW.out.tape,HBW.out.output,HBW.out.size,HBW.out.block⟩)
   go_wp2
   go_region_held3 (fun W'=>W'.cell? ⟨A,0,none⟩=some (.int .i64 m.rows)/\W'.cell? ⟨A,1,none⟩=some (.int .i64 c)/\W'.cell? ⟨A,2,none⟩=some (.slice sa sn sc)/\W'.cell? ⟨B,0,none⟩=some (.int .i64 k.rows)/\W'.cell? ⟨B,1,none⟩=some (.int .i64 k.cols)/\W'.cell? ⟨B,2,none⟩=some (.slice ta tn tc)) (go_keep)
    (first
     |(go_at_call 118;refine (HD.out _ HB1.out l xl HXL.out hlC).mono ?_;rintro e w2 ⟨rfl,hb2⟩;have HB2:=h_ (HB1.out.trans (hb2.mono HB1.out.size));have h0:=c_ HB2.out HA.out.1;have h1:=c_ HB2.out HA.out.2.1;have h2:=c_ HB2.out HA.out.2.2;have i0:=c_ HB2.out HB.out.1;have i1:=c_ HB2.out HB.out.2.1;have i2:=c_ HB2.out HB.out.2.2;clear hb2)
     |(go_at_call 118;refine (HC.out _ HB0.out l xl HXL.out hlC).mono ?_;rintro e w1 ⟨rfl,hb1⟩;have HB1:=h_ (HB0.out.trans (hb1.mono HB0.out.size));have f0:=c_ HB1.out HA.out.1;have f1:=c_ HB1.out HA.out.2.1;have f2:=c_ HB1.out HA.out.2.2;have g0:=c_ HB1.out HB.out.1;have g1:=c_ HB1.out HB.out.2.1;have g2:=c_ HB1.out HB.out.2.2;clear hb1)
     |(go_at_call 49;refine (add_any _ _ _).mono ?_;rintro e w3 ⟨rfl,rfl⟩)
     |(go_at_call 80;refine (mul_any _ _ _).mono ?_;rintro e w3 ⟨rfl,rfl⟩))
   go_wp2
   go_roundw
   case rel=>exact ⟨l+1,_,by omega,by have:=HXL.out;omega,rfl,rfl,HB2.out⟩
   case measure=>have:=HXL.out;simp[intOf];omega
  ·go_wp2
   go_ret
   exact ⟨i_ (by rw[show l=Ca by have:=HXL.out;have:=HCC.out;omega]),HBW.out⟩
end Go.Proofs.YtniloklglpchfaeGreatDoor
