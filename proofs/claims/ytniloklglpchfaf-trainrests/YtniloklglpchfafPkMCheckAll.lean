/- What checkAll of package mat comes to: the first fault of some matrices. -/
import Derived.Test.YtniloklglpchfafPkSame
import Derived.Test.YtniloklglpchfafPlain
import Derived.StillTailTactics
import Derived.Laws.AppendOwn
import Derived.Shelf.Abstract
namespace Go.Proofs.Ytniloklglpchfaf
open Go.RowKit
def IsMxs (w:World) (v:Value) (ms:List Mx):Prop:=
 ∃(a:Option Addr) (cap:Nat),v=.slice a ms.length cap∧ms.length≤cap∧cap≤maxLen∧(ms=[]∨∃b off,a=some ⟨b,off,none⟩∧∀i m,ms[i]?=some m→
  ∃s,w.cell? ⟨b,off+i*3,none⟩=some (.int .i64 m.rows)∧w.cell? ⟨b,off+i*3+1,none⟩=some (.int .i64 m.cols)∧w.cell? ⟨b,off+i*3+2,none⟩=some s∧I_ w s m.cells)
theorem c_{w w':World}(hb:Below w.heap.size w w'){p:Addr}{v:Value}(h:w.cell? p=some v):w'.cell? p=some v:=
 (hb.cell (p:=p) (World.block_lt_of_cell? w _ h)).trans h
theorem IsMxs.u_{w w':World}{v:Value}{ms:List Mx}(h:IsMxs w v ms)(hb:Below w.heap.size w w'):IsMxs w' v ms:=by
 obtain ⟨a,cap,h1,h2,h3,h4⟩:=h
 refine ⟨a,cap,h1,h2,h3,h4.imp id ?_⟩
 rintro ⟨b,off,ha,hc⟩
 refine ⟨b,off,ha,fun i m hm=>?_⟩
 obtain ⟨s,c0,c1,c2,hs⟩:=hc i m hm
 exact ⟨s,c_ hb c0,c_ hb c1,c_ hb c2,hs.u_ hb⟩
theorem IsMxs.len{w:World}{v:Value}{zs:List Mx}(h:IsMxs w v zs):zs.length≤maxLen:=by
 obtain ⟨_,_,_,h2,h3,_⟩:=h;omega
theorem I_.shape{w:World}{v:Value}{zs:List Int}(h:I_ w v zs):∃a n cap,v=.slice a n cap:=by
 obtain ⟨a,cap,h1,_⟩:=h;exact ⟨a,_,cap,h1⟩
def faults:List Mx→Int
 |[]=>0
 |m::l=>if q_ m=0 then faults l else q_ m
theorem faults_at{ms:List Mx}:∀{k:Nat} {m:Mx},(∀j x,j<k→ms[j]?=some x→q_ x=0)→ms[k]?=some m→q_ m≠0→q_ m=faults ms:=by
 induction ms with
 |nil=>intro k m _ h;simp at h
 |cons x l ih=>
  intro k m hz h hm
  cases k with
  |zero=>simp at h;subst h;unfold faults;rw[if_neg hm]
  |succ k=>
   unfold faults
   rw[if_pos (hz 0 x (by omega) rfl)]
   exact ih (k:=k) (fun j y (hj:j<k) (hy:l[j]?=some y)=>hz (j+1) y (by omega) (by simpa using hy)) (by simpa using h) hm
theorem faults_no{ms:List Mx}:(∀(j:Nat) x,ms[j]?=some x→q_ x=0)→0=faults ms:=by
 induction ms with
 |nil=>intro _;rfl
 |cons x l ih=>
  intro hz
  unfold faults
  rw[if_pos (hz 0 x rfl)]
  exact ih (fun j y (hy:l[j]?=some y)=>hz (j+1) y (by simpa using hy))
theorem n_{k:Int}(h:k≠0):errV k=.iface 65 (.int .i64 k):=by unfold errV;rw[if_neg h]
theorem e_{k:Int}(h:k=0):errV k=.nilIface:=by unfold errV;rw[if_pos h]
set_option maxHeartbeats 1600000 in
set_option maxRecDepth 100000 in
theorem checks_any(v:Value)(ms:List Mx)(w:World)(hv:IsMxs w v ms):Calls Try.prog 48 #[v] w fun e w'=>e=.returned (errV (faults ms))∧Below w.heap.size w w':=by
 have hlen:=hv.len
 unfold maxLen at hlen
 obtain ⟨a,cap,rfl,h2,h3,h4⟩:=hv
 obtain ⟨n,hn⟩:=gN (ms.length)
 have HN:=h_ hn
 have H4:=h_ h4
 rw[hn]at h2 hlen ⊢
 clear hn h4
 go_enter Try.func48,Try.ntmps48
 go_wp2
 go_loopw [8] (fun i wr=>∃k:Nat,k≤n∧i=.int .i64 k∧Below w.heap.size w wr∧∀j x,j<k→ms[j]?=some x→q_ x=0) (fun i _=>n - (intOf i).toNat)
 case atStart=>exact ⟨0,Nat.zero_le _,rfl,Below.refl _ _,fun j x hj _=>by omega⟩
 case round=>
  obtain ⟨k,hk,rfl,hbw,he⟩:=hrel
  have HE:=h_ he
  have HB:=h_ hbw
  clear he hbw
  by_cases hlt:k<n
  ·obtain ⟨x,hx⟩:∃x,ms[k]?=some x:=⟨ms[k]'(by have:=HN.out;omega),List.getElem?_eq_getElem _⟩
   obtain ⟨b,off,rfl,hcl⟩:=H4.out.resolve_left (fun e=>by rw[e]at hx;simp at hx)
   obtain ⟨s,c0,c1,c2,hs⟩:=hcl k x hx
   obtain ⟨sa,sn,sc,rfl⟩:=hs.shape
   have d0:=c_ HB.out c0
   have d1:=c_ HB.out c1
   have d2:=c_ HB.out c2
   have hm:M_ wr (.agg #[.int .i64 x.rows,.int .i64 x.cols,.slice sa sn sc]) x:=⟨_,rfl,hs.u_ HB.out⟩
   have HM:=h_ hm
   have HX:=h_ hx
   have hlt':(k:Int)<(n:Int):=by omega
   clear hcl hx c0 c1 c2 hs hm
   by_cases hf:q_ x=0
   ·have hC:=fun W (h:Below wr.heap.size wr W)=>C_ _ x W (HM.out.u_ h)
    rw[e_ hf]at hC
    have HC:=h_ hC
    have HF:=h_ hf
    clear hf hC
    go_wp2_with (go_at_call 53;refine (HC.out _ (o_ _ _)).mono ?_;rintro e w1 ⟨rfl,hb1⟩)
    go_roundw
    case rel=>exact ⟨k+1,by omega,by go_num,HB.out.trans ((o_ _ _).trans (hb1.mono (by simp))|>.mono HB.out.size),fun j y hj hy=>by
     rcases Nat.lt_or_ge j k with h|h
     ·exact HE.out j y h hy
     ·have e:y=x:=Option.some.inj (by rw[←hy,show j=k by omega,HX.out])
      rw[e];exact HF.out⟩
    case measure=>simp[intOf];omega
   ·have hC:=fun W (h:Below wr.heap.size wr W)=>C_ _ x W (HM.out.u_ h)
    rw[n_ hf]at hC
    have HC:=h_ hC
    have HF:=h_ hf
    clear hf hC
    go_wp2_with (go_at_call 53;refine (HC.out _ (o_ _ _)).mono ?_;rintro e w1 ⟨rfl,hb1⟩)
    go_ret
    exact ⟨R_ (err_of (faults_at HE.out HX.out HF.out) HF.out),HB.out.trans ((o_ _ _).trans (hb1.mono (by simp))|>.mono HB.out.size)⟩
  ·go_wp2
   go_ret
   exact ⟨R_ (err_no (faults_no fun j x hx=>HE.out j x (by
    have:=HN.out
    rcases Nat.lt_or_ge j k with h|h
    ·exact h
    ·rw[List.getElem?_eq_none (by omega)]at hx;cases hx) hx)),HB.out⟩
theorem infoInt:(Try.prog.info? 3).map (fun i=>(i.zero,i.size,i.bytes))=some (some (.int .i64 0),1,8):=by kernel_rfl
def zeros (n:Nat):Array Value:=madeCells #[.int .i64 0] n
theorem zeros_row(w:World)(n:Nat):RowAt 3 (w.alloc (.cells (zeros n) 3)) w.heap.size (tab n (fun _=>0)):=by
 unfold RowAt
 rw[heap_alloc_new]
 congr 2
 rw[←Array.toList_inj]
 unfold zeros
 rw[toList_madeCells_one,tab_zero];simp
theorem region_tail{P:Program}{id:Nat}{Q:Exit→Act→World→Prop}{a:Act}{w:World}{l:List Oper}(n:Nat)(hm:P.follows .mixedOrders=true)(hB:Region.lexTailB .any l.toArray n=true)
  (h:wpStill P l.toArray w.drew (fun a'=>wpList P l.toArray Q (l.drop n) a' w.drew) (l.take n) a):(Code.region id l.toArray true).wp P Q a w:=wp_region_still_tail n hm hB h
def Gives (K:Nat) (cap:Array Value) (R C:Nat) (f:Nat→Nat→Int) (w:World):Prop:=
 ∀(W:World) (i j:Nat) (xi xj:Int),xi=(i:Int)→xj=(j:Int)→i<R→j<C→Below w.heap.size w W→Calls Try.prog K (#[.int .i64 xi,.int .i64 xj]++cap) W fun e w'=>e=.returned (.int .i64 (f i j))∧Below W.heap.size W w'
theorem run_mk0(L:Int)(n:Nat)(hL:L=(n:Int))(hn:n≤82944)(W:World):(Instr.makeSlice 26 (.int .i64 0) (.int .i64 L)).run Try.prog W=.ok (.slice (some ⟨W.heap.size,0,none⟩) 0 n) (W.alloc (.cells (zeros n) 3)):=by
 obtain ⟨i0,hi,hz0,hz1,hz2⟩:=info_parts infoInt
 subst hL
 have hr:=run_make (P:=Try.prog) W 26 3 i0 (.int .i64 0) Try.underlying26 hi hz0 .i64 .i64 (0:Int) (n:Int) (by omega) (by omega) (by rw[hz2];omega) (by omega)
 simpa [zeros,hz1,Value.cells] using hr
theorem tab_succ(n:Nat)(f:Nat→Int):tab (n+1) f=tab n f++[f n]:=by simp[tab,List.range_succ]
theorem zeros_size(n:Nat):(zeros n).size=n*1:=by
 unfold zeros;rw[←Array.length_toList,toList_madeCells_one];simp
def Own (w:World) (base:Nat) (v:Value) (n:Nat) (f:Nat→Int):Prop:=w.ownsRow base 3 1 v n ((tab n f).map (Value.int .i64))
def NewInts (base:Nat) (w:World) (v:Value) (zs:List Int):Prop:=
 ∃(a:Option Addr) (cap:Nat),v=.slice a zs.length cap∧zs.length≤cap∧cap≤maxLen∧(zs=[]∨∃b off,a=some ⟨b,off,none⟩∧base≤b∧∀i x,zs[i]?=some x→w.cell? ⟨b,off+i,none⟩=some (.int .i64 x))
theorem NewInts.isInts{base:Nat}{w:World}{v:Value}{zs:List Int}(h:NewInts base w v zs):I_ w v zs:=by
 obtain ⟨a,cap,h1,h2,h3,h4⟩:=h
 exact ⟨a,cap,h1,h2,h3,h4.imp id (fun ⟨b,off,e,_,hc⟩=>⟨b,off,e,hc⟩)⟩
theorem NewInts.set{base:Nat}{w:World}{v:Value}{zs:List Int}(h:NewInts base w v zs){B:Nat}(hB:B<base)(q:Nat)(u:Value):NewInts base (w.setCell ⟨B,q,none⟩ u) v zs:=by
 obtain ⟨a,cap,h1,h2,h3,h4⟩:=h
 refine ⟨a,cap,h1,h2,h3,h4.imp id (fun ⟨b,off,e,hb,hc⟩=>⟨b,off,e,hb,fun i x hx=>cell_other (hc i x hx) (by show b≠B;omega) q u⟩)⟩
theorem Own.newInts{w:World}{base:Nat}{v:Value}{n:Nat}{f:Nat→Int}(h:Own w base v n f)(hm:n≤maxLen):NewInts base w v (tab n f):=by
 have hc:=fun g e=>World.ownsRow.cells h (g:=g) e
 obtain ⟨h1,h2⟩:=h
 rcases h2 with ⟨rfl,rfl⟩|⟨g,cap,cur,rfl,hg,_,h3,h4,_,_⟩
 ·exact ⟨none,0,rfl,Nat.le_refl _,Nat.zero_le _,.inl rfl⟩
 ·refine ⟨some ⟨g,0,none⟩,cap,by rw[tab_len],by rw[tab_len];exact h3,h4,.inr ⟨g,0,rfl,hg,fun i x hx=>?_⟩⟩
  have:=hc g rfl i (.int .i64 x) (by simp[hx])
  rw[Addr.add_lit]at this;exact this
theorem Own.isInts{w:World}{base:Nat}{v:Value}{n:Nat}{f:Nat→Int}(h:Own w base v n f)(hm:n≤maxLen):I_ w v (tab n f):=by
 have hc:=fun g e=>World.ownsRow.cells h (g:=g) e
 obtain ⟨h1,h2⟩:=h
 rcases h2 with ⟨rfl,rfl⟩|⟨g,cap,cur,rfl,_,_,h3,h4,_,_⟩
 ·exact I_.nil w
 ·refine ⟨some ⟨g,0,none⟩,cap,by rw[tab_len],by rw[tab_len];exact h3,h4,.inr ⟨g,0,rfl,fun i x hx=>?_⟩⟩
  have:=hc g rfl i (.int .i64 x) (by simp[hx])
  rw[Addr.add_lit]at this;exact this
theorem Own.alloc{w:World}{base:Nat}{v:Value}{n:Nat}{f:Nat→Int}(h:Own w base v n f)(o:Obj):Own (w.alloc o) base v n f:=World.ownsRow.alloc h o
theorem Own.u_{w w':World}{base:Nat}{v:Value}{n:Nat}{f:Nat→Int}(h:Own w base v n f)(hb:Below w.heap.size w w'):Own w' base v n f:=by
 refine World.ownsRow.kept (row:=none) h ⟨hb.os,hb.tape,hb.output,hb.size,fun k hk _=>hb.block k hk⟩ ?_
 cases e:v.ownBlock with
 |none=>exact .inl rfl
 |some k=>exact .inr (by simp)
set_option maxHeartbeats 1600000 in
set_option maxRecDepth 100000 in
theorem fill_any(K:Nat)(cap:Array Value)(eg:∀args w,(callFunc K args).run Try.prog w=.ok (.enter K args) w)(R C:Nat)(r c:Int)(hr:r=(R:Int))(hc:c=(C:Int))(hR:R≤24)(hC:C≤24)(f:Nat→Nat→Int)(w:World)(hG:Gives K cap R C f w):
  Calls Try.prog 49 #[.int .i64 r,.int .i64 c,.func (.func K) #[] cap] w fun e w'=>
   ∃a n k,e=.returned (.agg #[.int .i64 r,.int .i64 c,.slice a n k])∧NewInts w.heap.size w' (.slice a n k) (tab (R*C) (fun q=>f (q / C) (q % C)))∧Below w.heap.size w w':=by
 have HG:=h_ hG
 have Hr:=h_ hr
 have Hc:=h_ hc
 have t1:=mul_bds hr hc hR hC
 have u1:=wrap_in (x:=r*c) (by omega) (by omega)
 obtain ⟨N,hN⟩:=gN (R*C)
 have hN576:N≤576:=by have:=Nat.mul_le_mul hR hC;omega
 have hmk:=run_mk0 (r*c) N (by rw[hr,hc,←hN];simp) (by omega)
 have HN:=h_ hN
 clear hG hr hc hN
 obtain ⟨W1,hW1⟩:=gM (w.alloc (.cells #[.int .i64 0,.int .i64 0,.slice none 0 0] 28))
 have hW1s:W1.heap.size=w.heap.size+1:=by rw[hW1];simp
 have hW1b:Below w.heap.size w W1:=by rw[hW1];exact o_ _ _
 have hown0:Own (W1.alloc (.cells (zeros N) 3)) (w.heap.size+1) (.slice (some ⟨W1.heap.size,0,none⟩) 0 N) 0 (fun q=>f (q / C) (q % C)):=World.ownsRow_made _ _ _ (by omega) (by unfold maxLen;omega) (zeros_size N)
 have q0:W1.cell? ⟨w.heap.size,0,none⟩=some (.int .i64 0):=by rw[hW1];simp
 have q1:W1.cell? ⟨w.heap.size,1,none⟩=some (.int .i64 0):=by rw[hW1];simp
 have q2:W1.cell? ⟨w.heap.size,2,none⟩=some (.slice none 0 0):=by rw[hW1];simp
 have qf:∀j,W1.frozen? ⟨w.heap.size,j,none⟩=false:=fun j=>by rw[hW1];simp
 have HQ:=h_ (And.intro q0 (And.intro q1 q2))
 have HQF:=h_ qf
 have HO:=h_ hown0
 have HB:=h_ hW1b
 have HS:=h_ hW1s
 clear q0 q1 q2 qf hown0 hW1b
 go_enter Try.func49,Try.ntmps49
 go_wp2_with fail
 rw[←hW1]
 clear hW1
 go_wp2
 have hgoal:=HO.out
 rw[hW1s]at hgoal
 have HO1:=h_ hgoal
 clear hgoal hW1s hmk
 go_loopw [7,15] (fun v a wr=>∃(i:Nat) (xi:Int),i≤R∧xi=(i:Int)∧a=.int .i64 xi∧Own wr (w.heap.size+1) v (i*C) (fun q=>f (q / C) (q % C))∧Below (w.heap.size+1) W1 wr) (fun _ a _=>R - (intOf a).toNat)
 case atStart=>exact ⟨0,0,Nat.zero_le _,rfl,rfl,by rw[Nat.zero_mul];exact HO1.out,(Below.refl _ _).alloc (by have:=HS.out;omega) _⟩
 case round=>
  obtain ⟨i,xi,hi,hxi,rfl,hro,hbw⟩:=hrel
  have HRO:=h_ hro
  have HBW:=h_ hbw
  have HXI:=h_ hxi
  have hxi0:0≤xi:=by omega
  have hxi1:xi≤24:=by omega
  clear hro hbw hxi
  by_cases hlt:xi<r
  ·have hiR:i<R:=by have:=HXI.out;have:=Hr.out;omega
   go_wp2
   go_loopw [7,19] (fun v a wr=>∃(j:Nat) (xj:Int),j≤C∧xj=(j:Int)∧a=.int .i64 xj∧Own wr (w.heap.size+1) v (i*C+j) (fun q=>f (q / C) (q % C))∧Below (w.heap.size+1) W1 wr) (fun _ a _=>C - (intOf a).toNat)
   case atStart=>exact ⟨0,0,Nat.zero_le _,rfl,rfl,HRO.out,HBW.out⟩
   case round=>
    obtain ⟨j,xj,hj,hxj,rfl,hro,hbw⟩:=hrel
    have HRO2:=h_ hro
    have HBW2:=h_ hbw
    have HXJ:=h_ hxj
    have hxj0:0≤xj:=by omega
    have hxj1:xj≤24:=by omega
    clear hro hbw hxj
    by_cases hjc:xj<c
    ·have hjC:j<C:=by have:=HXJ.out;have:=Hc.out;omega
     have hcall:=HG.out wr i j xi xj HXI.out HXJ.out hiR hjC (HB.out.trans (HBW2.out.mono (by omega)))
     have hidx:=idx_lt hiR hjC
     obtain ⟨e0,ei,hz0,hz1,hz2⟩:=info_parts infoInt
     have HE:=h_ (And.intro ei (And.intro hz0 (And.intro hz1 hz2)))
     clear ei hz0 hz1 hz2
     go_wp2_with (first
      |(at_builtin;refine wpList_append_own _ rfl _ _ 26 rfl (w.heap.size+1) 3 e0 (.int .i64 0) 1 8 Try.underlying26 HE.out.1 HE.out.2.1 HE.out.2.2.1 HE.out.2.2.2 rfl (by decide) _ _ _ rfl ((HRO2.out.u_ hb1).alloc _) ⟨w1.heap.size,0,none⟩ 1 1 [.int .i64 (f i j)] rfl rfl ?c1 ?c2 ?c3 ?c4 ?c5 ?_)
      |(go_at_fn K;refine hcall.mono ?_;rintro e w1 ⟨rfl,hb1⟩))
     case c1=>
      intro k u hk
      match k,hk with
      |0,hk=>simp at hk;subst hk;simp[Addr.add]
     case c2=>intro u hu;simp at hu;subst hu;rfl
     case c3=>have:=HN.out;unfold maxLen;omega
     case c4=>have:=HN.out;omega
     case c5=>have:=HBW2.out.size;have:=hb1.size;have:=HS.out;simp;omega
     intro v' w' hown' hgrow _
     have hown2:Own w' (w.heap.size+1) v' (i*C+(j+1)) (fun q=>f (q / C) (q % C)):=by
      obtain ⟨e1,e2⟩:=at_div (R:=C) (i:=j) (j:=i) hjC
      show w'.ownsRow _ _ _ _ _ _
      rw[←Nat.add_assoc,tab_succ,List.map_append]
      simp only[e1,e2]
      exact hown'
     have hbel2:Below (w.heap.size+1) W1 w':=by
      have s1:=HBW2.out.size
      have s2:=HS.out
      have s3:=hb1.size
      exact ((HBW2.out.trans (hb1.mono (by omega))).alloc (by omega) _).grown hgrow (by simp;omega) (fun k hk=>(World.ownsRow.lt HRO2.out k hk).1)
     have HO2:=h_ hown2
     have HB2:=h_ hbel2
     clear hown' hgrow hown2 hbel2 hcall
     go_wp2
     go_roundw
     case rel=>exact ⟨j+1,_,by omega,by have:=HXJ.out;omega,rfl,HO2.out,HB2.out⟩
     case measure=>have:=HXJ.out;simp[intOf];omega
    ·go_wp2
     go_roundw
     case rel=>exact ⟨i+1,_,by omega,by have:=HXI.out;omega,rfl,by have h:=HRO2.out;rw[show j=C by have:=HXJ.out;have:=Hc.out;omega,←Nat.succ_mul]at h;exact h,HBW2.out⟩
     case measure=>have:=HXI.out;simp[intOf];omega
  ·have hiR:i=R:=by have:=HXI.out;have:=Hr.out;omega
   have p0:=(HBW.out.cell (p:=⟨w.heap.size,0,none⟩) (by simp)).trans HQ.out.1
   have p1:=(HBW.out.cell (p:=⟨w.heap.size,1,none⟩) (by simp)).trans HQ.out.2.1
   have p2:=(HBW.out.cell (p:=⟨w.heap.size,2,none⟩) (by simp)).trans HQ.out.2.2
   have z0:=(HBW.out.frozen (p:=⟨w.heap.size,0,none⟩) (by simp)).trans (HQF.out 0)
   have z1:=(HBW.out.frozen (p:=⟨w.heap.size,1,none⟩) (by simp)).trans (HQF.out 1)
   have z2:=(HBW.out.frozen (p:=⟨w.heap.size,2,none⟩) (by simp)).trans (HQF.out 2)
   have hI:=HRO.out.isInts (by rw[hiR];have:=HN.out;unfold maxLen;omega)
   obtain ⟨sa,sn,sc,rfl⟩:=hI.shape
   have HI:=h_ hI
   have HIR:=h_ hiR
   clear hI hiR
   go_wp2
   refine bodyPost_ret (v:=.agg #[.int .i64 r,.int .i64 c,.slice sa sn sc]) (by simp[results,Try.results49,go_sem,p0,p1,p2]) rfl ⟨sa,sn,sc,rfl,?_,?_⟩
   ·have h:=World.ownsRow.kept (row:=some w.heap.size) HRO.out (w_ (w_ (w_ (World.grownBy.refl wr (some w.heap.size)) 0 (.int .i64 r)) 1 (.int .i64 c)) 2 (.slice sa sn sc)) (by
     cases e:(Value.slice sa sn sc).ownBlock with
     |none=>exact .inl rfl
     |some k=>exact .inr (fun e'=>by have:=(World.ownsRow.lt HRO.out k e).1;have:=Option.some.inj e';omega))
    have h':=Own.newInts (f:=fun q=>f (q / C) (q % C)) h (by rw[HIR.out];have:=HN.out;unfold maxLen;omega)
    rw[HIR.out]at h'
    obtain ⟨a,cap,h1,h2,h3,h4⟩:=h'
    exact ⟨a,cap,h1,h2,h3,h4.imp id (fun ⟨b,off,e,hb,hc⟩=>⟨b,off,e,by omega,hc⟩)⟩
   ·exact (((HB.out.trans (HBW.out.mono (by omega))).setCell (by simp) _).setCell (by simp) _).setCell (by simp) _
end Go.Proofs.Ytniloklglpchfaf
