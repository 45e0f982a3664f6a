/- What package fix and its document's answer come to on numbers: Clamp, Add, Sub, Mul, as the plain functions cl, ad, sb, ml; the world is as it was. For every int. -/
import Derived.Test.YtniloklglpchfakGreatRows
import Derived.Test.YtniloklglpchfakGreatPkLvOf
import Derived.StillTailTactics
import Derived.Laws.AppendOwn
import Derived.Shelf.Abstract
import Derived.WalkKit
import Derived.RowKitTokens
import Derived.Laws.AppendOwnNone
namespace Go.Proofs.YtniloklglpchfakGreat
open Go.RowKit
set_option maxHeartbeats 400000 in
theorem clamp_any(x:Int)(w:World):Calls Tryz.prog 74 #[.int .i64 x] w fun e w'=>e=.returned (.int .i64 (cl x))∧w'=w:=by
 by_cases h1:x < -2147483647
 ·rw[cl_lo x h1]
  go_enter Tryz.func74,Tryz.ntmps74
  go_wp2
  go_ret
  exact ⟨rfl,rfl⟩
 ·by_cases h2:2147483647<x
  ·rw[cl_hi x h2]
   go_enter Tryz.func74,Tryz.ntmps74
   go_wp2
   go_ret
   exact ⟨rfl,rfl⟩
  ·rw[cl_in x (by omega) (by omega)]
   go_enter Tryz.func74,Tryz.ntmps74
   go_wp2
   all_goals
    go_ret
    exact ⟨i_ (by omega),rfl⟩
set_option maxHeartbeats 400000 in
theorem add_any(a b:Int)(w:World):Calls Tryz.prog 40 #[.int .i64 a,.int .i64 b] w fun e w'=>e=.returned (.int .i64 (ad a b))∧w'=w:=by
 have ha:=cl_bd a
 have hb:=cl_bd b
 unfold ad
 go_enter Tryz.func40,Tryz.ntmps40
 go_wp2_with (go_at_call 74;refine (clamp_any _ _).mono ?_;rintro e w' ⟨rfl,rfl⟩)
 go_ret
 exact ⟨rfl,rfl⟩
set_option maxHeartbeats 400000 in
theorem sub_any(a b:Int)(w:World):Calls Tryz.prog 73 #[.int .i64 a,.int .i64 b] w fun e w'=>e=.returned (.int .i64 (sb a b))∧w'=w:=by
 have ha:=cl_bd a
 have hb:=cl_bd b
 unfold sb
 go_enter Tryz.func73,Tryz.ntmps73
 go_wp2_with (go_at_call 74;refine (clamp_any _ _).mono ?_;rintro e w' ⟨rfl,rfl⟩)
 go_ret
 exact ⟨rfl,rfl⟩
set_option maxHeartbeats 400000 in
theorem down_any(x:Int)(w:World)(h0:-4611686014132420609≤x)(h1:x≤4611686014132420609):Calls Tryz.prog 75 #[.int .i64 x,.int .i64 256] w fun e w'=>e=.returned (.int .i64 (x / 256))∧w'=w:=by
 go_enter Tryz.func75,Tryz.ntmps75
 go_wp2
 ·go_ret
  exact ⟨i_ (down_lo x h0 h1 (by assumption)),rfl⟩
 ·go_ret
  exact ⟨i_ (down_up x (by assumption)),rfl⟩
set_option maxHeartbeats 400000 in
theorem mul_any(a b:Int)(w:World):Calls Tryz.prog 41 #[.int .i64 a,.int .i64 b] w fun e w'=>e=.returned (.int .i64 (ml a b))∧w'=w:=by
 have ha:=cl_bd a
 have hb:=cl_bd b
 have hm:=mul_bd a b
 unfold ml
 go_enter Tryz.func41,Tryz.ntmps41
 go_wp2_with (first|(go_at_call 74;refine (clamp_any _ _).mono ?_;rintro e w' ⟨rfl,rfl⟩)|(go_at_call 75;refine (down_any _ _ (by omega) (by omega)).mono ?_;rintro e w' ⟨rfl,rfl⟩))
 go_ret
 exact ⟨rfl,rfl⟩
def errV (k:Int):Value:=if k=0 then .nilIface else .iface 94 (.int .i64 k)
theorem R_{k:Int}{v:Value}(h:v=errV k):Ending.returned v=.returned (errV k):=by rw[h]
theorem err_of{k j:Int}(h:j=k)(hj:j≠0):Value.iface 94 (.int .i64 j)=errV k:=by subst h;unfold errV;rw[if_neg hj]
theorem err_no{k:Int}(h:0=k):Value.nilIface=errV k:=by subst h;rfl
theorem ends_iff(x:Int):inEnds x=true↔-2147483647≤x∧x≤2147483647:=by simp[inEnds]
theorem cl_same{x:Int}(h:inEnds x=true):(x !=cl x)=false:=by
 rw[ends_iff]at h;rw[cl_in x h.1 h.2];simp
theorem cl_off{x:Int}(h:inEnds x=false):(x !=cl x)=true:=by
 have h':¬(-2147483647≤x∧x≤2147483647):=fun e=>by rw[(ends_iff x).2 e]at h;cases h
 rw[bne_iff_ne]
 have:=cl_bd x
 omega
set_option maxHeartbeats 1600000 in
set_option maxRecDepth 100000 in
theorem C_(v:Value)(m:Mx)(w:World)(hv:M_ w v m):Calls Tryz.prog 60 #[v] w fun e w'=>e=.returned (errV (q_ m))∧Below w.heap.size w w':=by
 obtain ⟨s,rfl,hs⟩:=hv
 obtain ⟨r,hr⟩:=gN (m.rows)
 obtain ⟨c,hc⟩:=gN (m.cols)
 have hlen:=hs.len
 unfold maxLen at hlen
 rw[hr,hc]
 by_cases hside:r<0∨24<r∨c<0∨12<c
 ·have HF:=h_ (err_of (fault_side (m:=m) (by rw[hr,hc];exact hside)) (by decide))
  clear hs hr hc
  by_cases c1:r<0
  ·clear hside
   go_enter Tryz.func60,Tryz.ntmps60
   go_wp2
   go_ret
   exact ⟨R_ HF.out,o_ _ _⟩
  ·by_cases c2:24<r
   ·clear hside
    go_enter Tryz.func60,Tryz.ntmps60
    go_wp2
    go_ret
    exact ⟨R_ HF.out,o_ _ _⟩
   ·by_cases c3:c<0
    ·clear hside
     go_enter Tryz.func60,Tryz.ntmps60
     go_wp2
     go_ret
     exact ⟨R_ HF.out,o_ _ _⟩
    ·have c4:12<c:=by omega
     clear hside
     go_enter Tryz.func60,Tryz.ntmps60
     go_wp2
     go_ret
     exact ⟨R_ HF.out,o_ _ _⟩
 ·have c1:0≤r:=by omega
  have c2:r≤24:=by omega
  have c3:0≤c:=by omega
  have c4:c≤12:=by omega
  have hbd:=rc_bd r c ⟨c1,c2,c3,c4⟩
  have hok:=fault_in (m:=m) (by rw[hr,hc];exact ⟨c1,c2,c3,c4⟩)
  clear hside
  obtain ⟨a,cap,rfl,h2,h3,h4⟩:=hs
  obtain ⟨n,hn⟩:=gN (m.cells.length)
  rw[hn]at h2 hlen ⊢
  by_cases hl:(n:Int)=r*c
  ·have g1:((n:Int) !=r*c)=false:=by simp[hl]
   have HL:=h_ (show (m.cells.length:Int)=m.rows*m.cols by rw[hn,hr,hc];exact hl)
   have HN:=h_ hn
   have HO:=h_ hok
   have H4:=h_ h4
   have hn288:n≤288:=by omega
   clear hok hl hn hr hc h4
   go_enter Tryz.func60,Tryz.ntmps60
   go_wp2
   go_loop [37] (fun i=>∃k:Nat,k≤n∧i=.int .i64 k∧∀j x,j<k→m.cells[j]?=some x→inEnds x=true) (fun i=>n - (intOf i).toNat)
   case atStart=>exact ⟨0,Nat.zero_le _,rfl,fun j x hj _=>by omega⟩
   case round=>
    obtain ⟨k,hk,rfl,he⟩:=hrel
    have HE:=h_ he
    clear he
    by_cases hlt:k<n
    ·obtain ⟨x,hx⟩:∃x,m.cells[k]?=some x:=⟨m.cells[k]'(by have:=HN.out;omega),List.getElem?_eq_getElem _⟩
     obtain ⟨b,off,rfl,hcl⟩:=H4.out.resolve_left (fun e=>by rw[e]at hx;simp at hx)
     have cx:=fun o=>p_ (hcl k x hx) o
     have HX:=h_ hx
     have hlt':(k:Int)<(n:Int):=by omega
     clear hcl hx
     cases hin:inEnds x with
     |false=>
      have hb:=cl_off hin
      have HI:=h_ hin
      clear hin
      go_wp2_with (go_at_call 74;refine (clamp_any _ _).mono ?_;rintro e w' ⟨rfl,rfl⟩)
      go_ret
      exact ⟨R_ (err_of (fault_cell HO.out HL.out (all_no HX.out HI.out)) (by decide)),o_ _ _⟩
     |true=>
      have hb:=cl_same hin
      have HI:=h_ hin
      clear hin
      go_wp2_with (go_at_call 74;refine (clamp_any _ _).mono ?_;rintro e w' ⟨rfl,rfl⟩)
      go_round
      case rel=>exact ⟨k+1,by omega,by go_num,fun j y hj hy=>by
       rcases Nat.lt_or_ge j k with h|h
       ·exact HE.out j y h hy
       ·have e:y=x:=Option.some.inj (by rw[←hy,show j=k by omega,HX.out])
        rw[e];exact HI.out⟩
      case measure=>simp[intOf];omega
    ·go_wp2
     go_ret
     exact ⟨R_ (err_no (fault_none HO.out HL.out (all_yes fun j x hj hx=>HE.out j x (by have:=HN.out;omega) hx))),o_ _ _⟩
  ·have g1:((n:Int) !=r*c)=true:=by simp[hl]
   have HF:=h_ (err_of (fault_len hok (by rw[hn,hr,hc];exact hl)) (by decide))
   clear hl hok h4 hn hr hc
   go_enter Tryz.func60,Tryz.ntmps60
   go_wp2
   go_ret
   exact ⟨R_ HF.out,o_ _ _⟩
def IsMxs (w:World) (v:Value) (ms:List Mx):Prop:=
 ∃(a:Option Addr) (cap:Nat),v=.slice a ms.length cap∧ms.length≤cap∧cap≤maxLen∧(ms=[]∨∃b off,a=some ⟨b,off,none⟩∧∀i m,ms[i]?=some m→
  ∃s,w.cell? ⟨b,off+i*3,none⟩=some (.int .i64 m.rows)∧w.cell? ⟨b,off+i*3+1,none⟩=some (.int .i64 m.cols)∧w.cell? ⟨b,off+i*3+2,none⟩=some s∧I_ w s m.cells)
theorem c_{w w':World}(hb:Below w.heap.size w w'){p:Addr}{v:Value}(h:w.cell? p=some v):w'.cell? p=some v:=
 (hb.cell (p:=p) (World.block_lt_of_cell? w _ h)).trans h
theorem IsMxs.u_{w w':World}{v:Value}{ms:List Mx}(h:IsMxs w v ms)(hb:Below w.heap.size w w'):IsMxs w' v ms:=by
 obtain ⟨a,cap,h1,h2,h3,h4⟩:=h
 refine ⟨a,cap,h1,h2,h3,h4.imp id ?_⟩
 rintro ⟨b,off,ha,hc⟩
 refine ⟨b,off,ha,fun i m hm=>?_⟩
 obtain ⟨s,c0,c1,c2,hs⟩:=hc i m hm
 exact ⟨s,c_ hb c0,c_ hb c1,c_ hb c2,hs.u_ hb⟩
theorem IsMxs.len{w:World}{v:Value}{zs:List Mx}(h:IsMxs w v zs):zs.length≤maxLen:=by
 obtain ⟨_,_,_,h2,h3,_⟩:=h;omega
theorem I_.shape{w:World}{v:Value}{zs:List Int}(h:I_ w v zs):∃a n cap,v=.slice a n cap:=by
 obtain ⟨a,cap,h1,_⟩:=h;exact ⟨a,_,cap,h1⟩
def faults:List Mx→Int
 |[]=>0
 |m::l=>if q_ m=0 then faults l else q_ m
theorem faults_at{ms:List Mx}:∀{k:Nat} {m:Mx},(∀j x,j<k→ms[j]?=some x→q_ x=0)→ms[k]?=some m→q_ m≠0→q_ m=faults ms:=by
 induction ms with
 |nil=>intro k m _ h;simp at h
 |cons x l ih=>
  intro k m hz h hm
  cases k with
  |zero=>simp at h;subst h;unfold faults;rw[if_neg hm]
  |succ k=>
   unfold faults
   rw[if_pos (hz 0 x (by omega) rfl)]
   exact ih (k:=k) (fun j y (hj:j<k) (hy:l[j]?=some y)=>hz (j+1) y (by omega) (by simpa using hy)) (by simpa using h) hm
theorem faults_no{ms:List Mx}:(∀(j:Nat) x,ms[j]?=some x→q_ x=0)→0=faults ms:=by
 induction ms with
 |nil=>intro _;rfl
 |cons x l ih=>
  intro hz
  unfold faults
  rw[if_pos (hz 0 x rfl)]
  exact ih (fun j y (hy:l[j]?=some y)=>hz (j+1) y (by simpa using hy))
theorem n_{k:Int}(h:k≠0):errV k=.iface 94 (.int .i64 k):=by unfold errV;rw[if_neg h]
theorem e_{k:Int}(h:k=0):errV k=.nilIface:=by unfold errV;rw[if_pos h]
set_option maxHeartbeats 1600000 in
set_option maxRecDepth 100000 in
theorem checks_any(v:Value)(ms:List Mx)(w:World)(hv:IsMxs w v ms):Calls Tryz.prog 93 #[v] w fun e w'=>e=.returned (errV (faults ms))∧Below w.heap.size w w':=by
 have hlen:=hv.len
 unfold maxLen at hlen
 obtain ⟨a,cap,rfl,h2,h3,h4⟩:=hv
 obtain ⟨n,hn⟩:=gN (ms.length)
 have HN:=h_ hn
 have H4:=h_ h4
 rw[hn]at h2 hlen ⊢
 clear hn h4
 go_enter Tryz.func93,Tryz.ntmps93
 go_wp2
 go_loopw [8] (fun i wr=>∃k:Nat,k≤n∧i=.int .i64 k∧Below w.heap.size w wr∧∀j x,j<k→ms[j]?=some x→q_ x=0) (fun i _=>n - (intOf i).toNat)
 case atStart=>exact ⟨0,Nat.zero_le _,rfl,Below.refl _ _,fun j x hj _=>by omega⟩
 case round=>
  obtain ⟨k,hk,rfl,hbw,he⟩:=hrel
  have HE:=h_ he
  have HB:=h_ hbw
  clear he hbw
  by_cases hlt:k<n
  ·obtain ⟨x,hx⟩:∃x,ms[k]?=some x:=⟨ms[k]'(by have:=HN.out;omega),List.getElem?_eq_getElem _⟩
   obtain ⟨b,off,rfl,hcl⟩:=H4.out.resolve_left (fun e=>by rw[e]at hx;simp at hx)
   obtain ⟨s,c0,c1,c2,hs⟩:=hcl k x hx
   obtain ⟨sa,sn,sc,rfl⟩:=hs.shape
   have d0:=c_ HB.out c0
   have d1:=c_ HB.out c1
   have d2:=c_ HB.out c2
   have hm:M_ wr (.agg #[.int .i64 x.rows,.int .i64 x.cols,.slice sa sn sc]) x:=⟨_,rfl,hs.u_ HB.out⟩
   have HM:=h_ hm
   have HX:=h_ hx
   have hlt':(k:Int)<(n:Int):=by omega
   clear hcl hx c0 c1 c2 hs hm
   by_cases hf:q_ x=0
   ·have hC:=fun W (h:Below wr.heap.size wr W)=>C_ _ x W (HM.out.u_ h)
    rw[e_ hf]at hC
    have HC:=h_ hC
    have HF:=h_ hf
    clear hf hC
    go_wp2_with (go_at_call 60;refine (HC.out _ (o_ _ _)).mono ?_;rintro e w1 ⟨rfl,hb1⟩)
    go_roundw
    case rel=>exact ⟨k+1,by omega,by go_num,HB.out.trans ((o_ _ _).trans (hb1.mono (by simp))|>.mono HB.out.size),fun j y hj hy=>by
     rcases Nat.lt_or_ge j k with h|h
     ·exact HE.out j y h hy
     ·have e:y=x:=Option.some.inj (by rw[←hy,show j=k by omega,HX.out])
      rw[e];exact HF.out⟩
    case measure=>simp[intOf];omega
   ·have hC:=fun W (h:Below wr.heap.size wr W)=>C_ _ x W (HM.out.u_ h)
    rw[n_ hf]at hC
    have HC:=h_ hC
    have HF:=h_ hf
    clear hf hC
    go_wp2_with (go_at_call 60;refine (HC.out _ (o_ _ _)).mono ?_;rintro e w1 ⟨rfl,hb1⟩)
    go_ret
    exact ⟨R_ (err_of (faults_at HE.out HX.out HF.out) HF.out),HB.out.trans ((o_ _ _).trans (hb1.mono (by simp))|>.mono HB.out.size)⟩
  ·go_wp2
   go_ret
   exact ⟨R_ (err_no (faults_no fun j x hx=>HE.out j x (by
    have:=HN.out
    rcases Nat.lt_or_ge j k with h|h
    ·exact h
    ·rw[List.getElem?_eq_none (by omega)]at hx;cases hx) hx)),HB.out⟩
theorem infoInt:(Tryz.prog.info? 3).map (fun i=>(i.zero,i.size,i.bytes))=some (some (.int .i64 0),1,8):=by kernel_rfl
def zeros (n:Nat):Array Value:=madeCells #[.int .i64 0] n
theorem zeros_row(w:World)(n:Nat):RowAt 3 (w.alloc (.cells (zeros n) 3)) w.heap.size (tab n (fun _=>0)):=by
 unfold RowAt
 rw[heap_alloc_new]
 congr 2
 rw[←Array.toList_inj]
 unfold zeros
 rw[toList_madeCells_one,tab_zero];simp
theorem run_mk(L:Int)(n:Nat)(hL:L=(n:Int))(hn:n≤82944)(W:World):(Instr.makeSlice 26 (.int .i64 L) (.int .i64 L)).run Tryz.prog W=.ok (.slice (some ⟨W.heap.size,0,none⟩) n n) (W.alloc (.cells (zeros n) 3)):=by
 obtain ⟨i0,hi,hz0,hz1,hz2⟩:=info_parts infoInt
 subst hL
 have hr:=run_make (P:=Tryz.prog) W 26 3 i0 (.int .i64 0) Tryz.underlying26 hi hz0 .i64 .i64 (n:Int) (n:Int) (by omega) (Int.le_refl _) (by rw[hz2];omega) (by omega)
 simpa [zeros,hz1,Value.cells] using hr
theorem region_tail{P:Program}{id:Nat}{Q:Exit→Act→World→Prop}{a:Act}{w:World}{l:List Oper}(n:Nat)(hm:P.follows .mixedOrders=true)(hB:Region.lexTailB .any l.toArray n=true)
  (h:wpStill P l.toArray w.drew (fun a'=>wpList P l.toArray Q (l.drop n) a' w.drew) (l.take n) a):(Code.region id l.toArray true).wp P Q a w:=wp_region_still_tail n hm hB h
def Gives (K:Nat) (cap:Array Value) (R C:Nat) (f:Nat→Nat→Int) (w:World):Prop:=
 ∀(W:World) (i j:Nat) (xi xj:Int),xi=(i:Int)→xj=(j:Int)→i<R→j<C→Below w.heap.size w W→Calls Tryz.prog K (#[.int .i64 xi,.int .i64 xj]++cap) W fun e w'=>e=.returned (.int .i64 (f i j))∧Below W.heap.size W w'
theorem run_mk0(L:Int)(n:Nat)(hL:L=(n:Int))(hn:n≤82944)(W:World):(Instr.makeSlice 26 (.int .i64 0) (.int .i64 L)).run Tryz.prog W=.ok (.slice (some ⟨W.heap.size,0,none⟩) 0 n) (W.alloc (.cells (zeros n) 3)):=by
 obtain ⟨i0,hi,hz0,hz1,hz2⟩:=info_parts infoInt
 subst hL
 have hr:=run_make (P:=Tryz.prog) W 26 3 i0 (.int .i64 0) Tryz.underlying26 hi hz0 .i64 .i64 (0:Int) (n:Int) (by omega) (by omega) (by rw[hz2];omega) (by omega)
 simpa [zeros,hz1,Value.cells] using hr
theorem tab_succ(n:Nat)(f:Nat→Int):tab (n+1) f=tab n f++[f n]:=by simp[tab,List.range_succ]
theorem zeros_size(n:Nat):(zeros n).size=n*1:=by
 unfold zeros;rw[←Array.length_toList,toList_madeCells_one];simp
def Own (w:World) (base:Nat) (v:Value) (n:Nat) (f:Nat→Int):Prop:=w.ownsRow base 3 1 v n ((tab n f).map (Value.int .i64))
def NewInts (base:Nat) (w:World) (v:Value) (zs:List Int):Prop:=
 ∃(a:Option Addr) (cap:Nat),v=.slice a zs.length cap∧zs.length≤cap∧cap≤maxLen∧(zs=[]∨∃b off,a=some ⟨b,off,none⟩∧base≤b∧∀i x,zs[i]?=some x→w.cell? ⟨b,off+i,none⟩=some (.int .i64 x))
theorem NewInts.isInts{base:Nat}{w:World}{v:Value}{zs:List Int}(h:NewInts base w v zs):I_ w v zs:=by
 obtain ⟨a,cap,h1,h2,h3,h4⟩:=h
 exact ⟨a,cap,h1,h2,h3,h4.imp id (fun ⟨b,off,e,_,hc⟩=>⟨b,off,e,hc⟩)⟩
theorem NewInts.set{base:Nat}{w:World}{v:Value}{zs:List Int}(h:NewInts base w v zs){B:Nat}(hB:B<base)(q:Nat)(u:Value):NewInts base (w.setCell ⟨B,q,none⟩ u) v zs:=by
 obtain ⟨a,cap,h1,h2,h3,h4⟩:=h
 refine ⟨a,cap,h1,h2,h3,h4.imp id (fun ⟨b,off,e,hb,hc⟩=>⟨b,off,e,hb,fun i x hx=>cell_other (hc i x hx) (by show b≠B;omega) q u⟩)⟩
theorem Own.newInts{w:World}{base:Nat}{v:Value}{n:Nat}{f:Nat→Int}(h:Own w base v n f)(hm:n≤maxLen):NewInts base w v (tab n f):=by
 have hc:=fun g e=>World.ownsRow.cells h (g:=g) e
 obtain ⟨h1,h2⟩:=h
 rcases h2 with ⟨rfl,rfl⟩|⟨g,cap,cur,rfl,hg,_,h3,h4,_,_⟩
 ·exact ⟨none,0,rfl,Nat.le_refl _,Nat.zero_le _,.inl rfl⟩
 ·refine ⟨some ⟨g,0,none⟩,cap,by rw[tab_len],by rw[tab_len];exact h3,h4,.inr ⟨g,0,rfl,hg,fun i x hx=>?_⟩⟩
  have:=hc g rfl i (.int .i64 x) (by simp[hx])
  rw[Addr.add_lit]at this;exact this
theorem Own.isInts{w:World}{base:Nat}{v:Value}{n:Nat}{f:Nat→Int}(h:Own w base v n f)(hm:n≤maxLen):I_ w v (tab n f):=by
 have hc:=fun g e=>World.ownsRow.cells h (g:=g) e
 obtain ⟨h1,h2⟩:=h
 rcases h2 with ⟨rfl,rfl⟩|⟨g,cap,cur,rfl,_,_,h3,h4,_,_⟩
 ·exact I_.nil w
 ·refine ⟨some ⟨g,0,none⟩,cap,by rw[tab_len],by rw[tab_len];exact h3,h4,.inr ⟨g,0,rfl,fun i x hx=>?_⟩⟩
  have:=hc g rfl i (.int .i64 x) (by simp[hx])
  rw[Addr.add_lit]at this;exact this
theorem Own.alloc{w:World}{base:Nat}{v:Value}{n:Nat}{f:Nat→Int}(h:Own w base v n f)(o:Obj):Own (w.alloc o) base v n f:=World.ownsRow.alloc h o
theorem Own.u_{w w':World}{base:Nat}{v:Value}{n:Nat}{f:Nat→Int}(h:Own w base v n f)(hb:Below w.heap.size w w'):Own w' base v n f:=by
 refine World.ownsRow.kept (row:=none) h ⟨hb.os,hb.tape,hb.output,hb.size,fun k hk _=>hb.block k hk⟩ ?_
 cases e:v.ownBlock with
 |none=>exact .inl rfl
 |some k=>exact .inr (by simp)
set_option maxHeartbeats 1600000 in
set_option maxRecDepth 100000 in
theorem fill_any(K:Nat)(cap:Array Value)(eg:∀args w,(callFunc K args).run Tryz.prog w=.ok (.enter K args) w)(R C:Nat)(r c:Int)(hr:r=(R:Int))(hc:c=(C:Int))(hR:R≤24)(hC:C≤24)(f:Nat→Nat→Int)(w:World)(hG:Gives K cap R C f w):
  Calls Tryz.prog 94 #[.int .i64 r,.int .i64 c,.func (.func K) #[] cap] w fun e w'=>
   ∃a n k,e=.returned (.agg #[.int .i64 r,.int .i64 c,.slice a n k])∧NewInts w.heap.size w' (.slice a n k) (tab (R*C) (fun q=>f (q / C) (q % C)))∧Below w.heap.size w w':=by
 have HG:=h_ hG
 have Hr:=h_ hr
 have Hc:=h_ hc
 have t1:=mul_bds hr hc hR hC
 have u1:=wrap_in (x:=r*c) (by omega) (by omega)
 obtain ⟨N,hN⟩:=gN (R*C)
 have hN576:N≤576:=by have:=Nat.mul_le_mul hR hC;omega
 have hmk:=run_mk0 (r*c) N (by rw[hr,hc,←hN];simp) (by omega)
 have HN:=h_ hN
 clear hG hr hc hN
 obtain ⟨W1,hW1⟩:=gM (w.alloc (.cells #[.int .i64 0,.int .i64 0,.slice none 0 0] 28))
 have hW1s:W1.heap.size=w.heap.size+1:=by rw[hW1];simp
 have hW1b:Below w.heap.size w W1:=by rw[hW1];exact o_ _ _
 have hown0:Own (W1.alloc (.cells (zeros N) 3)) (w.heap.size+1) (.slice (some ⟨W1.heap.size,0,none⟩) 0 N) 0 (fun q=>f (q / C) (q % C)):=World.ownsRow_made _ _ _ (by omega) (by unfold maxLen;omega) (zeros_size N)
 have q0:W1.cell? ⟨w.heap.size,0,none⟩=some (.int .i64 0):=by rw[hW1];simp
 have q1:W1.cell? ⟨w.heap.size,1,none⟩=some (.int .i64 0):=by rw[hW1];simp
 have q2:W1.cell? ⟨w.heap.size,2,none⟩=some (.slice none 0 0):=by rw[hW1];simp
 have qf:∀j,W1.frozen? ⟨w.heap.size,j,none⟩=false:=fun j=>by rw[hW1];simp
 have HQ:=h_ (And.intro q0 (And.intro q1 q2))
 have HQF:=h_ qf
 have HO:=h_ hown0
 have HB:=h_ hW1b
 have HS:=h_ hW1s
 clear q0 q1 q2 qf hown0 hW1b
 go_enter Tryz.func94,Tryz.ntmps94
 go_wp2_with fail
 rw[←hW1]
 clear hW1
 go_wp2
 have hgoal:=HO.out
 rw[hW1s]at hgoal
 have HO1:=h_ hgoal
 clear hgoal hW1s hmk
 go_loopw [7,15] (fun v a wr=>∃(i:Nat) (xi:Int),i≤R∧xi=(i:Int)∧a=.int .i64 xi∧Own wr (w.heap.size+1) v (i*C) (fun q=>f (q / C) (q % C))∧Below (w.heap.size+1) W1 wr) (fun _ a _=>R - (intOf a).toNat)
 case atStart=>exact ⟨0,0,Nat.zero_le _,rfl,rfl,by rw[Nat.zero_mul];exact HO1.out,(Below.refl _ _).alloc (by have:=HS.out;omega) _⟩
 case round=>
  obtain ⟨i,xi,hi,hxi,rfl,hro,hbw⟩:=hrel
  have HRO:=h_ hro
  have HBW:=h_ hbw
  have HXI:=h_ hxi
  have hxi0:0≤xi:=by omega
  have hxi1:xi≤24:=by omega
  clear hro hbw hxi
  by_cases hlt:xi<r
  ·have hiR:i<R:=by have:=HXI.out;have:=Hr.out;omega
   go_wp2
   go_loopw [7,19] (fun v a wr=>∃(j:Nat) (xj:Int),j≤C∧xj=(j:Int)∧a=.int .i64 xj∧Own wr (w.heap.size+1) v (i*C+j) (fun q=>f (q / C) (q % C))∧Below (w.heap.size+1) W1 wr) (fun _ a _=>C - (intOf a).toNat)
   case atStart=>exact ⟨0,0,Nat.zero_le _,rfl,rfl,HRO.out,HBW.out⟩
   case round=>
    obtain ⟨j,xj,hj,hxj,rfl,hro,hbw⟩:=hrel
    have HRO2:=h_ hro
    have HBW2:=h_ hbw
    have HXJ:=h_ hxj
    have hxj0:0≤xj:=by omega
    have hxj1:xj≤24:=by omega
    clear hro hbw hxj
    by_cases hjc:xj<c
    ·have hjC:j<C:=by have:=HXJ.out;have:=Hc.out;omega
     have hcall:=HG.out wr i j xi xj HXI.out HXJ.out hiR hjC (HB.out.trans (HBW2.out.mono (by omega)))
     have hidx:=idx_lt hiR hjC
     obtain ⟨e0,ei,hz0,hz1,hz2⟩:=info_parts infoInt
     have HE:=h_ (And.intro ei (And.intro hz0 (And.intro hz1 hz2)))
     clear ei hz0 hz1 hz2
     go_wp2_with (first
      |(at_builtin;refine wpList_append_own _ rfl _ _ 26 rfl (w.heap.size+1) 3 e0 (.int .i64 0) 1 8 Tryz.underlying26 HE.out.1 HE.out.2.1 HE.out.2.2.1 HE.out.2.2.2 rfl (by decide) _ _ _ rfl ((HRO2.out.u_ hb1).alloc _) ⟨w1.heap.size,0,none⟩ 1 1 [.int .i64 (f i j)] rfl rfl ?c1 ?c2 ?c3 ?c4 ?c5 ?_)
      |(go_at_fn K;refine hcall.mono ?_;rintro e w1 ⟨rfl,hb1⟩))
     case c1=>
      intro k u hk
      match k,hk with
      |0,hk=>simp at hk;subst hk;simp[Addr.add]
     case c2=>intro u hu;simp at hu;subst hu;rfl
     case c3=>have:=HN.out;unfold maxLen;omega
     case c4=>have:=HN.out;omega
     case c5=>have:=HBW2.out.size;have:=hb1.size;have:=HS.out;simp;omega
     intro v' w' hown' hgrow _
     have hown2:Own w' (w.heap.size+1) v' (i*C+(j+1)) (fun q=>f (q / C) (q % C)):=by
      obtain ⟨e1,e2⟩:=at_div (R:=C) (i:=j) (j:=i) hjC
      show w'.ownsRow _ _ _ _ _ _
      rw[←Nat.add_assoc,tab_succ,List.map_append]
      simp only[e1,e2]
      exact hown'
     have hbel2:Below (w.heap.size+1) W1 w':=by
      have s1:=HBW2.out.size
      have s2:=HS.out
      have s3:=hb1.size
      exact ((HBW2.out.trans (hb1.mono (by omega))).alloc (by omega) _).grown hgrow (by simp;omega) (fun k hk=>(World.ownsRow.lt HRO2.out k hk).1)
     have HO2:=h_ hown2
     have HB2:=h_ hbel2
     clear hown' hgrow hown2 hbel2 hcall
     go_wp2
     go_roundw
     case rel=>exact ⟨j+1,_,by omega,by have:=HXJ.out;omega,rfl,HO2.out,HB2.out⟩
     case measure=>have:=HXJ.out;simp[intOf];omega
    ·go_wp2
     go_roundw
     case rel=>exact ⟨i+1,_,by omega,by have:=HXI.out;omega,rfl,by have h:=HRO2.out;rw[show j=C by have:=HXJ.out;have:=Hc.out;omega,←Nat.succ_mul]at h;exact h,HBW2.out⟩
     case measure=>have:=HXI.out;simp[intOf];omega
  ·have hiR:i=R:=by have:=HXI.out;have:=Hr.out;omega
   have p0:=(HBW.out.cell (p:=⟨w.heap.size,0,none⟩) (by simp)).trans HQ.out.1
   have p1:=(HBW.out.cell (p:=⟨w.heap.size,1,none⟩) (by simp)).trans HQ.out.2.1
   have p2:=(HBW.out.cell (p:=⟨w.heap.size,2,none⟩) (by simp)).trans HQ.out.2.2
   have z0:=(HBW.out.frozen (p:=⟨w.heap.size,0,none⟩) (by simp)).trans (HQF.out 0)
   have z1:=(HBW.out.frozen (p:=⟨w.heap.size,1,none⟩) (by simp)).trans (HQF.out 1)
   have z2:=(HBW.out.frozen (p:=⟨w.heap.size,2,none⟩) (by simp)).trans (HQF.out 2)
   have hI:=HRO.out.isInts (by rw[hiR];have:=HN.out;unfold maxLen;omega)
   obtain ⟨sa,sn,sc,rfl⟩:=hI.shape
   have HI:=h_ hI
   have HIR:=h_ hiR
   clear hI hiR
   go_wp2
   refine bodyPost_ret (v:=.agg #[.int .i64 r,.int .i64 c,.slice sa sn sc]) (by simp[results,Tryz.results94,go_sem,p0,p1,p2]) rfl ⟨sa,sn,sc,rfl,?_,?_⟩
   ·have h:=World.ownsRow.kept (row:=some w.heap.size) HRO.out (w_ (w_ (w_ (World.grownBy.refl wr (some w.heap.size)) 0 (.int .i64 r)) 1 (.int .i64 c)) 2 (.slice sa sn sc)) (by
     cases e:(Value.slice sa sn sc).ownBlock with
     |none=>exact .inl rfl
     |some k=>exact .inr (fun e'=>by have:=(World.ownsRow.lt HRO.out k e).1;have:=Option.some.inj e';omega))
    have h':=Own.newInts (f:=fun q=>f (q / C) (q % C)) h (by rw[HIR.out];have:=HN.out;unfold maxLen;omega)
    rw[HIR.out]at h'
    obtain ⟨a,cap,h1,h2,h3,h4⟩:=h'
    exact ⟨a,cap,h1,h2,h3,h4.imp id (fun ⟨b,off,e,hb,hc⟩=>⟨b,off,e,by omega,hc⟩)⟩
   ·exact (((HB.out.trans (HBW.out.mono (by omega))).setCell (by simp) _).setCell (by simp) _).setCell (by simp) _
theorem append_wh{P:Program}{w:World}(base:Nat)(t ty e:TypeId)(i:TypeInfo)(z:Value)(size bytes:Nat)(ht:P.underlying t=some (.slice e))(hi:P.info? e=some i)(hz:i.zero=some z)
  (hsize:i.size=size) (hby:i.bytes=bytes) (hzs:z.cells.size=size) (hsz:0<size) (v:Value) (n:Nat) (xs:List Value) (hown:w.ownsRow base e size v n xs)
  (a:Addr) (m c:Nat) (news:List Value) (hl:news.length=m*size) (hnews:∀j u,news[j]?=some u→w.cell? (a.add j)=some u) (h1:∀u∈news,u.oneCell'=true)
  (h63:n+m≤maxLen) (hbytes:(n+m)*bytes≤140737488355328) (hbase:base≤w.heap.size):
  ∃v' w',(Builtin.append_ #[t,t] ty #[v,.slice (some a) m c]).run P w=.ok v' w'∧w'.ownsRow base e size v' (n+m) (xs++news)∧w.grownBy w' v.ownBlock∧(v'.ownBlock=v.ownBlock∨v'.ownBlock=some w.heap.size):=by
 obtain ⟨v',w',hr,h2,h3,h4⟩:=run_append_own (P:=P) w base t ty e i z size bytes ht hi hz hsize hby hzs hsz v n xs hown a m c news hl hnews h1 h63 hbytes hbase
 refine ⟨v',w',hr,h2,h3,?_⟩
 subst hsize hby
 have hsmall:n+m≤9223372036854775807:=by simp only[maxLen]at h63;omega
 rcases hown.2 with ⟨rfl,rfl⟩|⟨g,cap,cur,rfl,hbg,hg,hnc,hcm,hcs,htake⟩
 ·by_cases hm:m=0
  ·rw[h4.2 ⟨rfl,hm⟩];exact .inl rfl
  ·have hr':=run_append_nil (P:=P) w t ty e i z ht hi hz a m c news hl hnews (by omega) (by omega) (by have hb:=hbytes;simp only[Nat.zero_add]at hb;omega)
   have e:=hr.symm.trans hr'
   injection e with e1 _
   rw[e1];exact .inr rfl
 ·by_cases hroom:n+m≤cap
  ·have hfit:n*i.size+news.length≤cur.size:=by rw[hl,hcs,←Nat.add_mul];exact Nat.mul_le_mul_right _ hroom
   have hr':=run_append_room (P:=P) w t ty e i ht hi g n cap cur hg a m c news hl hnews h1 hroom hfit
   have e:=hr.symm.trans hr'
   injection e with e1 _
   rw[e1];exact .inl rfl
  ·have hr':=run_append_grow (P:=P) w t ty e i z ht hi hz ⟨g,0,none⟩ n cap xs hown.1 (hown.cells (g:=g) rfl) a m c news hl hnews (by omega) (by omega) (growslice_fits (by omega) hbytes)
   have e:=hr.symm.trans hr'
   injection e with e1 _
   rw[e1];exact .inr rfl
theorem wpList_append_wh{P:Program}{w:World}{ops:Array Oper}{rest:List Oper}{o:Oper}{a:Act}{Q:Exit→Act→World→Prop}(hgd:o.guard=none)(s x:Operand)(t:TypeId)
  (ho:o.op=.call { callee:=.builtin .append,args:=#[s,x],argTypes:=#[t,t] })
  (base:Nat) (e:TypeId) (i:TypeInfo) (z:Value) (size bytes:Nat) (ht:P.underlying t=some (.slice e)) (hi:P.info? e=some i) (hz:i.zero=some z)
  (hsize:i.size=size) (hby:i.bytes=bytes) (hzs:z.cells.size=size) (hsz:0<size)
  (v:Value) (n:Nat) (xs:List Value) (hs:a.eval s=v) (hown:w.ownsRow base e size v n xs)
  (ad:Addr) (m c:Nat) (news:List Value) (hx:a.eval x=.slice (some ad) m c) (hl:news.length=m*size) (hnews:∀j u,news[j]?=some u→w.cell? (ad.add j)=some u) (h1:∀u∈news,u.oneCell'=true)
  (h63:n+m≤maxLen) (hbytes:(n+m)*bytes≤140737488355328) (hbase:base≤w.heap.size)
  (h:∀v' w',w'.ownsRow base e size v' (n+m) (xs++news)→w.grownBy w' v.ownBlock→(v'.ownBlock=v.ownBlock∨v'.ownBlock=some w.heap.size)→wpList P ops Q rest (a.put o.dst v') w'):wpList P ops Q (o::rest) a w:=by
 obtain ⟨v',w',hr,h3,h4,h5⟩:=append_wh (P:=P) base t o.type e i z size bytes ht hi hz hsize hby hzs hsz v n xs hown ad m c news hl hnews h1 h63 hbytes hbase
 refine wpList_plain hgd fun K hK=>?_
 unfold Oper.wp execOp
 simp only[ho,resolve,invoke,builtin,Sem.run_bind,Sem.run_pure,Result.andThen_ok,List.map_toArray,List.map_cons,List.map_nil,hs,hx,hr]
 exact hK _ _ (h v' w' h3 h4 h5)
theorem bel_on{w u v:World}(h:Below w.heap.size w u)(k:Below u.heap.size u v):Below w.heap.size w v:=h.trans (k.mono h.size)
def IsBys (w:World) (v:Value) (l:List Int):Prop:=
 ∃(a:Option Addr) (cap:Nat),v=.slice a l.length cap∧l.length≤cap∧cap≤maxLen∧(∀x∈l,0≤x∧x<256)∧(l=[]∨∃b off,a=some ⟨b,off,none⟩∧∀i x,l[i]?=some x→w.cell? ⟨b,off+i,none⟩=some (.int .u8 x))
theorem IsBys.u_{w w':World}{v:Value}{l:List Int}(h:IsBys w v l)(hb:Below w.heap.size w w'):IsBys w' v l:=by
 obtain ⟨a,cap,h1,h2,h3,h5,h4⟩:=h
 refine ⟨a,cap,h1,h2,h3,h5,h4.imp id ?_⟩
 rintro ⟨b,off,ha,hc⟩
 exact ⟨b,off,ha,fun i x hx=>(hb.cell (World.block_lt_of_cell? w _ (hc i x hx))).trans (hc i x hx)⟩
theorem IsBys.len{w:World}{v:Value}{l:List Int}(h:IsBys w v l):l.length≤maxLen:=by obtain ⟨_,_,_,h2,h3,_⟩:=h;omega
theorem IsBys.shape{w:World}{v:Value}{l:List Int}(h:IsBys w v l):∃a k,v=.slice a l.length k:=by obtain ⟨a,cap,h1,_⟩:=h;exact ⟨a,cap,h1⟩
theorem IsBys.nil(w:World):IsBys w (.slice none 0 0) []:=⟨none,0,rfl,Nat.le_refl _,Nat.zero_le _,fun x h=>by simp at h,.inl rfl⟩
theorem infoByte:(Tryz.prog.info? 5).map (fun i=>(i.zero,i.size,i.bytes))=some (some (.int .u8 0),1,1):=by kernel_rfl
def OwnY (w:World) (base:Nat) (v:Value) (l:List Int):Prop:=w.ownsRow base 5 1 v l.length (l.map (Value.int .u8))∧∀x∈l,0≤x∧x<256
theorem OwnY.nil(w:World)(base:Nat):OwnY w base (.slice none 0 0) []:=⟨World.ownsRow_nil _ _ _ _,fun x h=>by simp at h⟩
theorem OwnY.u_{w w':World}{base:Nat}{v:Value}{l:List Int}(h:OwnY w base v l)(hb:Below w.heap.size w w'):OwnY w' base v l:=by
 refine ⟨World.ownsRow.kept (row:=none) h.1 ⟨hb.os,hb.tape,hb.output,hb.size,fun k hk _=>hb.block k hk⟩ ?_,h.2⟩
 cases e:v.ownBlock with
 |none=>exact .inl rfl
 |some k=>exact .inr (by simp)
theorem OwnY.isBys{w:World}{base:Nat}{v:Value}{l:List Int}(h:OwnY w base v l):IsBys w v l:=by
 have hc:=fun g e=>World.ownsRow.cells h.1 (g:=g) e
 obtain ⟨⟨h1,h2⟩,h5⟩:=h
 rcases h2 with ⟨rfl,e⟩|⟨g,cap,cur,rfl,_,_,h3,h4,_,_⟩
 ·obtain rfl:l=[]:=List.eq_nil_of_length_eq_zero e
  exact IsBys.nil w
 ·refine ⟨some ⟨g,0,none⟩,cap,rfl,h3,h4,h5,.inr ⟨g,0,rfl,fun i x hx=>?_⟩⟩
  have:=hc g rfl i (.int .u8 x) (by simp[hx])
  rw[Addr.add_lit]at this
  exact this
theorem OwnY.lit(w:World)(l:List Int)(hl:l.length≤1000)(hb:∀x∈l,0≤x∧x<256):OwnY (w.alloc (.cells (l.map (Value.int .u8)).toArray 5)) w.heap.size (.slice (some ⟨w.heap.size,0,none⟩) l.length l.length) l:=
 ⟨⟨by simp,.inr ⟨w.heap.size,l.length,(l.map (Value.int .u8)).toArray,rfl,Nat.le_refl _,heap_alloc_new w _,Nat.le_refl _,by unfold maxLen;omega,by simp,by rw[List.take_of_length_le (by simp)]⟩⟩,hb⟩
theorem OwnY.base{w:World}{base base':Nat}{v:Value}{l:List Int}(h:OwnY w base v l)(hb:base'≤base):OwnY w base' v l:=by
 refine ⟨⟨h.1.1,?_⟩,h.2⟩
 rcases h.1.2 with q|⟨g,cap,cur,q1,q2,q3⟩
 ·exact .inl q
 ·exact .inr ⟨g,cap,cur,q1,Nat.le_trans hb q2,q3⟩
def AsideY (w w':World) (v s:Value):Prop:=∀B,B<w.heap.size→v.ownBlock≠some B→w'.heap[B]?=w.heap[B]?∧s.ownBlock≠some B
theorem AsideY.refl(w:World)(v:Value):AsideY w w v v:=fun _ _ h=>⟨rfl,h⟩
theorem AsideY.trans{w w1 w2:World}{v s t:Value}(h:AsideY w w1 v s)(hs:w.heap.size≤w1.heap.size)(k:AsideY w1 w2 s t):AsideY w w2 v t:=fun B hB hne=>by
 obtain ⟨h1,h2⟩:=h B hB hne
 obtain ⟨k1,k2⟩:=k B (Nat.lt_of_lt_of_le hB hs) h2
 exact ⟨k1.trans h1,k2⟩
theorem AsideY.u_{w w1:World}{N:Nat}{v:Value}(h:Below N w w1)(hN:w.heap.size≤N):AsideY w w1 v v:=fun B hB hne=>⟨h.block B (Nat.lt_of_lt_of_le hB hN),hne⟩
theorem app_bysW{w:World}{ops:Array Oper}{rest:List Oper}{o:Oper}{a:Act}{Q:Exit→Act→World→Prop}(hgd:o.guard=none)(s x:Operand)
  (ho:o.op=.call { callee:=.builtin .append,args:=#[s,x],argTypes:=#[114,114] }) (base:Nat) (v u:Value) (ys zs:List Int) (hs:a.eval s=v) (hown:OwnY w base v ys) (hx:a.eval x=u) (hu:IsBys w u zs) (hn:NilOk u)
  (hsm:ys.length+zs.length≤140737488355328) (hbase:base≤w.heap.size)
  (h:∀v' w',OwnY w' base v' (ys++zs)→(∀w0:World,Below w0.heap.size w0 w→w0.heap.size≤base→Below w0.heap.size w0 w')→AsideY w w' v v'→w.heap.size≤w'.heap.size→wpList Tryz.prog ops Q rest (a.put o.dst v') w'):wpList Tryz.prog ops Q (o::rest) a w:=by
 obtain ⟨e0,ei,hz0,hz1,hz2⟩:=info_parts infoByte
 obtain ⟨ad,cap,rfl,h2,h3,h5,h4⟩:=hu
 have hbb:∀x∈ys++zs,0≤x∧x<256:=fun x hx=>by
  rcases List.mem_append.1 hx with q|q
  ·exact hown.2 x q
  ·exact h5 x q
 cases ad with
 |none=>
  obtain ⟨q1,q2⟩:=hn _ _ rfl
  obtain rfl:zs=[]:=List.eq_nil_of_length_eq_zero q1
  subst q2
  refine wpList_append_own_none hgd s x 114 ho base 5 e0 1 Tryz.underlying114 ei v _ _ hs hown.1 hx ?_
  refine h v w (by rw[List.append_nil];exact hown) (fun w0 hb _=>hb) (AsideY.refl _ _) (Nat.le_refl _)
 |some ad=>
  refine wpList_append_wh (w:=w) hgd s x 114 ho base 5 e0 (.int .u8 0) 1 1 Tryz.underlying114 ei hz0 hz1 hz2 rfl (by decide) v _ _ hs hown.1 ad zs.length cap (zs.map (Value.int .u8)) hx (by simp) ?_ ?_ (by unfold maxLen;omega) (by omega) hbase ?_
  ·intro j u' hj
   rcases h4 with rfl|⟨b,off,e,hc⟩
   ·simp at hj
   ·obtain rfl:=Option.some.inj e
    rw[List.getElem?_map]at hj
    cases hz:zs[j]? with
    |none=>rw[hz]at hj;cases hj
    |some y=>
     rw[hz]at hj
     obtain rfl:u'=.int .u8 y:=(Option.some.inj hj).symm
     rw[Addr.add_lit]
     exact hc j y hz
  ·intro u' hu'
   obtain ⟨y,_,rfl⟩:=List.mem_map.1 hu'
   rfl
  ·intro v' w' ho' hg hw
   refine h v' w' ⟨?_,hbb⟩ (fun w0 hb hle=>hb.grown hg hb.size (fun k hk=>Nat.le_trans hle (World.ownsRow.lt hown.1 k hk).1)) (fun B hB hne=>⟨hg.block B hB (fun e=>hne e.symm),fun e=>?_⟩) hg.size
   ·rw[List.length_append,List.map_append]
    exact ho'
   ·rcases hw with q|q
    ·exact hne (q▸e)
    ·rw[q]at e;have:=Option.some.inj e;omega
theorem app_bys{w:World}{ops:Array Oper}{rest:List Oper}{o:Oper}{a:Act}{Q:Exit→Act→World→Prop}(hgd:o.guard=none)(s x:Operand)
  (ho:o.op=.call { callee:=.builtin .append,args:=#[s,x],argTypes:=#[114,114] }) (base:Nat) (v u:Value) (ys zs:List Int) (hs:a.eval s=v) (hown:OwnY w base v ys) (hx:a.eval x=u) (hu:IsBys w u zs) (hn:NilOk u)
  (hsm:ys.length+zs.length≤140737488355328) (hbase:base≤w.heap.size)
  (h:∀v' w',OwnY w' base v' (ys++zs)→(∀w0:World,Below w0.heap.size w0 w→w0.heap.size≤base→Below w0.heap.size w0 w')→wpList Tryz.prog ops Q rest (a.put o.dst v') w'):wpList Tryz.prog ops Q (o::rest) a w:=
 app_bysW hgd s x ho base v u ys zs hs hown hx hu hn hsm hbase fun v' w' h1 h2 _ _=>h v' w' h1 h2
theorem grw_set(W:World)(b q:Nat)(v:Value):W.grownBy (W.setCell ⟨b,q,none⟩ v) (some b):=
 ⟨rfl,rfl,rfl,by simp[World.setCell],fun k _ hk=>Below.heap_setCell _ _ _ k (fun e=>hk (by rw[e]))⟩
def Blk5 (w:World) (B:Nat) (x0 x1 x2 x3 x4:Value):Prop:=w.heap[B]?=some (.cells #[x0,x1,x2,x3,x4] 63 (0,0))
theorem Blk5.lt{w:World}{B:Nat}{x0 x1 x2 x3 x4:Value}(h:Blk5 w B x0 x1 x2 x3 x4):B<w.heap.size:=(Array.getElem?_eq_some_iff.1 h).1
theorem Blk5.c{w:World}{B:Nat}{x0 x1 x2 x3 x4:Value}(h:Blk5 w B x0 x1 x2 x3 x4):w.cell? ⟨B,0,none⟩=some x0∧w.cell? ⟨B,1,none⟩=some x1∧w.cell? ⟨B,2,none⟩=some x2∧w.cell? ⟨B,3,none⟩=some x3∧w.cell? ⟨B,4,none⟩=some x4:=by
 refine ⟨?_,?_,?_,?_,?_⟩<;>(rw[Joins.cell_of_block h];rfl)
theorem Blk5.f{w:World}{B:Nat}{x0 x1 x2 x3 x4:Value}(h:Blk5 w B x0 x1 x2 x3 x4)(i:Nat):w.frozen? ⟨B,i,none⟩=false:=Joins.unfrozen_of_block h i
theorem Blk5.bel{w w':World}{N B:Nat}{x0 x1 x2 x3 x4:Value}(h:Blk5 w B x0 x1 x2 x3 x4)(hb:Below N w w')(hB:B<N):Blk5 w' B x0 x1 x2 x3 x4:=(hb.block B hB).trans h
theorem Blk5.new(w:World)(x0 x1 x2 x3 x4:Value):Blk5 (w.alloc (.cells #[x0,x1,x2,x3,x4] 63)) w.heap.size x0 x1 x2 x3 x4:=heap_alloc_new w _
theorem Blk5.set4{w:World}{B:Nat}{x0 x1 x2 x3 x4:Value}(h:Blk5 w B x0 x1 x2 x3 x4)(y:Value):Blk5 (w.setCell ⟨B,4,none⟩ y) B x0 x1 x2 x3 y:=by
 unfold Blk5
 rw[Joins.block_setCell h]
 rfl
theorem elemBy:Tryz.prog.underlying 114=some (.slice (Tryz.prog.elem 114)):=by kernel_rfl
theorem sizeBy(w:World):(Go.sizeOf (Tryz.prog.elem 114)).run Tryz.prog w=.ok 1 w:=by kernel_rfl
theorem by_h{w:World}{a:Option Addr}{n cap:Nat}{l:List Int}(h:IsBys w (.slice a n cap) l)(m:Nat)(hi:Int)(hhi:hi=(m:Int))(hm:m≤l.length):
  ∃a' n' c',(∀W,(Instr.slice 114 (.slice a n cap) none (some (.int .i64 hi)) none).run Tryz.prog W=.ok (.slice a' n' c') W)∧IsBys w (.slice a' n' c') (l.take m):=by
 obtain ⟨a0,cap0,e,h2,h3,h5,h4⟩:=h
 injection e with e1 e2 e3
 subst e1 e2 e3
 have q2:hi.toNat=m:=by omega
 have hll:(l.take m).length=m:=by rw[List.length_take];omega
 refine ⟨if cap=0 then a else a.map (·.add (0*1)),m,cap,fun W=>?_,?_⟩
 ·rw[run_slice_h (P:=Tryz.prog) (w:=W) 114 a l.length cap elemBy .i64 hi (by omega) (by omega),sizeBy,q2]
  rfl
 ·refine ⟨_,cap,by rw[hll],by omega,h3,fun x hx=>h5 x (List.mem_of_mem_take hx),?_⟩
  rcases Nat.eq_zero_or_pos m with hC|hC
  ·exact .inl (by apply List.eq_nil_of_length_eq_zero;omega)
  ·obtain ⟨b,off,rfl,hc⟩:=h4.resolve_left (fun e=>by rw[e]at hm;simp at hm;omega)
   refine .inr ⟨b,off,?_,fun j x hx=>?_⟩
   ·rw[if_neg (by omega)]
    show some (Addr.add _ _)=_
    rw[Addr.add_lit]
    rfl
   ·have hj:j<m:=by
     rcases Nat.lt_or_ge j m with h|h
     ·exact h
     ·rw[List.getElem?_eq_none (by omega)]at hx;cases hx
    rw[List.getElem?_take_of_lt hj]at hx
    exact hc _ _ hx
end Go.Proofs.YtniloklglpchfakGreat
