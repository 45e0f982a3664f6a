/- What checkAll of package mat comes to: the first fault of some matrices. -/
import Derived.Test.YtpniemnfdleiiajPkRFault
import Derived.Test.YtpniemnfdleiiajPlain
import Derived.StillTailTactics
namespace Go.Proofs.Ytpniemnfdleiiaj
open Go.RowKit
def IsMxs (w:World) (v:Value) (ms:List Mx):Prop:=
 ∃(a:Option Addr) (cap:Nat),v=.slice a ms.length cap∧ms.length≤cap∧cap≤maxLen∧(ms=[]∨∃b off,a=some ⟨b,off,none⟩∧∀i m,ms[i]?=some m→
  ∃s,w.cell? ⟨b,off+i*3,none⟩=some (.int .i64 m.rows)∧w.cell? ⟨b,off+i*3+1,none⟩=some (.int .i64 m.cols)∧w.cell? ⟨b,off+i*3+2,none⟩=some s∧I_ w s m.cells)
theorem c_{w w':World}(hb:Below w.heap.size w w'){p:Addr}{v:Value}(h:w.cell? p=some v):w'.cell? p=some v:=
 (hb.cell (p:=p) (World.block_lt_of_cell? w _ h)).trans h
theorem IsMxs.u_{w w':World}{v:Value}{ms:List Mx}(h:IsMxs w v ms)(hb:Below w.heap.size w w'):IsMxs w' v ms:=by
 obtain ⟨a,cap,h1,h2,h3,h4⟩:=h
 refine ⟨a,cap,h1,h2,h3,h4.imp id ?_⟩
 rintro ⟨b,off,ha,hc⟩
 refine ⟨b,off,ha,fun i m hm=>?_⟩
 obtain ⟨s,c0,c1,c2,hs⟩:=hc i m hm
 exact ⟨s,c_ hb c0,c_ hb c1,c_ hb c2,hs.u_ hb⟩
theorem IsMxs.len{w:World}{v:Value}{zs:List Mx}(h:IsMxs w v zs):zs.length≤maxLen:=by
 obtain ⟨_,_,_,h2,h3,_⟩:=h;omega
theorem I_.shape{w:World}{v:Value}{zs:List Int}(h:I_ w v zs):∃a n cap,v=.slice a n cap:=by
 obtain ⟨a,cap,h1,_⟩:=h;exact ⟨a,_,cap,h1⟩
def faults:List Mx→Int
 |[]=>0
 |m::l=>if q_ m=0 then faults l else q_ m
theorem faults_at{ms:List Mx}:∀{k:Nat} {m:Mx},(∀j x,j<k→ms[j]?=some x→q_ x=0)→ms[k]?=some m→q_ m≠0→q_ m=faults ms:=by
 induction ms with
 |nil=>intro k m _ h;simp at h
 |cons x l ih=>
  intro k m hz h hm
  cases k with
  |zero=>simp at h;subst h;unfold faults;rw[if_neg hm]
  |succ k=>
   unfold faults
   rw[if_pos (hz 0 x (by omega) rfl)]
   exact ih (k:=k) (fun j y (hj:j<k) (hy:l[j]?=some y)=>hz (j+1) y (by omega) (by simpa using hy)) (by simpa using h) hm
theorem faults_no{ms:List Mx}:(∀(j:Nat) x,ms[j]?=some x→q_ x=0)→0=faults ms:=by
 induction ms with
 |nil=>intro _;rfl
 |cons x l ih=>
  intro hz
  unfold faults
  rw[if_pos (hz 0 x rfl)]
  exact ih (fun j y (hy:l[j]?=some y)=>hz (j+1) y (by simpa using hy))
theorem n_{k:Int}(h:k≠0):errV k=.iface 44 (.int .i64 k):=by unfold errV;rw[if_neg h]
theorem e_{k:Int}(h:k=0):errV k=.nilIface:=by unfold errV;rw[if_pos h]
set_option maxHeartbeats 1600000 in
set_option maxRecDepth 100000 in
theorem checks_any(v:Value)(ms:List Mx)(w:World)(hv:IsMxs w v ms):Calls Try.prog 38 #[v] w fun e w'=>e=.returned (errV (faults ms))∧Below w.heap.size w w':=by
 have hlen:=hv.len
 unfold maxLen at hlen
 obtain ⟨a,cap,rfl,h2,h3,h4⟩:=hv
 obtain ⟨n,hn⟩:=gN (ms.length)
 have HN:=h_ hn
 have H4:=h_ h4
 rw[hn]at h2 hlen ⊢
 clear hn h4
 go_enter Try.func38,Try.ntmps38
 go_wp2
 go_loopw [8] (fun i wr=>∃k:Nat,k≤n∧i=.int .i64 k∧Below w.heap.size w wr∧∀j x,j<k→ms[j]?=some x→q_ x=0) (fun i _=>n - (intOf i).toNat)
 case atStart=>exact ⟨0,Nat.zero_le _,rfl,Below.refl _ _,fun j x hj _=>by omega⟩
 case round=>
  obtain ⟨k,hk,rfl,hbw,he⟩:=hrel
  have HE:=h_ he
  have HB:=h_ hbw
  clear he hbw
  by_cases hlt:k<n
  ·obtain ⟨x,hx⟩:∃x,ms[k]?=some x:=⟨ms[k]'(by have:=HN.out;omega),List.getElem?_eq_getElem _⟩
   obtain ⟨b,off,rfl,hcl⟩:=H4.out.resolve_left (fun e=>by rw[e]at hx;simp at hx)
   obtain ⟨s,c0,c1,c2,hs⟩:=hcl k x hx
   obtain ⟨sa,sn,sc,rfl⟩:=hs.shape
   have d0:=c_ HB.out c0
   have d1:=c_ HB.out c1
   have d2:=c_ HB.out c2
   have hm:M_ wr (.agg #[.int .i64 x.rows,.int .i64 x.cols,.slice sa sn sc]) x:=⟨_,rfl,hs.u_ HB.out⟩
   have HM:=h_ hm
   have HX:=h_ hx
   have hlt':(k:Int)<(n:Int):=by omega
   clear hcl hx c0 c1 c2 hs hm
   by_cases hf:q_ x=0
   ·have hC:=fun W (h:Below wr.heap.size wr W)=>C_ _ x W (HM.out.u_ h)
    rw[e_ hf]at hC
    have HC:=h_ hC
    have HF:=h_ hf
    clear hf hC
    go_wp2_with (go_at_call 23;refine (HC.out _ (o_ _ _)).mono ?_;rintro e w1 ⟨rfl,hb1⟩)
    go_roundw
    case rel=>exact ⟨k+1,by omega,by go_num,HB.out.trans ((o_ _ _).trans (hb1.mono (by simp))|>.mono HB.out.size),fun j y hj hy=>by
     rcases Nat.lt_or_ge j k with h|h
     ·exact HE.out j y h hy
     ·have e:y=x:=Option.some.inj (by rw[←hy,show j=k by omega,HX.out])
      rw[e];exact HF.out⟩
    case measure=>simp[intOf];omega
   ·have hC:=fun W (h:Below wr.heap.size wr W)=>C_ _ x W (HM.out.u_ h)
    rw[n_ hf]at hC
    have HC:=h_ hC
    have HF:=h_ hf
    clear hf hC
    go_wp2_with (go_at_call 23;refine (HC.out _ (o_ _ _)).mono ?_;rintro e w1 ⟨rfl,hb1⟩)
    go_ret
    exact ⟨R_ (err_of (faults_at HE.out HX.out HF.out) HF.out),HB.out.trans ((o_ _ _).trans (hb1.mono (by simp))|>.mono HB.out.size)⟩
  ·go_wp2
   go_ret
   exact ⟨R_ (err_no (faults_no fun j x hx=>HE.out j x (by
    have:=HN.out
    rcases Nat.lt_or_ge j k with h|h
    ·exact h
    ·rw[List.getElem?_eq_none (by omega)]at hx;cases hx) hx)),HB.out⟩
theorem infoInt:(Try.prog.info? 3).map (fun i=>(i.zero,i.size,i.bytes))=some (some (.int .i64 0),1,8):=by kernel_rfl
def zeros (n:Nat):Array Value:=madeCells #[.int .i64 0] n
theorem region_tail{P:Program}{id:Nat}{Q:Exit→Act→World→Prop}{a:Act}{w:World}{l:List Oper}(n:Nat)(hm:P.follows .mixedOrders=true)(hB:Region.lexTailB .any l.toArray n=true)
  (h:wpStill P l.toArray w.drew (fun a'=>wpList P l.toArray Q (l.drop n) a' w.drew) (l.take n) a):(Code.region id l.toArray true).wp P Q a w:=wp_region_still_tail n hm hB h
end Go.Proofs.Ytpniemnfdleiiaj
