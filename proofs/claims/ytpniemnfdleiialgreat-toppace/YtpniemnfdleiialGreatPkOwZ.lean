/- A list of ints of the call's own, that grows. -/
import Derived.Test.YtpniemnfdleiialGreatMFill
import Derived.Laws.AppendOwn
import Derived.Test.YtpniemnfdleiialGreatPkPnF
import Derived.Test.YtpniemnfdleiialGreatPkPlB
import Derived.Test.YtpniemnfdleiialGreatPkClG
import Derived.Test.YtpniemnfdleiialGreatPkPlC
import Derived.Test.YtpniemnfdleiialGreatPkCtP
namespace Go.Proofs.YtpniemnfdleiialGreat
open Go.RowKit
def OwnZ (w:World) (base:Nat) (v:Value) (zs:List Int):Prop:=w.ownsRow base 3 1 v zs.length (zs.map (Value.int .i64))
theorem OwnZ.made(w:World)(n:Nat)(hn:n≤1000):OwnZ (w.alloc (.cells (zeros n) 3)) w.heap.size (.slice (some ⟨w.heap.size,0,none⟩) 0 n) []:=World.ownsRow_made _ _ _ (Nat.le_refl _) (by unfold maxLen;omega) (zeros_size n)
theorem OwnZ.nil(w:World)(base:Nat):OwnZ w base (.slice none 0 0) []:=World.ownsRow_nil _ _ _ _
theorem OwnZ.alloc{w:World}{base:Nat}{v:Value}{zs:List Int}(h:OwnZ w base v zs)(o:Obj):OwnZ (w.alloc o) base v zs:=World.ownsRow.alloc h o
theorem OwnZ.isInts{w:World}{base:Nat}{v:Value}{zs:List Int}(h:OwnZ w base v zs):I_ w v zs:=by
 have hc:=fun g e=>World.ownsRow.cells h (g:=g) e
 obtain ⟨h1,h2⟩:=h
 rcases h2 with ⟨rfl,e⟩|⟨g,cap,cur,rfl,_,_,h3,h4,_,_⟩
 ·obtain rfl:zs=[]:=List.eq_nil_of_length_eq_zero e
  exact I_.nil w
 ·refine ⟨some ⟨g,0,none⟩,cap,rfl,h3,h4,.inr ⟨g,0,rfl,fun i x hx=>?_⟩⟩
  have:=hc g rfl i (.int .i64 x) (by simp[hx])
  rw[Addr.add_lit]at this;exact this
theorem OwnZ.shape{w:World}{base:Nat}{v:Value}{zs:List Int}(h:OwnZ w base v zs):∃a k,v=.slice a zs.length k:=by
 obtain ⟨a,cap,h1,_⟩:=h.isInts;exact ⟨a,cap,h1⟩
theorem OwnZ.step{w:World}{base:Nat}{v:Value}{zs:List Int}{x:Int}(h:w.ownsRow base 3 1 v (zs.length+1) (zs.map (Value.int .i64)++[Value.int .i64 x])):OwnZ w base v (zs++[x]):=by
 unfold OwnZ
 rw[List.length_append,List.map_append]
 exact h
theorem one_cells(w:World)(x:Int):∀(k:Nat) (u':Value),[Value.int .i64 x][k]?=some u'→(w.alloc (.cells #[.int .i64 x] 3)).cell? ((⟨w.heap.size,0,none⟩:Addr).add k)=some u':=by
 intro k u' hk
 match k,hk with
 |0,hk=>simp at hk;subst hk;simp[Addr.add]
theorem one_one(x:Int):∀(u':Value),u'∈[Value.int .i64 x]→u'.oneCell'=true:=by intro u' hu';simp at hu';subst hu';rfl
def mxR:Int→List (Int×Int)→Int
 |l,[]=>l
 |l,x::t=>mxR (if l<x.2 then x.2 else l) t
def mxT:Int→List (List (Int×Int))→Int
 |l,[]=>l
 |l,x::t=>mxT (mxR l x) t
theorem mxR_drop{l:List (Int×Int)}{i:Nat}{x:Int×Int}(h:l[i]?=some x)(q:Int):mxR q (l.drop i)=mxR (if q<x.2 then x.2 else q) (l.drop (i+1)):=by
 obtain ⟨hi,rfl⟩:=List.getElem?_eq_some_iff.1 h
 rw[List.drop_eq_getElem_cons hi,mxR]
theorem mxT_drop{T:List (List (Int×Int))}{i:Nat}{l:List (Int×Int)}(h:T[i]?=some l)(q:Int):mxT q (T.drop i)=mxT (mxR q l) (T.drop (i+1)):=by
 obtain ⟨hi,rfl⟩:=List.getElem?_eq_some_iff.1 h
 rw[List.drop_eq_getElem_cons hi,mxT]
theorem mxR_ge:∀(l:List (Int×Int)) (q:Int),q≤mxR q l∧∀x∈l,x.2≤mxR q l
 |[],q=>⟨Int.le_refl _,fun x h=>by simp at h⟩
 |y::t,q=>by
  obtain ⟨h1,h2⟩:=mxR_ge t (if q<y.2 then y.2 else q)
  have h3:q≤(if q<y.2 then y.2 else q)∧y.2≤(if q<y.2 then y.2 else q):=by split<;>omega
  refine ⟨by unfold mxR;omega,fun x hx=>?_⟩
  unfold mxR
  rcases List.mem_cons.1 hx with rfl|hx
  ·omega
  ·exact h2 x hx
theorem mxR_le:∀(l:List (Int×Int)) (q B:Int),q≤B→(∀x∈l,x.2≤B)→mxR q l≤B
 |[],q,B,h,_=>h
 |y::t,q,B,h,h2=>by
  unfold mxR
  refine mxR_le t _ B ?_ (fun x hx=>h2 x (List.mem_cons_of_mem _ hx))
  have:=h2 y (by simp)
  split<;>omega
theorem mxT_ge:∀(T:List (List (Int×Int))) (q:Int),q≤mxT q T∧∀l∈T,∀x∈l,x.2≤mxT q T
 |[],q=>⟨Int.le_refl _,fun l h=>by simp at h⟩
 |y::t,q=>by
  obtain ⟨h1,h2⟩:=mxT_ge t (mxR q y)
  obtain ⟨h3,h4⟩:=mxR_ge y q
  refine ⟨by unfold mxT;omega,fun l hl x hx=>?_⟩
  unfold mxT
  rcases List.mem_cons.1 hl with rfl|hl
  ·have:=h4 x hx;omega
  ·exact h2 l hl x hx
theorem mxT_le:∀(T:List (List (Int×Int))) (q B:Int),q≤B→(∀l∈T,∀x∈l,x.2≤B)→mxT q T≤B
 |[],q,B,h,_=>h
 |y::t,q,B,h,h2=>by
  unfold mxT
  exact mxT_le t _ B (mxR_le y q B h (h2 y (by simp))) (fun l hl=>h2 l (List.mem_cons_of_mem _ hl))
theorem mem_stA{T:List (List (Int×Int))}{l:List (Int×Int)}{x:Int×Int}(hl:l∈T)(hx:x∈l):∃s i:Nat,s<T.length∧(stA T s)[i]?=some x:=by
 obtain ⟨s,hs⟩:=List.getElem?_of_mem hl
 obtain ⟨i,hi⟩:=List.getElem?_of_mem hx
 exact ⟨s,i,(List.getElem?_eq_some_iff.1 hs).1,by rw[stA_at hs];exact hi⟩
set_option maxHeartbeats 16000000 in
set_option maxRecDepth 100000 in
theorem long_any(v:Value)(T:List (List (Int×Int)))(B:Int)(w:World)(hv:IsPlan w v T)(hb:BdT T B)(hl6:T.length≤6)(h24:∀s,(stA T s).length≤24):Calls Tryz.prog 17 #[v] w fun e w'=>e=.returned (.int .i64 (mxT 0 T))∧Below w.heap.size w w':=by
 obtain ⟨a,cap,rfl,g2,g3,g4⟩:=hv
 obtain ⟨n,hn⟩:=gN (T.length)
 obtain ⟨R,hR⟩:=gN (mxT 0 T)
 have HBD:=h_ hb
 have H24:=h_ h24
 have H4:=h_ g4
 have HN:=h_ hn
 have HR:=h_ hR
 have hni:(n:Int)≤6:=by omega
 rw[hn]at g2 hl6 ⊢
 rw[hR]
 clear g4 hb h24 hn hR
 go_enter Tryz.func17,Tryz.ntmps17
 go_wp2
 go_loopw [3,4,11] (fun lv fv iv wr=>∃(k:Nat) (xi l:Int) (f:Bool),k≤n∧xi=(k:Int)∧iv=.int .i64 xi∧lv=.int .i64 l∧fv=.bool f∧Below w.heap.size w wr∧R=mxT l (T.drop k)∧(f=false→l=0)) (fun _ _ iv _=>n - (intOf iv).toNat)
 case atStart=>exact ⟨0,0,0,false,Nat.zero_le _,rfl,rfl,rfl,rfl,Below.refl _ _,by rw[List.drop_zero,HR.out],fun _=>rfl⟩
 case round=>
  obtain ⟨k,xi,l,f,hk,hxi,rfl,rfl,rfl,hbw,hla,hf0⟩:=hrel
  have HBW:=h_ hbw
  have HLA:=h_ hla
  have HF0:=h_ hf0
  have HXI:=h_ hxi
  have hx0:0≤xi:=by omega
  have hx1:xi≤6:=by omega
  clear hbw hla hxi hf0
  by_cases hlt:xi<(n:Int)
  ·have hkl:k<T.length:=by have:=HN.out;have:=HXI.out;omega
   obtain ⟨row,hrow⟩:=stage_at hkl
   obtain ⟨b,off,ha,hcl⟩:=H4.out.resolve_left (fun e=>by rw[e]at hkl;simp at hkl)
   subst ha
   obtain ⟨sv,hsv,hia⟩:=hcl k row hrow
   obtain ⟨ra,rc,rfl,r2,r3,r4⟩:=hia
   replace hsv:=cell_bel HBW.out hsv
   rw[show k=xi.toNat by have:=HXI.out;omega]at hsv
   obtain ⟨ln,hln⟩:=gN (row.length)
   have hl24:ln≤24:=by rw[←hln,←stA_at hrow];exact H24.out k
   have HST:=h_ (stA_at hrow)
   have HNX:=h_ (mxT_drop hrow l)
   have HRW:=h_ r4
   have HLN:=h_ hln
   rw[hln]at hsv r2
   obtain ⟨W0,hW0⟩:=gM (wr)
   subst hW0
   clear hcl r4 hln hkl hrow
   go_wp2
   go_loopw [3,4,8,17] (fun lv fv _ iv w2=>∃(j:Nat) (xj l2:Int) (f2:Bool),j≤ln∧xj=(j:Int)∧iv=.int .i64 xj∧lv=.int .i64 l2∧fv=.bool f2∧Below W0.heap.size W0 w2∧mxR l row=mxR l2 (row.drop j)∧(f2=false→l2=0)) (fun _ _ _ iv _=>ln - (intOf iv).toNat)
   case atStart=>exact ⟨0,0,l,f,Nat.zero_le _,rfl,rfl,rfl,rfl,Below.refl _ _,by rw[List.drop_zero],HF0.out⟩
   case round=>
    obtain ⟨j,xj,l2,f2,hj,hxj,rfl,rfl,rfl,hbw,hla,hf0⟩:=hrel
    have HB2:=h_ hbw
    have HL2:=h_ hla
    have HF2:=h_ hf0
    have HXJ:=h_ hxj
    have hz0:0≤xj:=by omega
    have hz1:xj≤24:=by omega
    clear hbw hla hxj hf0
    by_cases hlt2:xj<(ln:Int)
    ·obtain ⟨x,hx⟩:=act_at (l:=row) (i:=j) (by have:=HLN.out;have:=HXJ.out;omega)
     obtain ⟨b3,off3,ha3,hcl3⟩:=HRW.out.resolve_left (fun e=>by rw[e]at hx;simp at hx)
     subst ha3
     obtain ⟨c1,c2⟩:=hcl3 j x hx
     replace c1:=cell_bel (below_go HBW.out HB2.out) c1
     replace c2:=cell_bel (below_go HBW.out HB2.out) c2
     rw[show j=xj.toNat by have:=HXJ.out;omega]at c1 c2
     have hdr:=mxR_drop hx l2
     have hnn:0≤x.2:=by have:=HBD.out.2 k j x (by rw[HST.out];exact hx);omega
     obtain ⟨x1,x2⟩:=x
     dsimp only at c1 c2 hdr hnn
     have HB3:=h_ (below_go HB2.out (o_ wr (.cells #[.int .i64 x1,.int .i64 x2] 109)))
     clear hcl3 hx
     cases f2 with
     |false=>
      have hl0:=HF2.out rfl
      have HZ:=h_ (show mxR l row=mxR x2 (row.drop (j+1)) by
       rw[HL2.out,hdr]
       by_cases q:l2<x2
       ·rw[if_pos q]
       ·rw[if_neg q,show l2=x2 by omega])
      clear hdr hnn hl0
      go_wp2
      go_roundw
      case rel=>exact ⟨j+1,_,_,true,by have:=HXJ.out;omega,by have:=HXJ.out;omega,rfl,rfl,rfl,HB3.out,HZ.out,(fun e=>by cases e)⟩
      case measure=>have:=HXJ.out;simp[intOf];omega
     |true=>
      by_cases q:l2<x2
      ·have HZ:=h_ (show mxR l row=mxR x2 (row.drop (j+1)) by rw[HL2.out,hdr,if_pos q])
       clear hdr hnn
       go_wp2
       go_roundw
       case rel=>exact ⟨j+1,_,_,true,by have:=HXJ.out;omega,by have:=HXJ.out;omega,rfl,rfl,rfl,HB3.out,HZ.out,(fun e=>by cases e)⟩
       case measure=>have:=HXJ.out;simp[intOf];omega
      ·have HZ:=h_ (show mxR l row=mxR l2 (row.drop (j+1)) by rw[HL2.out,hdr,if_neg q])
       clear hdr hnn
       go_wp2
       go_roundw
       case rel=>exact ⟨j+1,_,_,true,by have:=HXJ.out;omega,by have:=HXJ.out;omega,rfl,rfl,rfl,HB3.out,HZ.out,(fun e=>by cases e)⟩
       case measure=>have:=HXJ.out;simp[intOf];omega
    ·have HZ:=h_ (show R=mxT l2 (T.drop (k+1)) by
      rw[HLA.out,HNX.out,HL2.out,List.drop_of_length_le (by have:=HLN.out;have:=HXJ.out;omega)]
      rfl)
     go_wp2
     go_roundw
     case rel=>exact ⟨k+1,_,_,f2,by have:=HXI.out;omega,by have:=HXI.out;omega,rfl,rfl,rfl,below_go HBW.out HB2.out,HZ.out,HF2.out⟩
     case measure=>have:=HXI.out;simp[intOf];omega
  ·have HZ:=h_ (show l=R by
    rw[HLA.out,List.drop_of_length_le (by have:=HN.out;have:=HXI.out;omega)]
    rfl)
   go_wp2
   go_ret
   exact ⟨i_ HZ.out,HBW.out⟩
end Go.Proofs.YtpniemnfdleiialGreat
/- What a table of times tells: how long all is, who waits how long, what waits for what. No program in sight. -/
namespace Go.Proofs.YtpniemnfdleiialGreat
theorem mxT_at{T:List (List (Int×Int))}{s i:Nat}{x:Int×Int}(hs:s<T.length)(hx:(stA T s)[i]?=some x):x.2≤mxT 0 T:=by
 obtain ⟨l,hl⟩:=stage_at hs
 rw[stA_at hl]at hx
 exact (mxT_ge T 0).2 l (List.mem_of_getElem? hl) x (List.mem_of_getElem? hx)
structure PlanOK (p:List (List (Int×Int))) (m:Nat):Prop where
 all:AllIn p
 done:doneB p=true
 n1:1≤p.length
 n6:p.length≤6
 m1:1≤m
 m12:m≤12
 ok:∀s,s<p.length→∀a∈stA p s,okA (m:Int) a
 len:∀s,s<p.length→(stA p s).length=2*m
 ap:∀s,s<p.length→apart (stA p s)
theorem plan_okay{p:List (List (Int×Int))}{m:Nat}(h:planE p (m:Int)=0):PlanOK p m:=by
 obtain ⟨h1,h2,h3,h4,h5,h6,h7⟩:=plan_facts h
 refine ⟨h1,h2,h3,h4,h5,h6,fun s hs=>(h7 s hs).2,fun s hs=>(h7 s hs).1,fun s hs=>?_⟩
 obtain ⟨_,q2,_⟩:=planE_in h
 obtain ⟨l,hl⟩:=stage_at hs
 rw[stA_at hl]
 exact (actsE_in (stagesE_in q2 s l hl)).2.1
theorem tm_st24{p:List (List (Int×Int))}{th bk:List Int}{T:List (List (Int×Int))}{m:Nat}(hp:PlanOK p m)(h:IsTm p th bk T)(s:Nat):(stA T s).length≤24:=by
 rcases Nat.lt_or_ge s p.length with q|q
 ·rw[h.1.2 s q,hp.len s q];have:=hp.m12;omega
 ·rw[stA_out (by rw[h.1.1];exact q)];simp
theorem tm_low{p:List (List (Int×Int))}{th bk:List Int}{T:List (List (Int×Int))}{m:Nat}(hp:PlanOK p m)(h:IsTm p th bk T){s:Nat}(hs:s<p.length):(m:Int)*((th[s]?).getD 0+(bk[s]?).getD 0)≤mxT 0 T:=by
 have h1:=last_ge h hs hp.m1 (hp.ok s hs) (hp.ap s hs) (hp.len s hs)
 have hi:2*m - 1<(stA T s).length:=by rw[h.1.2 s hs,hp.len s hs];have:=hp.m1;omega
 have hx:(stA T s)[2*m - 1]?=some (stA T s)[2*m - 1]:=List.getElem?_eq_getElem hi
 have h2:=mxT_at (by rw[h.1.1];exact hs) hx
 unfold toT at h1
 rw[hx]at h1
 have h1:(m:Int)*((th[s]?).getD 0+(bk[s]?).getD 0)≤(stA T s)[2*m - 1].2:=h1
 omega
end Go.Proofs.YtpniemnfdleiialGreat
/- Waves and turns where all stages take the same: when what is done, as so many times there and so many times back. Reckoned for all stages and parts that may be. -/
namespace Go.Proofs.YtpniemnfdleiialGreat
def symF (S M:Nat) (wave:Bool) (s:Nat) (a:Int×Int):Nat×Nat:=
 if wave then (if a.1=2 then (S+M - 1,S - 1 - s+a.2.toNat) else (s+a.2.toNat,0))
 else (if a.1=2 then (S+a.2.toNat,S - 1 - s+a.2.toNat) else if a.2.toNat<S - s then (s+a.2.toNat,0) else (s+a.2.toNat,a.2.toNat))
def symT (S M:Nat) (wave:Bool) (s:Nat) (a:Int×Int):Nat×Nat:=if a.1=2 then ((symF S M wave s a).1,(symF S M wave s a).2+1) else ((symF S M wave s a).1+1,(symF S M wave s a).2)
def symP (S M:Nat) (wave:Bool) (s i:Nat):Nat×Nat:=if i=0 then (0,0) else symT S M wave s (((stageX S M wave s)[i - 1]?).getD (0,0))
def geB (p q:Nat×Nat):Bool:=decide (q.1≤p.1)&&decide (q.2≤p.2)
def symOK1 (S M:Nat) (wave:Bool) (s i:Nat) (a:Int×Int):Bool:=
 match depK a s S with
 |none=>decide (symF S M wave s a=symP S M wave s i)
 |some k=>(decide (symF S M wave s a=symP S M wave s i)&&geB (symF S M wave s a) (symT S M wave k a))||(decide (symF S M wave s a=symT S M wave k a)&&geB (symF S M wave s a) (symP S M wave s i))
def symOK (S M:Nat) (wave:Bool):Bool:=(List.range S).all fun s=>(List.range (stageX S M wave s).length).all fun i=>
 match (stageX S M wave s)[i]? with
 |none=>true
 |some a=>symOK1 S M wave s i a&&geB (S+M - 1,S+M - 1) (symT S M wave s a)
def symAll (S:Nat):Bool:=(List.range 12).all fun m=>symOK S (m+1) true&&symOK S (m+1) false&&decide (symT S (m+1) true 0 (((stageX S (m+1) true 0)[2*m+1]?).getD (0,0))=(S+m,S+m))&&decide (symT S (m+1) false 0 (((stageX S (m+1) false 0)[2*m+1]?).getD (0,0))=(S+m,S+m))
theorem sy1:symAll 1=true:=by kernel_rfl
theorem sy2:symAll 2=true:=by kernel_rfl
theorem sy3:symAll 3=true:=by kernel_rfl
theorem sy4:symAll 4=true:=by kernel_rfl
theorem sy5:symAll 5=true:=by kernel_rfl
theorem sy6:symAll 6=true:=by kernel_rfl
theorem sym_ok{S M:Nat}(hS:1≤S)(hS6:S≤6)(hM:1≤M)(hM12:M≤12)(wave:Bool):symOK S M wave=true∧symT S M wave 0 (((stageX S M wave 0)[2*M - 1]?).getD (0,0))=(S+M - 1,S+M - 1):=by
 have h:symAll S=true:=by
  have:S=1∨S=2∨S=3∨S=4∨S=5∨S=6:=by omega
  rcases this with rfl|rfl|rfl|rfl|rfl|rfl
  ·exact sy1
  ·exact sy2
  ·exact sy3
  ·exact sy4
  ·exact sy5
  ·exact sy6
 unfold symAll at h
 have:=List.all_eq_true.1 h (M - 1) (List.mem_range.2 (by omega))
 rw[show M - 1+1=M by omega,show 2*(M - 1)+1=2*M - 1 by omega,show S+(M - 1)=S+M - 1 by omega]at this
 simp only[Bool.and_eq_true,decide_eq_true_iff]at this
 obtain ⟨⟨⟨h1,h2⟩,h3⟩,h4⟩:=this
 cases wave
 ·exact ⟨h2,h4⟩
 ·exact ⟨h1,h3⟩
theorem sym_at{S M:Nat}{wave:Bool}(h:symOK S M wave=true){s i:Nat}{a:Int×Int}(hs:s<S)(ha:(stageX S M wave s)[i]?=some a):symOK1 S M wave s i a=true∧geB (S+M - 1,S+M - 1) (symT S M wave s a)=true:=by
 unfold symOK at h
 have h1:=List.all_eq_true.1 h s (List.mem_range.2 hs)
 have h2:=List.all_eq_true.1 h1 i (List.mem_range.2 (List.getElem?_eq_some_iff.1 ha).1)
 rw[ha]at h2
 simpa using h2
def ev (x y:Int) (q:Nat×Nat):Int:=(q.1:Int)*x+(q.2:Int)*y
theorem ev_ge{x y:Int}(hx:0≤x)(hy:0≤y){p q:Nat×Nat}(h:geB p q=true):ev x y q≤ev x y p:=by
 unfold geB at h
 simp at h
 unfold ev
 have h1:(q.1:Int)*x≤(p.1:Int)*x:=Int.mul_le_mul_of_nonneg_right (by omega) hx
 have h2:(q.2:Int)*y≤(p.2:Int)*y:=Int.mul_le_mul_of_nonneg_right (by omega) hy
 omega
def tabX (S M:Nat) (wave:Bool) (x y:Int):List (List (Int×Int)):=(List.range S).map (fun s=>(stageX S M wave s).map (fun a=>(ev x y (symF S M wave s a),ev x y (symT S M wave s a))))
theorem tabX_len(S M:Nat)(wave:Bool)(x y:Int):(tabX S M wave x y).length=S:=by simp[tabX]
theorem tabX_at{S M:Nat}{wave:Bool}{x y:Int}{s:Nat}(h:s<S):stA (tabX S M wave x y) s=(stageX S M wave s).map (fun a=>(ev x y (symF S M wave s a),ev x y (symT S M wave s a))):=stA_at (by unfold tabX;simp[h])
theorem planX_st{S M:Nat}{wave:Bool}{s:Nat}(h:s<S):stA (planX S M wave) s=stageX S M wave s:=stA_at (by simp[planX,h])
theorem planX_ln(S M:Nat)(wave:Bool):(planX S M wave).length=S:=by simp[planX]
theorem tab_to{S M:Nat}{wave:Bool}{x y:Int}{s i:Nat}{a:Int×Int}(hs:s<S)(ha:(stageX S M wave s)[i]?=some a):toT (tabX S M wave x y) s i=ev x y (symT S M wave s a):=by
 unfold toT
 rw[tabX_at hs,List.getElem?_map,ha];rfl
theorem bub_tm{S M:Nat}{wave:Bool}(h:symOK S M wave=true)(hin:AllIn (planX S M wave)){x y:Int}(hx:0≤x)(hy:0≤y):IsTm (planX S M wave) (List.replicate S x) (List.replicate S y) (tabX S M wave x y):=by
 refine ⟨⟨by rw[tabX_len,planX_ln],fun s hs=>?_⟩,fun s hs i a ha=>?_⟩
 ·rw[planX_ln]at hs
  rw[tabX_at hs,planX_st hs,List.length_map]
 ·rw[planX_ln]at hs
  have ha0:=ha
  rw[planX_st hs]at ha
  obtain ⟨h1,_⟩:=sym_at h hs ha
  have hp:prevT (tabX S M wave x y) s i=ev x y (symP S M wave s i):=by
   unfold prevT symP
   by_cases c:i=0
   ·rw[if_pos c,if_pos c];simp[ev]
   ·rw[if_neg c,if_neg c]
    have hi:i - 1<(stageX S M wave s).length:=by have:=(List.getElem?_eq_some_iff.1 ha).1;omega
    rw[tab_to hs (List.getElem?_eq_getElem hi),List.getElem?_eq_getElem hi];rfl
  have hf:fromT (planX S M wave) (tabX S M wave x y) s i a=ev x y (symF S M wave s a):=by
   unfold fromT
   rw[planX_ln]
   unfold symOK1 at h1
   cases hd:depK a s S with
   |none=>
    rw[hd]at h1
    simp at h1
    dsimp only
    rw[hp,h1]
   |some k=>
    rw[hd]at h1
    have hk:=((depK_nb hs).1 hd).1
    have hw:=hin s k (by rw[planX_ln];exact hs) (by rw[planX_ln];exact hk) a (List.mem_of_getElem? ha0)
    have hg:=whr_get hw
    rw[planX_st hk]at hg hw
    dsimp only
    rw[planX_st hk,tab_to hk hg,hp]
    simp only[Bool.or_eq_true,Bool.and_eq_true,decide_eq_true_iff]at h1
    rcases h1 with ⟨e1,e2⟩|⟨e1,e2⟩
    ·have:=ev_ge hx hy e2
     rw[←e1,if_neg (by omega)]
    ·have:=ev_ge hx hy e2
     rw[←e1]
     split<;>omega
  have hl:lngA (List.replicate S x) (List.replicate S y) s a=if a.1=2 then y else x:=by
   unfold lngA
   rw[List.getElem?_replicate,List.getElem?_replicate,if_pos hs,if_pos hs]
   rfl
  rw[tabX_at hs,List.getElem?_map,ha]
  unfold newT
  rw[hf,hl]
  show some (ev x y (symF S M wave s a),ev x y (symT S M wave s a))=_
  congr 2
  unfold symT ev
  by_cases c:a.1=2
  ·rw[if_pos c,if_pos c]
   dsimp only
   rw[show (((symF S M wave s a).2+1:Nat):Int)=((symF S M wave s a).2:Int)+1 by omega,Int.add_mul]
   omega
  ·rw[if_neg c,if_neg c]
   dsimp only
   rw[show (((symF S M wave s a).1+1:Nat):Int)=((symF S M wave s a).1:Int)+1 by omega,Int.add_mul]
   omega
theorem bub_long{S M:Nat}{wave:Bool}(hS:1≤S)(hS6:S≤6)(hM:1≤M)(hM12:M≤12){x y:Int}(hx:0≤x)(hy:0≤y)(hl:(stageX S M wave 0).length=2*M):(∀s i a,s<S→(stageX S M wave s)[i]?=some a→toT (tabX S M wave x y) s i≤((M:Int)+S - 1)*(x+y))∧toT (tabX S M wave x y) 0 (2*M - 1)=((M:Int)+S - 1)*(x+y):=by
 obtain ⟨h1,h2⟩:=sym_ok hS hS6 hM hM12 wave
 have hev:ev x y (S+M - 1,S+M - 1)=((M:Int)+S - 1)*(x+y):=by
  unfold ev
  dsimp only
  rw[show ((S+M - 1:Nat):Int)=(M:Int)+S - 1 by omega,←Int.mul_add]
 refine ⟨fun s i a hs ha=>?_,?_⟩
 ·rw[tab_to hs ha,←hev]
  exact ev_ge hx hy (sym_at h1 hs ha).2
 ·have hi:2*M - 1<(stageX S M wave 0).length:=by omega
  rw[List.getElem?_eq_getElem hi]at h2
  rw[tab_to (by omega) (List.getElem?_eq_getElem hi),←hev]
  exact congrArg _ h2
end Go.Proofs.YtpniemnfdleiialGreat
/- Waves and turns can be done, and go back part by part: reckoned for all stages and parts that may be. -/
namespace Go.Proofs.YtpniemnfdleiialGreat
def okPlan (s m:Nat) (wave:Bool):Bool:=decide (planE (planX s m wave) (m:Int)=0)&&evenB (planX s m wave)
def okAll (s:Nat):Bool:=(List.range 12).all (fun m=>okPlan s (m+1) true&&okPlan s (m+1) false)
theorem ok1:okAll 1=true:=by kernel_rfl
theorem ok2:okAll 2=true:=by kernel_rfl
theorem ok3:okAll 3=true:=by kernel_rfl
theorem ok4:okAll 4=true:=by kernel_rfl
theorem ok5:okAll 5=true:=by kernel_rfl
theorem ok6:okAll 6=true:=by kernel_rfl
theorem plan_ok{s m:Nat}(hs:1≤s)(hs6:s≤6)(hm:1≤m)(hm12:m≤12)(wave:Bool):planE (planX s m wave) (m:Int)=0∧evenB (planX s m wave)=true:=by
 have h:okAll s=true:=by
  have:s=1∨s=2∨s=3∨s=4∨s=5∨s=6:=by omega
  rcases this with rfl|rfl|rfl|rfl|rfl|rfl
  ·exact ok1
  ·exact ok2
  ·exact ok3
  ·exact ok4
  ·exact ok5
  ·exact ok6
 unfold okAll at h
 have:=List.all_eq_true.1 h (m - 1) (List.mem_range.2 (by omega))
 rw[show m - 1+1=m by omega,Bool.and_eq_true]at this
 have:okPlan s m wave=true:=by cases wave;exact this.2;exact this.1
 unfold okPlan at this
 rw[Bool.and_eq_true,decide_eq_true_iff]at this
 exact this
end Go.Proofs.YtpniemnfdleiialGreat
/- Waves and turns where all stages take the same: how long they are. No program in sight. -/
namespace Go.Proofs.YtpniemnfdleiialGreat
theorem rep_at{n:Nat}{x:Int}{s:Nat}(h:s<n):((List.replicate n x)[s]?).getD 0=x:=by
 rw[List.getElem?_replicate,if_pos h];rfl
end Go.Proofs.YtpniemnfdleiialGreat
/- Who takes no longer is done no later. No program in sight. -/
namespace Go.Proofs.YtpniemnfdleiialGreat
def cle:List (Int×Int)→List (Int×Int)→Nat
 |x::l,y::m=>if x.2≤y.2 then cle l m+1 else 0
 |_,_=>0
theorem cle_at:∀{l m:List (Int×Int)} {i:Nat},i<cle l m→((l[i]?).getD (0,0)).2≤((m[i]?).getD (0,0)).2
 |[],m,i,h=>by simp[cle]at h
 |x::l,[],i,h=>by simp[cle]at h
 |x::l,y::m,i,h=>by
  unfold cle at h
  by_cases c:x.2≤y.2
  ·rw[if_pos c]at h
   cases i with
   |zero=>simpa using c
   |succ i=>simpa using cle_at (l:=l) (m:=m) (i:=i) (by omega)
  ·rw[if_neg c]at h;omega
theorem cle_ne:∀{l m:List (Int×Int)},l.length=m.length→cle l m<l.length→¬((l[cle l m]?).getD (0,0)).2≤((m[cle l m]?).getD (0,0)).2
 |[],m,hl,h=>by simp at h
 |x::l,[],hl,h=>by simp at hl
 |x::l,y::m,hl,h=>by
  unfold cle at h ⊢
  by_cases c:x.2≤y.2
  ·rw[if_pos c]at h ⊢
   have:=cle_ne (l:=l) (m:=m) (by simpa using hl) (by simpa using h)
   simpa using this
  ·rw[if_neg c]
   simpa using c
def agl (p T T':List (List (Int×Int))):List Nat:=(List.range p.length).map (fun s=>cle (stA T s) (stA T' s))
theorem agl_at{p T T':List (List (Int×Int))}{s:Nat}(hs:s<p.length):atN (agl p T T') s=cle (stA T s) (stA T' s):=by
 unfold atN agl
 simp[hs]
theorem tm_mono{p:List (List (Int×Int))}{th bk th' bk':List Int}{T T':List (List (Int×Int))}(hin:AllIn p)(hdn:doneB p=true)(h:IsTm p th bk T)(h':IsTm p th' bk' T')(hle:∀s,s<p.length→∀a,lngA th bk s a≤lngA th' bk' s a){s i:Nat}{a:Int×Int}(hs:s<p.length)(ha:(stA p s)[i]?=some a):toT T s i≤toT T' s i:=by
 have hcl:Closed p (agl p T T'):=by
  rintro s hs ⟨a,ha,hd⟩
  rw[agl_at hs]at ha
  have hlt:=(List.getElem?_eq_some_iff.1 ha).1
  have hbel:∀k j,k<p.length→j<atN (agl p T T') k→toT T k j≤toT T' k j:=fun k j hk hj=>by
   rw[agl_at hk]at hj
   exact cle_at hj
  have hp:prevT T s (cle (stA T s) (stA T' s))≤prevT T' s (cle (stA T s) (stA T' s)):=by
   unfold prevT
   by_cases c:cle (stA T s) (stA T' s)=0
   ·rw[if_pos c,if_pos c];exact Int.le_refl _
   ·rw[if_neg c,if_neg c]
    exact hbel s _ hs (by rw[agl_at hs];omega)
  have hf:fromT p T s (cle (stA T s) (stA T' s)) a≤fromT p T' s (cle (stA T s) (stA T' s)) a:=by
   unfold fromT
   cases e:depK a s p.length with
   |none=>exact hp
   |some k=>
    obtain ⟨hk,hn⟩:=(depK_nb hs).1 e
    have h1:=hd k hk hn
    have h2:=hin s k hs hk a (List.mem_of_getElem? ha)
    have h3:=hbel k (whr a (stA p k)).toNat hk (by omega)
    dsimp only
    split<;>split<;>omega
  refine cle_ne (l:=stA T s) (m:=stA T' s) (by rw[h.1.2 s hs,h'.1.2 s hs]) (by rw[h.1.2 s hs];exact hlt) ?_
  have e1:=tm_to h hs ha
  have e2:=tm_to h' hs ha
  have e3:=hle s hs a
  unfold toT at e1 e2
  omega
 have hf:=und_full hdn hcl hs
 rw[agl_at hs]at hf
 have:=(List.getElem?_eq_some_iff.1 ha).1
 exact cle_at (by omega)
end Go.Proofs.YtpniemnfdleiialGreat
/- What is wrong with costs and with cuts, by package cut and by the document's answer; the sum of some costs. -/
namespace Go.Proofs.YtpniemnfdleiialGreat
open Go.RowKit
theorem bel_nx{w u v:World}(h:Below w.heap.size w u)(k:Below u.heap.size u v):Below w.heap.size w v:=h.trans (k.mono h.size)
theorem bel_al{V u:World}{o:Obj}(h:Below V.heap.size V u):Below V.heap.size V (u.alloc o):=bel_nx h (o_ _ _)
def okC (x:Int):Bool:=decide (0≤x)&&decide (x≤1000000)
def costsE (cs:List Int):Int:=if cs.all okC then 0 else 1
theorem costsE_no{cs:List Int}{k:Nat}{x:Int}(h:cs[k]?=some x)(hx:okC x=false):1=costsE cs:=by
 unfold costsE;rw[if_neg];intro e;rw[List.all_eq_true]at e;rw[e x (List.mem_of_getElem? h)]at hx;cases hx
theorem costsE_yes{cs:List Int}(h:∀k x,k<cs.length→cs[k]?=some x→okC x=true):0=costsE cs:=by
 unfold costsE;rw[if_pos];rw[List.all_eq_true];intro x hx
 obtain ⟨k,hk,rfl⟩:=List.getElem_of_mem hx
 exact h k _ hk (List.getElem?_eq_getElem hk)
theorem costsE_in{cs:List Int}(h:costsE cs=0):∀c∈cs,0≤c∧c≤1000000:=by
 intro c hc
 unfold costsE at h
 by_cases e:cs.all okC
 ·have:=List.all_eq_true.1 e c hc
  simpa [okC] using this
 ·rw[if_neg e]at h;cases h
theorem costsE_two(cs:List Int):costsE cs=0∨costsE cs=1:=by unfold costsE;split<;>simp
set_option maxHeartbeats 1600000 in
set_option maxRecDepth 100000 in
theorem costs_any(v:Value)(cs:List Int)(w:World)(hv:I_ w v cs):Calls Tryz.prog 33 #[v] w fun e w'=>e=.returned (errV (costsE cs))∧w'=w:=by
 have hlen:=hv.len
 unfold maxLen at hlen
 obtain ⟨a,cap,rfl,h2,h3,h4⟩:=hv
 obtain ⟨n,hn⟩:=gN (cs.length)
 rw[hn]at h2 hlen ⊢
 have HN:=h_ hn
 have H4:=h_ h4
 clear hn h4
 go_enter Tryz.func33,Tryz.ntmps33
 go_wp2
 go_loop [7] (fun i=>∃k:Nat,k≤n∧i=.int .i64 k∧∀j x,j<k→cs[j]?=some x→okC x=true) (fun i=>n - (intOf i).toNat)
 case atStart=>exact ⟨0,Nat.zero_le _,rfl,fun j x hj _=>by omega⟩
 case round=>
  obtain ⟨k,hk,rfl,he⟩:=hrel
  have HE:=h_ he
  clear he
  by_cases hlt:k<n
  ·obtain ⟨x,hx⟩:=some_at (cs:=cs) (p:=k) (by have:=HN.out;omega)
   obtain ⟨b,off,rfl,hcl⟩:=H4.out.resolve_left (fun e=>by rw[e]at hx;simp at hx)
   have cx:=hcl k x hx
   have HX:=h_ hx
   have hlt':(k:Int)<(n:Int):=by omega
   clear hcl hx
   by_cases c1:x<0
   ·have HI:=h_ (show okC x=false by simp[okC];omega)
    go_wp2
    go_ret
    exact ⟨R_ (err_of (costsE_no HX.out HI.out) (by decide)),rfl⟩
   ·by_cases c2:1000000<x
    ·have HI:=h_ (show okC x=false by simp[okC];omega)
     go_wp2
     go_ret
     exact ⟨R_ (err_of (costsE_no HX.out HI.out) (by decide)),rfl⟩
    ·have HI:=h_ (show okC x=true by simp[okC];omega)
     go_wp2
     go_round
     case rel=>exact ⟨k+1,by omega,by go_num,fun j y hj hy=>by
      rcases Nat.lt_or_ge j k with h|h
      ·exact HE.out j y h hy
      ·have e:y=x:=Option.some.inj (by rw[←hy,show j=k by omega,HX.out])
       rw[e];exact HI.out⟩
     case measure=>simp[intOf];omega
  ·go_wp2
   go_ret
   exact ⟨R_ (err_no (costsE_yes fun j x hj hx=>HE.out j x (by have:=HN.out;omega) hx)),rfl⟩
def layE (n:Int):Int:=if n<1∨12<n then 1 else 0
theorem layE_bad{n:Int}(h:n<1∨12<n):1=layE n:=by unfold layE;rw[if_pos h]
theorem layE_ok{n:Int}(h:¬(n<1∨12<n)):0=layE n:=by unfold layE;rw[if_neg h]
theorem layers_any(n:Int)(w:World):Calls Tryz.prog 32 #[.int .i64 n] w fun e w'=>e=.returned (errV (layE n))∧w'=w:=by
 by_cases c1:n<1
 ·have HE:=h_ (layE_bad (.inl c1))
  go_enter Tryz.func32,Tryz.ntmps32
  go_wp2
  go_ret
  exact ⟨R_ (err_of HE.out (by decide)),rfl⟩
 ·by_cases c2:12<n
  ·have HE:=h_ (layE_bad (.inr c2))
   go_enter Tryz.func32,Tryz.ntmps32
   go_wp2
   go_ret
   exact ⟨R_ (err_of HE.out (by decide)),rfl⟩
  ·have HE:=h_ (layE_ok (n:=n) (by omega))
   go_enter Tryz.func32,Tryz.ntmps32
   go_wp2
   go_ret
   exact ⟨R_ (err_no HE.out),rfl⟩
set_option maxHeartbeats 1600000 in
set_option maxRecDepth 100000 in
theorem ctsum_any(v:Value)(cs:List Int)(w:World)(hv:I_ w v cs)(hc:∀c∈cs,0≤c∧c≤1000000)(hl:cs.length≤12):Calls Tryz.prog 37 #[v] w fun e w'=>e=.returned (.int .i64 (preS cs cs.length))∧w'=w:=by
 obtain ⟨a,cap,rfl,h2,h3,h4⟩:=hv
 obtain ⟨n,hn⟩:=gN (cs.length)
 rw[hn]at h2 hl ⊢
 have HN:=h_ hn
 have H4:=h_ h4
 have HC:=h_ hc
 clear hn h4 hc
 go_enter Tryz.func37,Tryz.ntmps37
 go_wp2
 go_loop [3,8] (fun s i=>∃k:Nat,k≤n∧i=.int .i64 k∧s=.int .i64 (preS cs k)) (fun _ i=>n - (intOf i).toNat)
 case atStart=>exact ⟨0,Nat.zero_le _,rfl,by rw[preS_zero]⟩
 case round=>
  obtain ⟨k,hk,rfl,rfl⟩:=hrel
  by_cases hlt:k<n
  ·obtain ⟨x,hx⟩:=some_at (cs:=cs) (p:=k) (by have:=HN.out;omega)
   obtain ⟨b,off,rfl,hcl⟩:=H4.out.resolve_left (fun e=>by rw[e]at hx;simp at hx)
   have cx:=hcl k x hx
   have HX:=h_ (preS_succ hx)
   have hx1:=HC.out x (List.mem_of_getElem? hx)
   have hb:=preS_bound HC.out k
   have hb0:=preS_mono (fun c h=>(HC.out c h).1) 0 k (Nat.zero_le _)
   rw[preS_zero]at hb0
   have hlt':(k:Int)<(n:Int):=by omega
   obtain ⟨s,hs⟩:=gN (preS cs k)
   rw[hs]at hb hb0 HX ⊢
   have hb1:s≤12000000:=by omega
   clear hcl hx hs hb
   go_wp2
   go_round
   case rel=>exact ⟨k+1,by omega,by go_num,by rw[HX.out]⟩
   case measure=>simp[intOf];omega
  ·obtain rfl:k=n:=by omega
   go_wp2
   go_ret
   exact ⟨rfl,rfl⟩
end Go.Proofs.YtpniemnfdleiialGreat
