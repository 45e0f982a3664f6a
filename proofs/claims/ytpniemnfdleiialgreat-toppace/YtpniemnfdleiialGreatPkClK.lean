/- The small functions of package clock: mayTake, takes, key, latest. -/
import Derived.Test.YtpniemnfdleiialGreatPkClG
import Derived.Test.YtpniemnfdleiialGreatPkPnF
import Derived.Deep.RegionHeld3
import Derived.Deep.CutRange
namespace Go.Proofs.YtpniemnfdleiialGreat
open Go.RowKit
set_option maxHeartbeats 1600000 in
set_option maxRecDepth 100000 in
theorem maytake_any(x:Int)(w:World):Calls Tryz.prog 75 #[.int .i64 x] w fun e w'=>e=.returned (.bool (okT x))∧w'=w:=by
 by_cases e1:1≤x
 ·by_cases e2:x≤1000000
  ·have HA:=h_ (show true=okT x by simp[okT,e1,e2])
   go_enter Tryz.func75,Tryz.ntmps75
   go_wp2
   go_ret
   exact ⟨ret_bool HA.out,rfl⟩
  ·have HA:=h_ (show false=okT x by simp[okT,e2])
   go_enter Tryz.func75,Tryz.ntmps75
   go_wp2
   go_ret
   exact ⟨ret_bool HA.out,rfl⟩
 ·have HA:=h_ (show false=okT x by simp[okT,e1])
  go_enter Tryz.func75,Tryz.ntmps75
  go_wp2
  go_ret
  exact ⟨ret_bool HA.out,rfl⟩
set_option maxHeartbeats 1600000 in
set_option maxRecDepth 100000 in
theorem takes_any(k m x y:Int)(w:World):Calls Tryz.prog 44 #[.agg #[.int .i64 k,.int .i64 m],.int .i64 x,.int .i64 y] w fun e w'=>e=.returned (.int .i64 (if k=1 then x else y))∧Below w.heap.size w w':=by
 by_cases e1:k=1
 ·rw[if_pos e1]
  subst e1
  go_enter Tryz.func44,Tryz.ntmps44
  go_wp2
  go_ret
  exact ⟨rfl,o_ _ _⟩
 ·rw[if_neg e1]
  have n1:(k==1)=false:=by simpa using e1
  clear e1
  go_enter Tryz.func44,Tryz.ntmps44
  go_wp2
  go_ret
  exact ⟨rfl,o_ _ _⟩
set_option maxHeartbeats 1600000 in
set_option maxRecDepth 100000 in
theorem ckey_any(s k m:Int)(w:World):Calls Tryz.prog 45 #[.int .i64 s,.agg #[.int .i64 k,.int .i64 m]] w fun e w'=>e=.returned (.agg #[.int .i64 s,.int .i64 k,.int .i64 m])∧Below w.heap.size w w':=by
 go_enter Tryz.func45,Tryz.ntmps45
 go_wp2
 exact bodyPost_ret (v:=.agg #[.int .i64 s,.int .i64 k,.int .i64 m]) (by simp[results,Tryz.results45,go_sem]) rfl ⟨rfl,below_go (o_ _ _) (o_ _ _)⟩
def IsKeys (w:World) (v:Value) (l:List (Int×Int×Int)):Prop:=
 ∃(a:Option Addr) (cap:Nat),v=.slice a l.length cap∧l.length≤cap∧cap≤maxLen∧(l=[]∨∃b off,a=some ⟨b,off,none⟩∧∀i x,l[i]?=some x→w.cell? ⟨b,off+i*3,none⟩=some (.int .i64 x.1)∧w.cell? ⟨b,off+i*3+1,none⟩=some (.int .i64 x.2.1)∧w.cell? ⟨b,off+i*3+2,none⟩=some (.int .i64 x.2.2))
theorem infoKey:(Tryz.prog.info? 106).map (fun i=>(i.zero,i.size,i.bytes))=some (some (.agg #[.int .i64 0,.int .i64 0,.int .i64 0]),3,24):=by kernel_rfl
def cellsK (l:List (Int×Int×Int)):List Value:=l.flatMap (fun a=>[Value.int .i64 a.1,Value.int .i64 a.2.1,Value.int .i64 a.2.2])
theorem cellsK_at:∀{l:List (Int×Int×Int)} {i:Nat} {x:Int×Int×Int},l[i]?=some x→(cellsK l)[i*3]?=some (.int .i64 x.1)∧(cellsK l)[i*3+1]?=some (.int .i64 x.2.1)∧(cellsK l)[i*3+2]?=some (.int .i64 x.2.2)
 |[],i,x,h=>by simp at h
 |y::t,0,x,h=>by
  have:y=x:=by simpa using h
  subst this;exact ⟨rfl,rfl,rfl⟩
 |y::t,i+1,x,h=>by
  have:=cellsK_at (l:=t) (i:=i) (x:=x) (by simpa using h)
  have e:cellsK (y::t)=Value.int .i64 y.1::Value.int .i64 y.2.1::Value.int .i64 y.2.2::cellsK t:=rfl
  rw[e,show (i+1)*3=i*3+1+1+1 by omega]
  exact this
theorem cellsK_snoc(l:List (Int×Int×Int))(x:Int×Int×Int):cellsK (l++[x])=cellsK l++[.int .i64 x.1,.int .i64 x.2.1,.int .i64 x.2.2]:=by simp[cellsK]
def OwnK (w:World) (base:Nat) (v:Value) (l:List (Int×Int×Int)):Prop:=w.ownsRow base 106 3 v l.length (cellsK l)
theorem OwnK.nil(w:World)(base:Nat):OwnK w base (.slice none 0 0) []:=World.ownsRow_nil _ _ _ _
theorem OwnK.alloc{w:World}{base:Nat}{v:Value}{l:List (Int×Int×Int)}(h:OwnK w base v l)(o:Obj):OwnK (w.alloc o) base v l:=World.ownsRow.alloc h o
theorem OwnK.u_{w w':World}{base:Nat}{v:Value}{l:List (Int×Int×Int)}(h:OwnK w base v l)(hb:Below w.heap.size w w'):OwnK w' base v l:=by
 refine World.ownsRow.kept (row:=none) h ⟨hb.os,hb.tape,hb.output,hb.size,fun k hk _=>hb.block k hk⟩ ?_
 cases e:v.ownBlock with
 |none=>exact .inl rfl
 |some k=>exact .inr (by simp)
theorem OwnK.isKeys{w:World}{base:Nat}{v:Value}{l:List (Int×Int×Int)}(h:OwnK w base v l):IsKeys w v l:=by
 have hc:=fun g e=>World.ownsRow.cells h (g:=g) e
 obtain ⟨h1,h2⟩:=h
 rcases h2 with ⟨rfl,e⟩|⟨g,cap,cur,rfl,_,_,h3,h4,_,_⟩
 ·obtain rfl:l=[]:=List.eq_nil_of_length_eq_zero e
  exact ⟨none,0,rfl,Nat.le_refl _,Nat.zero_le _,.inl rfl⟩
 ·refine ⟨some ⟨g,0,none⟩,cap,rfl,h3,h4,.inr ⟨g,0,rfl,fun i x hx=>?_⟩⟩
  obtain ⟨q1,q2,q3⟩:=cellsK_at hx
  have c1:=hc g rfl _ _ q1
  have c2:=hc g rfl _ _ q2
  have c3:=hc g rfl _ _ q3
  rw[Addr.add_lit]at c1 c2 c3
  exact ⟨c1,by rw[Nat.add_assoc];exact c2,by rw[Nat.add_assoc];exact c3⟩
theorem OwnK.shape{w:World}{base:Nat}{v:Value}{l:List (Int×Int×Int)}(h:OwnK w base v l):∃a k,v=.slice a l.length k:=by
 obtain ⟨a,cap,h1,_⟩:=h.isKeys
 exact ⟨a,cap,h1⟩
theorem app_key{w:World}{ops:Array Oper}{rest:List Oper}{o:Oper}{a:Act}{Q:Exit→Act→World→Prop}(hgd:o.guard=none)(s x:Operand)
  (ho:o.op=.call { callee:=.builtin .append,args:=#[s,x],argTypes:=#[101,101] }) (base:Nat) (v:Value) (l:List (Int×Int×Int)) (k1 k2 k3:Int) (hs:a.eval s=v) (hown:OwnK w base v l) (hx:a.eval x=.slice (some ⟨w.heap.size,0,none⟩) 1 1)
  (hsm:l.length≤1000) (hbase:base≤w.heap.size)
  (h:∀v' w',OwnK w' base v' (l++[(k1,k2,k3)])→(∀w0:World,Below w0.heap.size w0 w→w0.heap.size≤base→Below w0.heap.size w0 w')→wpList Tryz.prog ops Q rest (a.put o.dst v') w'):wpList Tryz.prog ops Q (o::rest) a (w.alloc (.cells #[.int .i64 k1,.int .i64 k2,.int .i64 k3] 106)):=by
 obtain ⟨e0,ei,hz0,hz1,hz2⟩:=info_parts infoKey
 have hown2:=hown.alloc (.cells #[.int .i64 k1,.int .i64 k2,.int .i64 k3] 106)
 refine wpList_append_own _ hgd s x 101 ho base 106 e0 (.agg #[.int .i64 0,.int .i64 0,.int .i64 0]) 3 24 Tryz.underlying101 ei hz0 hz1 hz2 rfl (by decide) v _ _ hs hown2 ⟨w.heap.size,0,none⟩ 1 1 [.int .i64 k1,.int .i64 k2,.int .i64 k3] hx rfl ?_ ?_ (by unfold maxLen;omega) (by omega) (by rw[World.size_alloc];omega) ?_
 ·intro j u hj
  match j,hj with
  |0,hj=>simp at hj;subst hj;simp[Addr.add]
  |1,hj=>simp at hj;subst hj;simp[Addr.add]
  |2,hj=>simp at hj;subst hj;simp[Addr.add]
 ·intro u hu;simp at hu;rcases hu with rfl|rfl|rfl<;>rfl
 ·intro v' w' ho' hg _
  refine h v' w' ?_ (fun w0 hb hle=>(below_go hb (o_ w _)).grown hg (Nat.le_trans hb.size (o_ w _).size) (fun k hk=>Nat.le_trans hle (World.ownsRow.lt hown k hk).1))
  unfold OwnK
  rw[List.length_append,cellsK_snoc]
  exact ho'
theorem latC_drop{M:List ((Int×Int×Int)×Int)}{l:Int}{ks:List (Int×Int×Int)}{i:Nat}{d:Int×Int×Int}(h:ks[i]?=some d):latC M l (ks.drop i)=match lookC M d with|none=>none|some e=>latC M (if l<e then e else l) (ks.drop (i+1)):=by
 obtain ⟨hi,rfl⟩:=List.getElem?_eq_some_iff.1 h
 rw[List.drop_eq_getElem_cons hi,latC]
 cases lookC M ks[i]<;>rfl
set_option maxHeartbeats 8000000 in
set_option maxRecDepth 100000 in
theorem latest_any(b:Nat)(v:Value)(M:List ((Int×Int×Int)×Int))(ks:List (Int×Int×Int))(w:World)(hm:Ends w b M)(hv:IsKeys w v ks)(hok:∀d∈ks,okD d)(hl:ks.length≤2):Calls Tryz.prog 42 #[.map (some b),v] w fun e w'=>e=.returned (.tuple #[.int .i64 ((latC M 0 ks).getD 0),.bool (latC M 0 ks).isSome])∧Below w.heap.size w w':=by
 have HM:=h_ hm
 have HOK:=h_ hok
 obtain ⟨a,cap,rfl,h2,h3,h4⟩:=hv
 obtain ⟨n,hn⟩:=gN (ks.length)
 have H4:=h_ h4
 have HN:=h_ hn
 rw[hn]at h2 hl ⊢
 clear hm hok h4 hn
 obtain ⟨RV,hRV⟩:=gM ((latC M 0 ks).getD 0)
 obtain ⟨RB,hRB⟩:=gM ((latC M 0 ks).isSome)
 rw[←hRV,←hRB]
 have HR:=h_ (And.intro hRV hRB)
 clear hRV hRB
 go_enter Tryz.func42,Tryz.ntmps42
 go_wp2
 go_loopw [6,8,9,10,13] (fun lv _ _ _ iv wr=>∃(k:Nat) (xi l:Int),k≤n∧xi=(k:Int)∧iv=.int .i64 xi∧lv=.int .i64 l∧Below w.heap.size w wr∧latC M 0 ks=latC M l (ks.drop k)) (fun _ _ _ _ iv _=>n - (intOf iv).toNat)
 case atStart=>exact ⟨0,0,0,Nat.zero_le _,rfl,rfl,rfl,Below.refl _ _,by rw[List.drop_zero]⟩
 case round=>
  obtain ⟨k,xi,l,hk,hxi,rfl,rfl,hbw,hla⟩:=hrel
  have HBW:=h_ hbw
  have HLA:=h_ hla
  have HXI:=h_ hxi
  have hx0:0≤xi:=by omega
  have hx1:xi≤2:=by omega
  clear hbw hla hxi
  by_cases hlt:xi<(n:Int)
  ·have hkl:k<ks.length:=by have:=HN.out;have:=HXI.out;omega
   obtain ⟨d,hd⟩:∃d,ks[k]?=some d:=⟨_,List.getElem?_eq_getElem hkl⟩
   obtain ⟨b1,o1,ha1,hc1⟩:=H4.out.resolve_left (fun e=>by rw[e]at hd;simp at hd)
   subst ha1
   obtain ⟨c1,c2,c3⟩:=hc1 k d hd
   have hokd:=HOK.out d (List.mem_of_getElem? hd)
   have hld:=latC_drop (M:=M) (l:=l) hd
   obtain ⟨d1,d2,d3⟩:=d
   dsimp only at c1 c2 c3
   have hrun:=(HM.out.u_ (below_go HBW.out (o_ wr (.cells #[.int .i64 d1,.int .i64 d2,.int .i64 d3] 106)))).look hokd
   unfold keyD at hrun
   dsimp only at hrun
   replace c1:=cell_bel HBW.out c1
   replace c2:=cell_bel HBW.out c2
   replace c3:=cell_bel HBW.out c3
   rw[show k=xi.toNat by have:=HXI.out;omega]at c1 c2 c3
   have HB2:=h_ (below_go HBW.out (o_ wr (.cells #[.int .i64 d1,.int .i64 d2,.int .i64 d3] 106)))
   clear hc1 hkl hd hokd
   cases hq:lookC M (d1,d2,d3) with
   |none=>
    rw[hq]at hrun hld
    have HZ:=h_ (show latC M 0 ks=none by rw[HLA.out,hld])
    have HV:=h_ (show (0:Int)=RV∧false=RB by rw[HR.out.1,HR.out.2,HZ.out];exact ⟨rfl,rfl⟩)
    dsimp only[Option.getD,Option.isSome]at hrun
    clear hld hq
    go_wp2
    exact bodyPost_ret (v:=.tuple #[.int .i64 0,.bool false]) (by simp[results,Tryz.results42,go_sem]) rfl ⟨by rw[←HV.out.1,←HV.out.2],HB2.out⟩
   |some x=>
    rw[hq]at hrun hld
    dsimp only at hld
    dsimp only[Option.getD,Option.isSome]at hrun
    by_cases hc:l<x
    ·have HZ:=h_ (show latC M 0 ks=latC M x (ks.drop (k+1)) by rw[HLA.out,hld,if_pos hc])
     clear hld hq
     go_wp2
     go_roundw
     case rel=>exact ⟨k+1,_,_,by have:=HXI.out;omega,by have:=HXI.out;omega,rfl,rfl,HB2.out,HZ.out⟩
     case measure=>have:=HXI.out;simp[intOf];omega
    ·have HZ:=h_ (show latC M 0 ks=latC M l (ks.drop (k+1)) by rw[HLA.out,hld,if_neg hc])
     clear hld hq
     go_wp2
     go_roundw
     case rel=>exact ⟨k+1,_,_,by have:=HXI.out;omega,by have:=HXI.out;omega,rfl,rfl,HB2.out,HZ.out⟩
     case measure=>have:=HXI.out;simp[intOf];omega
  ·have HZ:=h_ (show latC M 0 ks=some l by rw[HLA.out,List.drop_of_length_le (by have:=HN.out;have:=HXI.out;omega)];rfl)
   have HV:=h_ (show l=RV∧true=RB by rw[HR.out.1,HR.out.2,HZ.out];exact ⟨rfl,rfl⟩)
   go_wp2
   exact bodyPost_ret (v:=.tuple #[.int .i64 l,.bool true]) (by simp[results,Tryz.results42,go_sem]) rfl ⟨by rw[←HV.out.1,←HV.out.2],HBW.out⟩
set_option maxHeartbeats 16000000 in
set_option maxRecDepth 100000 in
theorem stage_any(s m:Int)(v:Value)(l:List (Int×Int))(b:Nat)(L:List (Int×Int×Int))(w:World)(hv:IsActs w v l)(hd:Deeds w b L)(hs:0≤s∧s≤50)(hm:1≤m∧m≤12)(hL:∀d∈L,d.1≠s):
  Calls Tryz.prog 95 #[.int .i64 s,v,.int .i64 m,.map (some b)] w fun e w'=>e=.returned (errV (actsE l m))∧(actsE l m=0→Deeds w' b (L++deedsOf s l))∧w.grownBy w' (some b):=by
 have hlen:=hv.len
 unfold maxLen at hlen
 obtain ⟨M,hM⟩:∃M:Nat,m=(M:Int):=⟨m.toNat,by omega⟩
 obtain ⟨a,cap,rfl,h2,h3,h4⟩:=hv
 obtain ⟨n,hn⟩:=gN (l.length)
 have HN:=h_ hn
 have H4:=h_ h4
 have HD:=h_ hd
 have HL:=h_ hL
 have HS:=h_ hs
 have HM:=h_ hM
 have hm1:1≤m:=hm.1
 have hm2:m≤12:=hm.2
 rw[hn]at h2 hlen ⊢
 clear hn h4 hd hL hs hm hM
 go_enter Tryz.func95,Tryz.ntmps95
 go_wp2
 go_loopw [17] (fun i wr=>∃(k:Nat) (xi:Int),k≤n∧xi=(k:Int)∧i=.int .i64 xi∧Below w.heap.size w wr∧∀j x,j<k→l[j]?=some x→okA m x) (fun i _=>n - (intOf i).toNat)
 case atStart=>exact ⟨0,0,Nat.zero_le _,rfl,rfl,Below.refl _ _,fun j x hj _=>by omega⟩
 case round=>
  obtain ⟨k,xi,hk,hxi,rfl,hb,he⟩:=hrel
  have HB:=h_ hb
  have HE:=h_ he
  have HXI:=h_ hxi
  have hx0:0≤xi:=by omega
  have hx1:xi≤9223372036854775807:=by omega
  clear hb he hxi
  by_cases hlt:xi<(n:Int)
  ·obtain ⟨x,hx⟩:=act_at (l:=l) (i:=k) (by have:=HN.out;have:=HXI.out;omega)
   obtain ⟨b2,off,ha,hcl⟩:=H4.out.resolve_left (fun e=>by rw[e]at hx;simp at hx)
   subst ha
   obtain ⟨d1,d2⟩:=hcl k x hx
   rw[show k=xi.toNat by have:=HXI.out;omega]at d1 d2
   obtain ⟨ak,am⟩:=x
   dsimp only at d1 d2
   replace d1:=cell_bel HB.out d1
   replace d2:=cell_bel HB.out d2
   have HX:=h_ hx
   have HBA:=h_ (below_go HB.out (o_ wr (.cells #[.int .i64 ak,.int .i64 am] 105)))
   have HC:=h_ (isact_any ak am m (wr.alloc (.cells #[.int .i64 ak,.int .i64 am] 105)))
   clear hcl hx
   by_cases hok:okAB m (ak,am)=true
   ·rw[hok]at HC
    have HU:=h_ (show ∀j x,j<k+1→l[j]?=some x→okA m x by
     intro j x hj hx
     rcases Nat.lt_or_ge j k with h|h
     ·exact HE.out j x h hx
     ·rw[show j=k by omega,HX.out]at hx
      rw[←Option.some.inj hx];exact okAB_iff.1 hok)
    clear hok
    go_wp2_with (go_at_call 108;refine HC.out.mono ?_;rintro e w1 ⟨rfl,hb1⟩)
    have HB1:=h_ (below_go HBA.out hb1)
    clear hb1
    go_wp2
    go_roundw
    case rel=>exact ⟨k+1,_,by have:=HXI.out;omega,by have:=HXI.out;omega,rfl,HB1.out,HU.out⟩
    case measure=>have:=HXI.out;simp[intOf];omega
   ·have HA:=h_ (actsE_one (m:=m) HX.out (fun e=>hok (okAB_iff.2 e)))
    rw[Bool.not_eq_true]at hok
    rw[hok]at HC
    clear hok
    go_wp2_with (go_at_call 108;refine HC.out.mono ?_;rintro e w1 ⟨rfl,hb1⟩)
    have HB1:=h_ (below_go HBA.out hb1)
    clear hb1
    go_wp2
    go_ret
    exact ⟨R_ (err_of HA.out (by decide)),fun e=>absurd (HA.out.trans e) (by decide),grow_of HB1.out _⟩
  ·have HALL:=h_ (all_okA (l:=l) (m:=m) (fun i x hi hx=>HE.out i x (by have:=HN.out;have:=HXI.out;omega) hx))
   have HG0:=h_ (show w.grownBy wr (some b) from grow_of HB.out _)
   have HD0:=h_ (show Deeds wr b (L++deedsOf s (l.take 0)) by rw[List.take_zero];simpa [deedsOf] using HD.out.u_ HB.out)
   go_wp2
   go_loopw [29] (fun i wq=>∃(k:Nat) (xi:Int),k≤n∧xi=(k:Int)∧i=.int .i64 xi∧w.grownBy wq (some b)∧Deeds wq b (L++deedsOf s (l.take k))) (fun i _=>n - (intOf i).toNat)
   case atStart=>exact ⟨0,0,Nat.zero_le _,rfl,rfl,HG0.out,HD0.out⟩
   case round=>
    obtain ⟨k2,xj,hk2,hxj,rfl,hg,hdd⟩:=hrel
    have HG:=h_ hg
    have HDD:=h_ hdd
    have HXJ:=h_ hxj
    have hy0:0≤xj:=by omega
    have hy1:xj≤9223372036854775807:=by omega
    clear hg hdd hxj
    by_cases hlt:xj<(n:Int)
    ·obtain ⟨x,hx⟩:=act_at (l:=l) (i:=k2) (by have:=HN.out;have:=HXJ.out;omega)
     obtain ⟨b2,off,ha,hcl⟩:=H4.out.resolve_left (fun e=>by rw[e]at hx;simp at hx)
     subst ha
     obtain ⟨d1,d2⟩:=hcl k2 x hx
     have hokx:=HALL.out x (List.mem_of_getElem? hx)
     rw[show k2=xj.toNat by have:=HXJ.out;omega]at d1 d2
     obtain ⟨ak,am⟩:=x
     dsimp only at d1 d2
     replace d1:=cell_grow HD.out HG.out d1
     replace d2:=cell_grow HD.out HG.out d2
     have HX:=h_ hx
     have HOK:=h_ (show okD (s,ak,am) by
      obtain ⟨q1,q2,q3,q4⟩:=hokx
      obtain ⟨r1,r2⟩:=HS.out
      dsimp only at q1 q2 q3 q4
      exact ⟨r1,by show s≤100;omega,by show 0≤ak;omega,by show ak≤100;omega,q3,by show am≤100;omega⟩)
     clear hcl hx hokx
     have HBA:=h_ (below_go (o_ wr (.cells #[.int .i64 ak,.int .i64 am] 105)) (o_ (wr.alloc (.cells #[.int .i64 ak,.int .i64 am] 105)) (.cells #[.int .i64 s,.int .i64 ak,.int .i64 am] 184)))
     have HH:=h_ (has_any b s ak am _ ((wr.alloc (.cells #[.int .i64 ak,.int .i64 am] 105)).alloc (.cells #[.int .i64 s,.int .i64 ak,.int .i64 am] 184)) (HDD.out.u_ HBA.out) HOK.out)
     by_cases hin:(s,ak,am)∈L++deedsOf s (l.take k2)
     ·have HA:=h_ (actsE_two HALL.out (not_apart HX.out ((mem_deeds HL.out).1 hin)))
      rw[show decide ((s,ak,am)∈L++deedsOf s (l.take k2))=true by simpa using hin]at HH
      clear hin
      go_wp2_with (go_at_call 109;refine HH.out.mono ?_;rintro e w1 ⟨rfl,hb1⟩)
      have HB1:=h_ (below_go HBA.out hb1)
      clear hb1
      go_wp2
      go_ret
      exact ⟨R_ (err_of HA.out (by decide)),fun e=>absurd (HA.out.trans e) (by decide),HG.out.trans (grow_of HB1.out _)⟩
     ·have HNI:=h_ hin
      rw[show decide ((s,ak,am)∈L++deedsOf s (l.take k2))=false by simpa using hin]at HH
      clear hin
      go_wp2_with (first|(go_at_call 109;refine HH.out.mono ?_;rintro e w1 ⟨rfl,hb1⟩;obtain ⟨z0,z1,z2⟩:=pn_new3 (wr.alloc (.cells #[.int .i64 ak,.int .i64 am] 105)) (.int .i64 s) (.int .i64 ak) (.int .i64 am) 184 hb1 (B:=wr.heap.size+1) (by simp);have HB1:=h_ (below_go HBA.out hb1);clear hb1)|(go_at_call 110;refine (dadd_any b s ak am _ _ (HDD.out.u_ HB1.out) HOK.out HNI.out).mono ?_;rintro e w2 ⟨rfl,hd2,hg2⟩))
      have HD2:=h_ (show Deeds w2 b (L++deedsOf s (l.take (k2+1))) by rw[deeds_snoc HX.out];exact hd2)
      have HG2:=h_ (HG.out.trans ((grow_of HB1.out (some b)).trans hg2))
      clear hd2 hg2
      go_wp2
      go_roundw
      case rel=>exact ⟨k2+1,_,by have:=HXJ.out;omega,by have:=HXJ.out;omega,rfl,HG2.out,HD2.out⟩
      case measure=>have:=HXJ.out;simp[intOf];omega
    ·have HDE:=h_ (show Deeds wr b (L++deedsOf s l) by have:=HDD.out;rw[List.take_of_length_le (by have:=HN.out;have:=HXJ.out;omega)]at this;exact this)
     have HAP:=h_ (deeds_apart HDE.out.nodup)
     by_cases hlm:(n:Int)<2*m
     ·have HA:=h_ (actsE_less HALL.out HAP.out (by rw[HN.out];exact hlm))
      go_wp2
      go_ret
      exact ⟨R_ (err_of HA.out (by decide)),fun e=>absurd (HA.out.trans e) (by decide),HG.out⟩
     ·have HLM:=h_ (show ¬(l.length:Int)<2*(M:Int) by rw[HN.out,←HM.out];exact hlm)
      obtain ⟨WD,hWD⟩:=gM (wr)
      subst hWD
      go_wp2
      go_loopw [51] (fun i wq=>∃(k:Nat) (xi:Int),k≤M∧xi=(k:Int)∧i=.int .i64 xi∧Below WD.heap.size WD wq∧∀p:Nat,p<k→¬posD (s,2,(p:Int)) (L++deedsOf s l)<posD (s,1,(p:Int)) (L++deedsOf s l)) (fun i _=>M - (intOf i).toNat)
      case atStart=>exact ⟨0,0,Nat.zero_le _,rfl,rfl,Below.refl _ _,fun p hp=>by omega⟩
      case round=>
       obtain ⟨p,xp,hp,hxp,rfl,hb3,he3⟩:=hrel
       have HB3:=h_ hb3
       have HE3:=h_ he3
       have HXP:=h_ hxp
       have hz0:0≤xp:=by omega
       have hz1:xp≤9223372036854775807:=by have:=HM.out;omega
       clear hb3 he3 hxp
       by_cases hlt3:xp<m
       ·obtain ⟨vb,hvb⟩:=gN (posD (s,2,(p:Int)) (L++deedsOf s l))
        obtain ⟨vf,hvf⟩:=gN (posD (s,1,(p:Int)) (L++deedsOf s l))
        have HLK:=h_ (show ∀W',Below wr.heap.size wr W'→(Instr.lookup 169 (.map (some b)) (.agg #[.int .i64 s,.int .i64 2,.int .i64 xp]) false).run Tryz.prog W'=.ok (.int .i64 vb) W'∧(Instr.lookup 169 (.map (some b)) (.agg #[.int .i64 s,.int .i64 1,.int .i64 xp]) false).run Tryz.prog W'=.ok (.int .i64 vf) W' by
         intro W' hW
         have hD:=HDE.out.u_ (below_go HB3.out hW)
         obtain ⟨r1,r2⟩:=HS.out
         have hx:=HXP.out
         have q2:=hD.look (d:=(s,2,(p:Int))) ⟨r1,by show s≤100;omega,by show (0:Int)≤2;decide,by show (2:Int)≤100;decide,by show 0≤(p:Int);omega,by show (p:Int)≤100;omega⟩ false
         have q1:=hD.look (d:=(s,1,(p:Int))) ⟨r1,by show s≤100;omega,by show (0:Int)≤1;decide,by show (1:Int)≤100;decide,by show 0≤(p:Int);omega,by show (p:Int)≤100;omega⟩ false
         rw[hvb]at q2
         rw[hvf]at q1
         unfold keyD at q1 q2
         dsimp only at q1 q2
         rw[←hx]at q1 q2
         exact ⟨by simpa using q2,by simpa using q1⟩)
        have HV:=h_ (And.intro hvb hvf)
        clear hvb hvf
        go_wp2
        go_cut [66] from 54 to 66 (fun c wx=>c=.bool (decide (vb<vf))∧Below wr.heap.size wr wx)
        case first=>
         obtain ⟨lm1,lm2⟩:=HLK.out wr (Below.refl _ _)
         go_region_held3 (fun W'=>(Instr.lookup 169 (.map (some b)) (.agg #[.int .i64 s,.int .i64 2,.int .i64 xp]) false).run Tryz.prog W'=.ok (.int .i64 vb) W'∧(Instr.lookup 169 (.map (some b)) (.agg #[.int .i64 s,.int .i64 1,.int .i64 xp]) false).run Tryz.prog W'=.ok (.int .i64 vf) W')
          ((refine HLK.out _ ?_;repeat' (first|with_reducible exact Below.refl _ _|with_reducible refine pn_drew ?_|with_reducible refine below_go ?_ hbB|with_reducible refine below_go ?_ hbF)))
          (first|(go_at_call 94;refine (bwd_any _ _).mono ?_;rintro e wB ⟨rfl,hbB⟩)|(go_at_call 93;refine (fwd_any _ _).mono ?_;rintro e wF ⟨rfl,hbF⟩))
         all_goals go_wp2
         all_goals go_meet
         all_goals
          refine ⟨rfl,?_⟩
          repeat' (first|with_reducible exact Below.refl _ _|with_reducible refine pn_drew ?_|with_reducible refine below_go ?_ hbB|with_reducible refine below_go ?_ hbF)
        case rest=>
         obtain ⟨rfl,hbc⟩:=hcut
         have HBC:=h_ (below_go HB3.out hbc)
         clear hbc
         by_cases hvv:vb<vf
         ·have HA:=h_ (actsE_back HALL.out HAP.out (by have:=HLM.out;have:=HM.out;omega) (back_first (s:=s) (L:=L) (m:=M) (p:=p) (by rw[←HM.out];exact HALL.out) HDE.out.nodup (by have:=HLM.out;omega) (by have:=HXP.out;have:=HM.out;omega) (by rw[HV.out.1,HV.out.2];exact hvv)))
          go_wp2
          go_ret
          exact ⟨R_ (err_of HA.out (by decide)),fun e=>absurd (HA.out.trans e) (by decide),HG.out.trans (grow_of HBC.out _)⟩
         ·have HU:=h_ (show ∀q:Nat,q<p+1→¬posD (s,2,(q:Int)) (L++deedsOf s l)<posD (s,1,(q:Int)) (L++deedsOf s l) by
           intro q hq
           rcases Nat.lt_or_ge q p with h|h
           ·have:=HE3.out q h;omega
           ·rw[show q=p by omega,HV.out.1,HV.out.2];exact hvv)
          go_wp2
          go_roundw
          case rel=>exact ⟨p+1,_,by have:=HXP.out;have:=HM.out;omega,by have:=HXP.out;omega,rfl,HBC.out,HU.out⟩
          case measure=>have:=HXP.out;have:=HM.out;simp[intOf];omega
       ·have HA:=h_ (actsE_ok HALL.out HAP.out (by have:=HLM.out;have:=HM.out;omega) (all_ahead (s:=s) (L:=L) (m:=M) (by rw[←HM.out];exact HALL.out) HDE.out.nodup (fun q hq=>by have:=HE3.out q (by have:=HXP.out;have:=HM.out;omega);omega)))
        go_wp2
        go_ret
        exact ⟨R_ (err_no HA.out),fun _=>HDE.out.u_ HB3.out,HG.out.trans (grow_of HB3.out _)⟩
end Go.Proofs.YtpniemnfdleiialGreat
