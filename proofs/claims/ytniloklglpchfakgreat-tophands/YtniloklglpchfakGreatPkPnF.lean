/- The small functions of package plan: has, add, forward, backward, isAct, checkNumbers. -/
import Derived.Test.YtniloklglpchfakGreatPkPlA
import Derived.Test.YtniloklglpchfakGreatPkFix
import Derived.Deep.RegionHeld3
import Derived.Deep.CutRange
namespace Go.Proofs.YtniloklglpchfakGreat
open Go.RowKit
set_option maxHeartbeats 1600000 in
set_option maxRecDepth 100000 in
theorem has_any(b:Nat)(s k m:Int)(L:List (Int×Int×Int))(w:World)(hd:Deeds w b L)(hok:okD (s,k,m)):Calls Tryz.prog 88 #[.map (some b),.agg #[.int .i64 s,.int .i64 k,.int .i64 m]] w fun e w'=>e=.returned (.bool (decide ((s,k,m)∈L)))∧Below w.heap.size w w':=by
 have hrun:=(hd.u_ (o_ w (.cells #[.int .i64 s,.int .i64 k,.int .i64 m] 177))).look hok true
 rw[if_pos rfl]at hrun
 unfold keyD at hrun
 dsimp only at hrun
 obtain ⟨p,hp⟩:=gN (posD (s,k,m) L)
 obtain ⟨q,hq⟩:=gN (decide ((s,k,m)∈L))
 rw[hp,hq]at hrun
 rw[hq]
 clear hp hq hd hok
 go_enter Tryz.func88,Tryz.ntmps88
 go_wp2
 go_ret
 exact ⟨rfl,o_ _ _⟩
set_option maxHeartbeats 1600000 in
set_option maxRecDepth 100000 in
theorem dadd_any(b:Nat)(s k m:Int)(L:List (Int×Int×Int))(w:World)(hd:Deeds w b L)(hok:okD (s,k,m))(hn:(s,k,m) ∉ L):Calls Tryz.prog 89 #[.map (some b),.agg #[.int .i64 s,.int .i64 k,.int .i64 m]] w fun e w'=>e=.returned (.tuple #[])∧Deeds w' b (L++[(s,k,m)])∧w.grownBy w' (some b):=by
 have h1:=hd.u_ (o_ w (.cells #[.int .i64 s,.int .i64 k,.int .i64 m] 177))
 have hlen:=h1.len 3
 obtain ⟨w1,hrun,h2,hg⟩:=h1.add hok hn
 have HR:=h_ (And.intro h2 ((World.grownBy_alloc w (.cells #[.int .i64 s,.int .i64 k,.int .i64 m] 177) (some b)).trans hg))
 unfold keyD at hrun
 dsimp only at hrun
 obtain ⟨n,hn⟩:=gN ((L.length:Int))
 rw[hn]at hlen hrun
 clear hn hd hok h1 h2 hg
 go_enter Tryz.func89,Tryz.ntmps89
 go_wp2
 go_end0
 exact ⟨rfl,HR.out.1,HR.out.2⟩
set_option maxRecDepth 100000 in
theorem fwd_any(m:Int)(w:World):Calls Tryz.prog 91 #[.int .i64 m] w fun e w'=>e=.returned (.agg #[.int .i64 1,.int .i64 m])∧Below w.heap.size w w':=by
 go_enter Tryz.func91,Tryz.ntmps91
 go_wp2
 exact bodyPost_ret (v:=.agg #[.int .i64 1,.int .i64 m]) (by simp[results,Tryz.results91,go_sem]) rfl ⟨rfl,o_ _ _⟩
set_option maxRecDepth 100000 in
theorem bwd_any(m:Int)(w:World):Calls Tryz.prog 90 #[.int .i64 m] w fun e w'=>e=.returned (.agg #[.int .i64 2,.int .i64 m])∧Below w.heap.size w w':=by
 go_enter Tryz.func90,Tryz.ntmps90
 go_wp2
 exact bodyPost_ret (v:=.agg #[.int .i64 2,.int .i64 m]) (by simp[results,Tryz.results90,go_sem]) rfl ⟨rfl,o_ _ _⟩
set_option maxHeartbeats 1600000 in
set_option maxRecDepth 100000 in
theorem isact_any(k m n:Int)(w:World):Calls Tryz.prog 87 #[.agg #[.int .i64 k,.int .i64 m],.int .i64 n] w fun e w'=>e=.returned (.bool (okAB n (k,m)))∧Below w.heap.size w w':=by
 by_cases e1:k=1
 ·by_cases e2:0≤m
  ·have HA:=h_ (show decide (m<n)=okAB n (k,m) by simp[okAB,e1,e2])
   subst e1
   go_enter Tryz.func87,Tryz.ntmps87
   go_wp2
   go_ret
   exact ⟨ret_bool HA.out,o_ _ _⟩
  ·have HA:=h_ (show false=okAB n (k,m) by simp[okAB,e1,e2])
   subst e1
   go_enter Tryz.func87,Tryz.ntmps87
   go_wp2
   go_ret
   exact ⟨ret_bool HA.out,o_ _ _⟩
 ·by_cases e3:k=2
  ·by_cases e2:0≤m
   ·have HA:=h_ (show decide (m<n)=okAB n (k,m) by simp[okAB,e3,e2])
    subst e3
    go_enter Tryz.func87,Tryz.ntmps87
    go_wp2
    go_ret
    exact ⟨ret_bool HA.out,o_ _ _⟩
   ·have HA:=h_ (show false=okAB n (k,m) by simp[okAB,e3,e2])
    subst e3
    go_enter Tryz.func87,Tryz.ntmps87
    go_wp2
    go_ret
    exact ⟨ret_bool HA.out,o_ _ _⟩
  ·have HA:=h_ (show false=okAB n (k,m) by
    rw[eq_comm,Bool.eq_false_iff]
    intro h
    obtain ⟨h1,h2,_⟩:=okAB_iff.1 h
    dsimp only at h1 h2
    omega)
   have n1:(k !=1)=true:=by simpa using e1
   have n2:(k !=2)=true:=by simpa using e3
   clear e1 e3
   go_enter Tryz.func87,Tryz.ntmps87
   go_wp2
   go_ret
   exact ⟨ret_bool HA.out,o_ _ _⟩
def numE (s m:Int):Int:=if m<1∨12<m∨s<1∨6<s then 1 else 0
set_option maxHeartbeats 1600000 in
set_option maxRecDepth 100000 in
theorem numbers_any(s m:Int)(w:World):Calls Tryz.prog 57 #[.int .i64 s,.int .i64 m] w fun e w'=>e=.returned (errV (numE s m))∧w'=w:=by
 by_cases c1:m<1∨12<m∨s<1∨6<s
 ·have HA:=h_ (show 1=numE s m by unfold numE;rw[if_pos c1])
  go_enter Tryz.func57,Tryz.ntmps57
  by_cases d1:m<1
  ·clear c1
   go_wp2
   go_ret
   exact ⟨R_ (err_of HA.out (by decide)),rfl⟩
  ·by_cases d2:12<m
   ·clear c1
    go_wp2
    go_ret
    exact ⟨R_ (err_of HA.out (by decide)),rfl⟩
   ·by_cases d3:s<1
    ·clear c1
     go_wp2
     go_ret
     exact ⟨R_ (err_of HA.out (by decide)),rfl⟩
    ·have d4:6<s:=by omega
     clear c1
     go_wp2
     go_ret
     exact ⟨R_ (err_of HA.out (by decide)),rfl⟩
 ·have HA:=h_ (show 0=numE s m by unfold numE;rw[if_neg c1])
  have d1:¬m<1:=by omega
  have d2:¬12<m:=by omega
  have d3:¬s<1:=by omega
  have d4:¬6<s:=by omega
  clear c1
  go_enter Tryz.func57,Tryz.ntmps57
  go_wp2
  go_ret
  exact ⟨R_ (err_no HA.out),rfl⟩
theorem grow_of{w w':World}(hb:Below w.heap.size w w')(r:Option Nat):w.grownBy w' r:=⟨hb.os,hb.tape,hb.output,hb.size,fun k hk _=>hb.block k hk⟩
theorem pn_drew{V u:World}(h:Below V.heap.size V u):Below V.heap.size V u.drew:=r_ h
theorem pn_drewN{V u:World}{n:Nat}(h:Below V.heap.size V u):Below V.heap.size V (u.drewN n):=⟨h.os,h.tape,h.output,h.size,h.block⟩
theorem pn_new3(V:World)(x y z:Value)(t:TypeId){W:World}(hb:Below (V.alloc (.cells #[x,y,z] t)).heap.size (V.alloc (.cells #[x,y,z] t)) W){B:Nat}(hB:V.heap.size=B):W.cell? ⟨B,0,none⟩=some x∧W.cell? ⟨B,1,none⟩=some y∧W.cell? ⟨B,2,none⟩=some z:=by
 subst hB
 exact ⟨cell_bel hb (by simp),cell_bel hb (by simp),cell_bel hb (by simp)⟩
theorem Deeds.apart{w:World}{b:Nat}{L:List (Int×Int×Int)}(h:Deeds w b L){p:Addr}{v:Value}(hc:w.cell? p=some v):some p.block≠some b:=by
 intro e
 have e:=Option.some.inj e
 obtain ⟨es,clock,hb,_⟩:=h
 rw[←e]at hb
 simp[World.cell?,hb]at hc
theorem cell_grow{w w':World}{b:Nat}{L:List (Int×Int×Int)}(h:Deeds w b L)(hg:w.grownBy w' (some b)){p:Addr}{v:Value}(hc:w.cell? p=some v):w'.cell? p=some v:=hg.cell hc (h.apart hc)
theorem IsActs.deeds{w w':World}{v:Value}{l:List (Int×Int)}{b:Nat}{L:List (Int×Int×Int)}(h:IsActs w v l)(hd:Deeds w b L)(hg:w.grownBy w' (some b)):IsActs w' v l:=by
 obtain ⟨a,cap,h1,h2,h3,h4⟩:=h
 refine ⟨a,cap,h1,h2,h3,h4.imp id ?_⟩
 rintro ⟨b',off,ha,hc⟩
 exact ⟨b',off,ha,fun i x hx=>⟨cell_grow hd hg (hc i x hx).1,cell_grow hd hg (hc i x hx).2⟩⟩
def deedsOf (s:Int) (l:List (Int×Int)):List (Int×Int×Int):=l.map (fun a=>(s,a))
theorem mem_deedsOf{s:Int}{l:List (Int×Int)}{a:Int×Int}:(s,a)∈deedsOf s l↔a∈l:=by
 unfold deedsOf
 rw[List.mem_map]
 constructor
 ·rintro ⟨x,hx,e⟩
  rw[←(Prod.mk.inj e).2];exact hx
 ·exact fun h=>⟨a,h,rfl⟩
theorem mem_deeds{s:Int}{L:List (Int×Int×Int)}{l:List (Int×Int)}{a:Int×Int}(hL:∀d∈L,d.1≠s):(s,a)∈L++deedsOf s l↔a∈l:=by
 rw[List.mem_append,mem_deedsOf]
 constructor
 ·rintro (h|h)
  ·exact absurd rfl (hL _ h)
  ·exact h
 ·exact fun h=>.inr h
theorem take_snoc{l:List (Int×Int)}{k:Nat}{x:Int×Int}(h:l[k]?=some x):l.take (k+1)=l.take k++[x]:=by
 rw[List.take_add_one,h];rfl
theorem deeds_snoc{s:Int}{L:List (Int×Int×Int)}{l:List (Int×Int)}{k:Nat}{x:Int×Int}(h:l[k]?=some x):L++deedsOf s (l.take (k+1))=L++deedsOf s (l.take k)++[(s,x)]:=by
 rw[take_snoc h];simp[deedsOf]
theorem deeds_apart{s:Int}{L:List (Int×Int×Int)}{l:List (Int×Int)}(h:(L++deedsOf s l).Nodup):apart l:=by
 have h2:(deedsOf s l).Nodup:=(List.nodup_append.1 h).2.1
 intro i k x y hk hx hy e
 subst e
 have a1:(deedsOf s l)[i]?=some (s,x):=by simp[deedsOf,hx]
 have a2:(deedsOf s l)[k]?=some (s,x):=by simp[deedsOf,hy]
 have:=idx_at h2 a1
 have:=idx_at h2 a2
 omega
theorem not_apart{l:List (Int×Int)}{k:Nat}{x:Int×Int}(h:l[k]?=some x)(hm:x∈l.take k):¬apart l:=by
 intro ha
 obtain ⟨i,hi⟩:=List.getElem?_of_mem hm
 have hlt:i<k:=by
  have:=(List.getElem?_eq_some_iff.1 hi).1
  rw[List.length_take]at this
  omega
 rw[List.getElem?_take,if_pos hlt]at hi
 exact ha k i x x hlt h hi rfl
theorem pos_deeds{s:Int}{L:List (Int×Int×Int)}{l:List (Int×Int)}(h:(L++deedsOf s l).Nodup){i:Nat}{x:Int×Int}(hx:l[i]?=some x):posD (s,x) (L++deedsOf s l)=((L.length+i:Nat):Int):=
 posD_at h (by rw[List.getElem?_append_right (by omega)];simp[deedsOf,hx])
theorem back_first{s:Int}{L:List (Int×Int×Int)}{l:List (Int×Int)}{m:Nat}(h:∀x∈l,okA (m:Int) x)(h2:(L++deedsOf s l).Nodup)(h3:¬(l.length:Int)<2*(m:Int)){p:Nat}(hp:p<m)
  (hlt:posD (s,2,(p:Int)) (L++deedsOf s l)<posD (s,1,(p:Int)) (L++deedsOf s l)):¬ahead l:=by
 have ha:=deeds_apart h2
 obtain ⟨i,hi⟩:=List.getElem?_of_mem (act_in h ha h3 (x:=(1,(p:Int))) ⟨Int.le_refl 1,show (1:Int)≤2 by decide,Int.natCast_nonneg p,by show (p:Int)<m;omega⟩)
 obtain ⟨k,hk⟩:=List.getElem?_of_mem (act_in h ha h3 (x:=(2,(p:Int))) ⟨show (1:Int)≤2 by decide,Int.le_refl 2,Int.natCast_nonneg p,by show (p:Int)<m;omega⟩)
 rw[pos_deeds h2 hi,pos_deeds h2 hk]at hlt
 exact fun hq=>hq i k _ _ (by omega) hi hk ⟨rfl,rfl⟩
theorem all_ahead{s:Int}{L:List (Int×Int×Int)}{l:List (Int×Int)}{m:Nat}(h:∀x∈l,okA (m:Int) x)(h2:(L++deedsOf s l).Nodup)
  (hq:∀p:Nat,p<m→¬posD (s,2,(p:Int)) (L++deedsOf s l)<posD (s,1,(p:Int)) (L++deedsOf s l)):ahead l:=by
 have ha:=deeds_apart h2
 rintro i k ⟨xk,xm⟩ ⟨yk,ym⟩ hki hx hy ⟨e1,e2⟩
 dsimp only at e1 e2
 subst e1 e2
 obtain ⟨q1,q2,q3,q4⟩:=h _ (List.mem_of_getElem? hx)
 dsimp only at q1 q2 q3 q4
 obtain ⟨p,rfl⟩:∃p:Nat,xm=(p:Int):=⟨xm.toNat,by omega⟩
 have:xk=1∨xk=2:=by omega
 rcases this with rfl|rfl
 ·have:=hq p (by omega)
  rw[pos_deeds h2 hx,pos_deeds h2 hy]at this
  omega
 ·exact ha i k _ _ hki hx hy rfl
set_option maxHeartbeats 16000000 in
set_option maxRecDepth 100000 in
theorem stage_any(s m:Int)(v:Value)(l:List (Int×Int))(b:Nat)(L:List (Int×Int×Int))(w:World)(hv:IsActs w v l)(hd:Deeds w b L)(hs:0≤s∧s≤50)(hm:1≤m∧m≤12)(hL:∀d∈L,d.1≠s):
  Calls Tryz.prog 58 #[.int .i64 s,v,.int .i64 m,.map (some b)] w fun e w'=>e=.returned (errV (actsE l m))∧(actsE l m=0→Deeds w' b (L++deedsOf s l))∧w.grownBy w' (some b):=by
 have hlen:=hv.len
 unfold maxLen at hlen
 obtain ⟨M,hM⟩:∃M:Nat,m=(M:Int):=⟨m.toNat,by omega⟩
 obtain ⟨a,cap,rfl,h2,h3,h4⟩:=hv
 obtain ⟨n,hn⟩:=gN (l.length)
 have HN:=h_ hn
 have H4:=h_ h4
 have HD:=h_ hd
 have HL:=h_ hL
 have HS:=h_ hs
 have HM:=h_ hM
 have hm1:1≤m:=hm.1
 have hm2:m≤12:=hm.2
 rw[hn]at h2 hlen ⊢
 clear hn h4 hd hL hs hm hM
 go_enter Tryz.func58,Tryz.ntmps58
 go_wp2
 go_loopw [17] (fun i wr=>∃(k:Nat) (xi:Int),k≤n∧xi=(k:Int)∧i=.int .i64 xi∧Below w.heap.size w wr∧∀j x,j<k→l[j]?=some x→okA m x) (fun i _=>n - (intOf i).toNat)
 case atStart=>exact ⟨0,0,Nat.zero_le _,rfl,rfl,Below.refl _ _,fun j x hj _=>by omega⟩
 case round=>
  obtain ⟨k,xi,hk,hxi,rfl,hb,he⟩:=hrel
  have HB:=h_ hb
  have HE:=h_ he
  have HXI:=h_ hxi
  have hx0:0≤xi:=by omega
  have hx1:xi≤9223372036854775807:=by omega
  clear hb he hxi
  by_cases hlt:xi<(n:Int)
  ·obtain ⟨x,hx⟩:=act_at (l:=l) (i:=k) (by have:=HN.out;have:=HXI.out;omega)
   obtain ⟨b2,off,ha,hcl⟩:=H4.out.resolve_left (fun e=>by rw[e]at hx;simp at hx)
   subst ha
   obtain ⟨d1,d2⟩:=hcl k x hx
   rw[show k=xi.toNat by have:=HXI.out;omega]at d1 d2
   obtain ⟨ak,am⟩:=x
   dsimp only at d1 d2
   replace d1:=cell_bel HB.out d1
   replace d2:=cell_bel HB.out d2
   have HX:=h_ hx
   have HBA:=h_ (below_go HB.out (o_ wr (.cells #[.int .i64 ak,.int .i64 am] 60)))
   have HC:=h_ (isact_any ak am m (wr.alloc (.cells #[.int .i64 ak,.int .i64 am] 60)))
   clear hcl hx
   by_cases hok:okAB m (ak,am)=true
   ·rw[hok]at HC
    have HU:=h_ (show ∀j x,j<k+1→l[j]?=some x→okA m x by
     intro j x hj hx
     rcases Nat.lt_or_ge j k with h|h
     ·exact HE.out j x h hx
     ·rw[show j=k by omega,HX.out]at hx
      rw[←Option.some.inj hx];exact okAB_iff.1 hok)
    clear hok
    go_wp2_with (go_at_call 87;refine HC.out.mono ?_;rintro e w1 ⟨rfl,hb1⟩)
    have HB1:=h_ (below_go HBA.out hb1)
    clear hb1
    go_wp2
    go_roundw
    case rel=>exact ⟨k+1,_,by have:=HXI.out;omega,by have:=HXI.out;omega,rfl,HB1.out,HU.out⟩
    case measure=>have:=HXI.out;simp[intOf];omega
   ·have HA:=h_ (actsE_one (m:=m) HX.out (fun e=>hok (okAB_iff.2 e)))
    rw[Bool.not_eq_true]at hok
    rw[hok]at HC
    clear hok
    go_wp2_with (go_at_call 87;refine HC.out.mono ?_;rintro e w1 ⟨rfl,hb1⟩)
    have HB1:=h_ (below_go HBA.out hb1)
    clear hb1
    go_wp2
    go_ret
    exact ⟨R_ (err_of HA.out (by decide)),fun e=>absurd (HA.out.trans e) (by decide),grow_of HB1.out _⟩
  ·have HALL:=h_ (all_okA (l:=l) (m:=m) (fun i x hi hx=>HE.out i x (by have:=HN.out;have:=HXI.out;omega) hx))
   have HG0:=h_ (show w.grownBy wr (some b) from grow_of HB.out _)
   have HD0:=h_ (show Deeds wr b (L++deedsOf s (l.take 0)) by rw[List.take_zero];simpa [deedsOf] using HD.out.u_ HB.out)
   go_wp2
   go_loopw [29] (fun i wq=>∃(k:Nat) (xi:Int),k≤n∧xi=(k:Int)∧i=.int .i64 xi∧w.grownBy wq (some b)∧Deeds wq b (L++deedsOf s (l.take k))) (fun i _=>n - (intOf i).toNat)
   case atStart=>exact ⟨0,0,Nat.zero_le _,rfl,rfl,HG0.out,HD0.out⟩
   case round=>
    obtain ⟨k2,xj,hk2,hxj,rfl,hg,hdd⟩:=hrel
    have HG:=h_ hg
    have HDD:=h_ hdd
    have HXJ:=h_ hxj
    have hy0:0≤xj:=by omega
    have hy1:xj≤9223372036854775807:=by omega
    clear hg hdd hxj
    by_cases hlt:xj<(n:Int)
    ·obtain ⟨x,hx⟩:=act_at (l:=l) (i:=k2) (by have:=HN.out;have:=HXJ.out;omega)
     obtain ⟨b2,off,ha,hcl⟩:=H4.out.resolve_left (fun e=>by rw[e]at hx;simp at hx)
     subst ha
     obtain ⟨d1,d2⟩:=hcl k2 x hx
     have hokx:=HALL.out x (List.mem_of_getElem? hx)
     rw[show k2=xj.toNat by have:=HXJ.out;omega]at d1 d2
     obtain ⟨ak,am⟩:=x
     dsimp only at d1 d2
     replace d1:=cell_grow HD.out HG.out d1
     replace d2:=cell_grow HD.out HG.out d2
     have HX:=h_ hx
     have HOK:=h_ (show okD (s,ak,am) by
      obtain ⟨q1,q2,q3,q4⟩:=hokx
      obtain ⟨r1,r2⟩:=HS.out
      dsimp only at q1 q2 q3 q4
      exact ⟨r1,by show s≤100;omega,by show 0≤ak;omega,by show ak≤100;omega,q3,by show am≤100;omega⟩)
     clear hcl hx hokx
     have HBA:=h_ (below_go (o_ wr (.cells #[.int .i64 ak,.int .i64 am] 60)) (o_ (wr.alloc (.cells #[.int .i64 ak,.int .i64 am] 60)) (.cells #[.int .i64 s,.int .i64 ak,.int .i64 am] 177)))
     have HH:=h_ (has_any b s ak am _ ((wr.alloc (.cells #[.int .i64 ak,.int .i64 am] 60)).alloc (.cells #[.int .i64 s,.int .i64 ak,.int .i64 am] 177)) (HDD.out.u_ HBA.out) HOK.out)
     by_cases hin:(s,ak,am)∈L++deedsOf s (l.take k2)
     ·have HA:=h_ (actsE_two HALL.out (not_apart HX.out ((mem_deeds HL.out).1 hin)))
      rw[show decide ((s,ak,am)∈L++deedsOf s (l.take k2))=true by simpa using hin]at HH
      clear hin
      go_wp2_with (go_at_call 88;refine HH.out.mono ?_;rintro e w1 ⟨rfl,hb1⟩)
      have HB1:=h_ (below_go HBA.out hb1)
      clear hb1
      go_wp2
      go_ret
      exact ⟨R_ (err_of HA.out (by decide)),fun e=>absurd (HA.out.trans e) (by decide),HG.out.trans (grow_of HB1.out _)⟩
     ·have HNI:=h_ hin
      rw[show decide ((s,ak,am)∈L++deedsOf s (l.take k2))=false by simpa using hin]at HH
      clear hin
      go_wp2_with (first|(go_at_call 88;refine HH.out.mono ?_;rintro e w1 ⟨rfl,hb1⟩;obtain ⟨z0,z1,z2⟩:=pn_new3 (wr.alloc (.cells #[.int .i64 ak,.int .i64 am] 60)) (.int .i64 s) (.int .i64 ak) (.int .i64 am) 177 hb1 (B:=wr.heap.size+1) (by simp);have HB1:=h_ (below_go HBA.out hb1);clear hb1)|(go_at_call 89;refine (dadd_any b s ak am _ _ (HDD.out.u_ HB1.out) HOK.out HNI.out).mono ?_;rintro e w2 ⟨rfl,hd2,hg2⟩))
      have HD2:=h_ (show Deeds w2 b (L++deedsOf s (l.take (k2+1))) by rw[deeds_snoc HX.out];exact hd2)
      have HG2:=h_ (HG.out.trans ((grow_of HB1.out (some b)).trans hg2))
      clear hd2 hg2
      go_wp2
      go_roundw
      case rel=>exact ⟨k2+1,_,by have:=HXJ.out;omega,by have:=HXJ.out;omega,rfl,HG2.out,HD2.out⟩
      case measure=>have:=HXJ.out;simp[intOf];omega
    ·have HDE:=h_ (show Deeds wr b (L++deedsOf s l) by have:=HDD.out;rw[List.take_of_length_le (by have:=HN.out;have:=HXJ.out;omega)]at this;exact this)
     have HAP:=h_ (deeds_apart HDE.out.nodup)
     by_cases hlm:(n:Int)<2*m
     ·have HA:=h_ (actsE_less HALL.out HAP.out (by rw[HN.out];exact hlm))
      go_wp2
      go_ret
      exact ⟨R_ (err_of HA.out (by decide)),fun e=>absurd (HA.out.trans e) (by decide),HG.out⟩
     ·have HLM:=h_ (show ¬(l.length:Int)<2*(M:Int) by rw[HN.out,←HM.out];exact hlm)
      obtain ⟨WD,hWD⟩:=gM (wr)
      subst hWD
      go_wp2
      go_loopw [51] (fun i wq=>∃(k:Nat) (xi:Int),k≤M∧xi=(k:Int)∧i=.int .i64 xi∧Below WD.heap.size WD wq∧∀p:Nat,p<k→¬posD (s,2,(p:Int)) (L++deedsOf s l)<posD (s,1,(p:Int)) (L++deedsOf s l)) (fun i _=>M - (intOf i).toNat)
      case atStart=>exact ⟨0,0,Nat.zero_le _,rfl,rfl,Below.refl _ _,fun p hp=>by omega⟩
      case round=>
       obtain ⟨p,xp,hp,hxp,rfl,hb3,he3⟩:=hrel
       have HB3:=h_ hb3
       have HE3:=h_ he3
       have HXP:=h_ hxp
       have hz0:0≤xp:=by omega
       have hz1:xp≤9223372036854775807:=by have:=HM.out;omega
       clear hb3 he3 hxp
       by_cases hlt3:xp<m
       ·obtain ⟨vb,hvb⟩:=gN (posD (s,2,(p:Int)) (L++deedsOf s l))
        obtain ⟨vf,hvf⟩:=gN (posD (s,1,(p:Int)) (L++deedsOf s l))
        have HLK:=h_ (show ∀W',Below wr.heap.size wr W'→(Instr.lookup 145 (.map (some b)) (.agg #[.int .i64 s,.int .i64 2,.int .i64 xp]) false).run Tryz.prog W'=.ok (.int .i64 vb) W'∧(Instr.lookup 145 (.map (some b)) (.agg #[.int .i64 s,.int .i64 1,.int .i64 xp]) false).run Tryz.prog W'=.ok (.int .i64 vf) W' by
         intro W' hW
         have hD:=HDE.out.u_ (below_go HB3.out hW)
         obtain ⟨r1,r2⟩:=HS.out
         have hx:=HXP.out
         have q2:=hD.look (d:=(s,2,(p:Int))) ⟨r1,by show s≤100;omega,by show (0:Int)≤2;decide,by show (2:Int)≤100;decide,by show 0≤(p:Int);omega,by show (p:Int)≤100;omega⟩ false
         have q1:=hD.look (d:=(s,1,(p:Int))) ⟨r1,by show s≤100;omega,by show (0:Int)≤1;decide,by show (1:Int)≤100;decide,by show 0≤(p:Int);omega,by show (p:Int)≤100;omega⟩ false
         rw[hvb]at q2
         rw[hvf]at q1
         unfold keyD at q1 q2
         dsimp only at q1 q2
         rw[←hx]at q1 q2
         exact ⟨by simpa using q2,by simpa using q1⟩)
        have HV:=h_ (And.intro hvb hvf)
        clear hvb hvf
        go_wp2
        go_cut [66] from 54 to 66 (fun c wx=>c=.bool (decide (vb<vf))∧Below wr.heap.size wr wx)
        case first=>
         obtain ⟨lm1,lm2⟩:=HLK.out wr (Below.refl _ _)
         go_region_held3 (fun W'=>(Instr.lookup 145 (.map (some b)) (.agg #[.int .i64 s,.int .i64 2,.int .i64 xp]) false).run Tryz.prog W'=.ok (.int .i64 vb) W'∧(Instr.lookup 145 (.map (some b)) (.agg #[.int .i64 s,.int .i64 1,.int .i64 xp]) false).run Tryz.prog W'=.ok (.int .i64 vf) W')
          ((refine HLK.out _ ?_;repeat' (first|with_reducible exact Below.refl _ _|with_reducible refine pn_drew ?_|with_reducible refine below_go ?_ hbB|with_reducible refine below_go ?_ hbF)))
          (first|(go_at_call 90;refine (bwd_any _ _).mono ?_;rintro e wB ⟨rfl,hbB⟩)|(go_at_call 91;refine (fwd_any _ _).mono ?_;rintro e wF ⟨rfl,hbF⟩))
         all_goals go_wp2
         all_goals go_meet
         all_goals
          refine ⟨rfl,?_⟩
          repeat' (first|with_reducible exact Below.refl _ _|with_reducible refine pn_drew ?_|with_reducible refine below_go ?_ hbB|with_reducible refine below_go ?_ hbF)
        case rest=>
         obtain ⟨rfl,hbc⟩:=hcut
         have HBC:=h_ (below_go HB3.out hbc)
         clear hbc
         by_cases hvv:vb<vf
         ·have HA:=h_ (actsE_back HALL.out HAP.out (by have:=HLM.out;have:=HM.out;omega) (back_first (s:=s) (L:=L) (m:=M) (p:=p) (by rw[←HM.out];exact HALL.out) HDE.out.nodup (by have:=HLM.out;omega) (by have:=HXP.out;have:=HM.out;omega) (by rw[HV.out.1,HV.out.2];exact hvv)))
          go_wp2
          go_ret
          exact ⟨R_ (err_of HA.out (by decide)),fun e=>absurd (HA.out.trans e) (by decide),HG.out.trans (grow_of HBC.out _)⟩
         ·have HU:=h_ (show ∀q:Nat,q<p+1→¬posD (s,2,(q:Int)) (L++deedsOf s l)<posD (s,1,(q:Int)) (L++deedsOf s l) by
           intro q hq
           rcases Nat.lt_or_ge q p with h|h
           ·have:=HE3.out q h;omega
           ·rw[show q=p by omega,HV.out.1,HV.out.2];exact hvv)
          go_wp2
          go_roundw
          case rel=>exact ⟨p+1,_,by have:=HXP.out;have:=HM.out;omega,by have:=HXP.out;omega,rfl,HBC.out,HU.out⟩
          case measure=>have:=HXP.out;have:=HM.out;simp[intOf];omega
       ·have HA:=h_ (actsE_ok HALL.out HAP.out (by have:=HLM.out;have:=HM.out;omega) (all_ahead (s:=s) (L:=L) (m:=M) (by rw[←HM.out];exact HALL.out) HDE.out.nodup (fun q hq=>by have:=HE3.out q (by have:=HXP.out;have:=HM.out;omega);omega)))
        go_wp2
        go_ret
        exact ⟨R_ (err_no HA.out),fun _=>HDE.out.u_ HB3.out,HG.out.trans (grow_of HB3.out _)⟩
end Go.Proofs.YtniloklglpchfakGreat
