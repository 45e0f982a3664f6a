/- What EvenOf and Plans of the document's answer come to. -/
import Derived.Test.YtniloklglpchfakGreatPkPlA
import Derived.Test.YtniloklglpchfakGreatPkPnF
import Derived.Test.YtniloklglpchfakGreatPkPnR
import Derived.Carry
namespace Go.Proofs.YtniloklglpchfakGreat
open Go.RowKit
def evenA:Int→List (Int×Int)→Bool
 |_,[]=>true
 |last,a::t=>if a.1=2∧a.2<last then false else evenA (if a.1=2 then a.2 else last) t
def evenB (p:List (List (Int×Int))):Bool:=p.all (evenA (-1))
theorem evenB_no{p:List (List (Int×Int))}{s:Nat}{l:List (Int×Int)}(h:p[s]?=some l)(he:evenA (-1) l=false):false=evenB p:=by
 rw[eq_comm];unfold evenB;rw[List.all_eq_false];exact ⟨l,List.mem_of_getElem? h,by simp[he]⟩
theorem evenB_yes{p:List (List (Int×Int))}(h:∀s l,s<p.length→p[s]?=some l→evenA (-1) l=true):true=evenB p:=by
 rw[eq_comm];unfold evenB;rw[List.all_eq_true];intro l hl
 obtain ⟨s,hs,rfl⟩:=List.getElem_of_mem hl
 exact h s _ hs (List.getElem?_eq_getElem hs)
def doneTo (p:List (List (Int×Int))):Nat→List (Int×Int×Int)
 |0=>[]
 |k+1=>doneTo p k++deedsOf (k:Int) (stA p k)
theorem doneTo_lt(p:List (List (Int×Int))):∀(k:Nat) (d:Int×Int×Int),d∈doneTo p k→d.1<(k:Int)
 |0,d,h=>by simp[doneTo]at h
 |k+1,d,h=>by
  unfold doneTo at h
  rw[List.mem_append]at h
  rcases h with h|h
  ·have:=doneTo_lt p k d h;omega
  ·unfold deedsOf at h
   obtain ⟨a,_,rfl⟩:=List.mem_map.1 h
   show (k:Int)<((k+1:Nat):Int)
   omega
theorem numE_far{p:List (List (Int×Int))}{m:Int}(h:numE (p.length:Int) m≠0):rangeP p m:=by
 unfold numE at h
 unfold rangeP
 by_cases c:m<1∨12<m∨(p.length:Int)<1∨6<(p.length:Int)
 ·exact c
 ·rw[if_neg c]at h;exact absurd rfl h
theorem numE_near{p:List (List (Int×Int))}{m:Int}(h:numE (p.length:Int) m=0):¬rangeP p m:=by
 unfold numE at h
 unfold rangeP
 by_cases c:m<1∨12<m∨(p.length:Int)<1∨6<(p.length:Int)
 ·rw[if_pos c]at h;cases h
 ·exact c
theorem below_own{w u v:World}{B:Nat}(h:Below w.heap.size w u)(hg:u.grownBy v (some B))(hB:w.heap.size≤B):Below w.heap.size w v:=h.grown hg h.size (fun k hk=>by have:=Option.some.inj hk;omega)
set_option maxHeartbeats 16000000 in
set_option maxRecDepth 100000 in
theorem pcheck_any(v:Value)(p:List (List (Int×Int)))(m:Int)(w:World)(hv:IsPlan w v p):Calls Tryz.prog 25 #[v,.int .i64 m] w fun e w'=>e=.returned (errV (planE p m))∧Below w.heap.size w w':=by
 have hlen:=hv.len
 unfold maxLen at hlen
 have HV:=h_ hv
 obtain ⟨a,cap,rfl,h2,h3,h4⟩:=hv
 obtain ⟨n,hn⟩:=gN (p.length)
 have HN:=h_ hn
 have H4:=h_ h4
 have HF:=h_ (numbers_any (n:Int) m w)
 by_cases c1:numE (n:Int) m=0
 ·rw[c1,e_ rfl]at HF
  have hr:=numE_near (p:=p) (m:=m) (by rw[hn];exact c1)
  have HR:=h_ hr
  unfold rangeP at hr
  rw[hn]at hr
  obtain ⟨b,off,ha,hcl⟩:=h4.resolve_left (fun e=>by rw[e]at hn;simp at hn;omega)
  subst ha
  have HP:=h_ (fun (W:World) (hb:Below w.heap.size w W) (s:Nat) (hs:s<n)=>plan_cell hcl W hb (s:=s) (by rw[hn];exact hs))
  have hn6:n≤6:=by omega
  have hn1:1≤n:=by omega
  have hm1:1≤m:=by omega
  have hm2:m≤12:=by omega
  have HD0:=h_ (Deeds.new w)
  have hmm:=@run_makeMap Tryz.prog
  rw[hn]at h2 hlen HV ⊢
  clear hcl c1 hr h4 H4 hn
  go_enter Tryz.func25,Tryz.ntmps25
  go_wp2_with (go_at_call 57;refine HF.out.mono ?_;rintro e w' ⟨rfl,rfl⟩)
  go_loopw [20] (fun sv wr=>∃(k:Nat) (xi:Int),k≤n∧xi=(k:Int)∧sv=.int .i64 xi∧Below w'.heap.size w' wr∧Deeds wr w'.heap.size (doneTo p k)∧∀j l,j<k→p[j]?=some l→actsE l m=0) (fun sv _=>n - (intOf sv).toNat)
  case atStart=>exact ⟨0,0,Nat.zero_le _,rfl,rfl,o_ _ _,HD0.out,fun j l hj _=>by omega⟩
  case round=>
   obtain ⟨k,xi,hk,hxi,rfl,hb,hd,he⟩:=hrel
   have HB:=h_ hb
   have HD:=h_ hd
   have HE:=h_ he
   have HXI:=h_ hxi
   have hx0:0≤xi:=by omega
   have hx6:xi≤6:=by omega
   clear hb hd he hxi
   by_cases hlt:xi<(n:Int)
   ·obtain ⟨la,lc,hce,hac⟩:=HP.out wr HB.out k (by have:=HXI.out;omega)
    rw[show k=xi.toNat by have:=HXI.out;omega]at hce
    obtain ⟨l,hl⟩:=stage_at (p:=p) (i:=k) (by have:=HN.out;have:=HXI.out;omega)
    have HL:=h_ hl
    have HC:=h_ (stage_any xi m _ (stA p k) w'.heap.size (doneTo p k) wr hac HD.out ⟨hx0,by omega⟩ ⟨hm1,hm2⟩ (fun d hd=>by have:=doneTo_lt p k d hd;have:=HXI.out;omega))
    rw[stA_at hl]at HC
    rw[show (stA p xi.toNat).length=(stA p k).length by rw[show xi.toNat=k by have:=HXI.out;omega],stA_at hl]at hce
    obtain ⟨E,hE⟩:=gN (actsE l m)
    rw[hE]at HC
    have HEE:=h_ hE
    obtain ⟨ln,hln⟩:=gN (l.length)
    rw[hln]at hce HC
    clear hac hl hE hln
    by_cases hE0:E=0
    ·subst hE0
     rw[e_ rfl]at HC
     have HU:=h_ (show ∀j l,j<k+1→p[j]?=some l→actsE l m=0 by
      intro j l' hj hl'
      rcases Nat.lt_or_ge j k with h|h
      ·exact HE.out j l' h hl'
      ·have e:l'=l:=Option.some.inj (by rw[←hl',show j=k by omega,HL.out])
       rw[e];exact HEE.out)
     go_wp2_with (go_at_call 58;refine HC.out.mono ?_;rintro e w1 ⟨rfl,hd1,hg1⟩)
     have HB1:=h_ (below_own HB.out hg1 (Nat.le_refl _))
     have HD1:=h_ (show Deeds w1 w'.heap.size (doneTo p (k+1)) by have:=hd1 (by first|rfl|trivial);rw[HXI.out]at this;unfold doneTo;rw[stA_at HL.out];exact this)
     clear hd1 hg1
     go_wp2
     go_roundw
     case rel=>exact ⟨k+1,_,by have:=HXI.out;omega,by have:=HXI.out;omega,rfl,HB1.out,HD1.out,HU.out⟩
     case measure=>have:=HXI.out;simp[intOf];omega
    ·rw[n_ hE0]at HC
     have HS:=h_ (stagesE_at HE.out HL.out (by rw[HEE.out];exact hE0))
     rw[HEE.out]at HS
     have HA:=h_ (show E=planE p m by rw[HS.out];exact planE_acts HR.out (by rw[←HS.out];exact hE0))
     have HE0:=h_ hE0
     clear hE0
     go_wp2_with (go_at_call 58;refine HC.out.mono ?_;rintro e w1 ⟨rfl,hd1,hg1⟩)
     have HB1:=h_ (below_own HB.out hg1 (Nat.le_refl _))
     clear hd1 hg1
     go_wp2
     go_ret
     exact ⟨R_ (err_of HA.out HE0.out),HB1.out⟩
   ·have HS:=h_ (show stagesE m p=0 from (stagesE_no (fun j x hx=>HE.out j x (by have:=HN.out;have:=HXI.out;have:=(List.getElem?_eq_some_iff.1 hx).1;omega) hx)).symm)
    have HPE:=h_ (planE_end HR.out HS.out)
    obtain ⟨M,hM⟩:∃M:Nat,m=(M:Int):=⟨m.toNat,by omega⟩
    obtain ⟨w1,hrun,hd1,hg1⟩:=HD.out.clear
    have HB1:=h_ (below_own HB.out hg1 (Nat.le_refl _))
    have HC:=h_ (cando_any _ p M w'.heap.size w1 (HV.out.u_ HB1.out) hd1 (by rw[HN.out];exact hn1) (by rw[HN.out];exact hn6) (by omega) (by rw[←hM];exact HS.out))
    obtain ⟨q,hq⟩:=gN (doneB p)
    rw[hq]at HC HPE
    clear hM hd1 hg1 hq
    cases q
    ·have HA:=h_ (show 6=planE p m by rw[HPE.out];rfl)
     go_wp2_with (go_at_call 59;refine HC.out.mono ?_;rintro e w2 ⟨rfl,hg2⟩)
     have HB2:=h_ (below_own HB1.out hg2 (Nat.le_refl _))
     clear hg2
     go_wp2
     go_ret
     exact ⟨R_ (err_of HA.out (by decide)),HB2.out⟩
    ·have HA:=h_ (show 0=planE p m by rw[HPE.out];rfl)
     go_wp2_with (go_at_call 59;refine HC.out.mono ?_;rintro e w2 ⟨rfl,hg2⟩)
     have HB2:=h_ (below_own HB1.out hg2 (Nat.le_refl _))
     clear hg2
     go_wp2
     go_ret
     exact ⟨R_ (err_no HA.out),HB2.out⟩
 ·have HA:=h_ (planE_far (numE_far (p:=p) (m:=m) (by rw[hn];exact c1)))
  rw[show numE (n:Int) m=1 by unfold numE at c1 ⊢;split at c1<;>simp_all,n_ (by decide)]at HF
  rw[hn]at h2 hlen ⊢
  clear c1 hn h4 HV
  go_enter Tryz.func25,Tryz.ntmps25
  go_wp2_with (go_at_call 57;refine HF.out.mono ?_;rintro e w' ⟨rfl,rfl⟩)
  go_ret
  exact ⟨R_ (err_of HA.out (by decide)),Below.refl _ _⟩
def gob:Int→List (Int×Int)→Bool
 |_,[]=>true
 |k,a::t=>if a.1=2 then (if a.2=k then gob (k+1) t else false) else gob k t
theorem gob_drop{l:List (Int×Int)}{i:Nat}{a:Int×Int}(h:l[i]?=some a)(k:Int):gob k (l.drop i)=if a.1=2 then (if a.2=k then gob (k+1) (l.drop (i+1)) else false) else gob k (l.drop (i+1)):=by
 obtain ⟨hi,rfl⟩:=List.getElem?_eq_some_iff.1 h
 rw[List.drop_eq_getElem_cons hi]
 rfl
theorem evenA_low:∀{t:List (Int×Int)} {x last:Int},(2,x)∈t→x<last→evenA last t=false
 |[],x,last,h,_=>by simp at h
 |a::t,x,last,h,hx=>by
  unfold evenA
  by_cases c:a.1=2∧a.2<last
  ·rw[if_pos c]
  ·rw[if_neg c]
   rcases List.mem_cons.1 h with e|h
   ·exact absurd ⟨by rw[←e],by rw[←e];exact hx⟩ c
   ·refine evenA_low h ?_
    by_cases d:a.1=2
    ·rw[if_pos d]
     have:¬a.2<last:=fun q=>c ⟨d,q⟩
     omega
    ·rw[if_neg d];exact hx
theorem gob_even{m:Int}:∀{t:List (Int×Int)} {k last:Int},t.Nodup→(∀x,(2,x)∈t→k≤x∧x<m)→(∀x,k≤x→x<m→(2,x)∈t)→last≤k→gob k t=evenA last t
 |[],k,last,_,_,_,_=>rfl
 |(ak,y)::t,k,last,hn,h1,h2,hl=>by
  obtain ⟨n1,n2⟩:=List.nodup_cons.1 hn
  unfold gob evenA
  dsimp only
  by_cases c:ak=2
  ·subst c
   obtain ⟨y1,y2⟩:=h1 y (by simp)
   rw[if_pos rfl,if_pos rfl,if_neg (show ¬((2:Int)=2∧y<last) from fun e=>by have:=e.2;omega)]
   by_cases d:y=k
   ·subst d
    rw[if_pos rfl]
    refine gob_even (m:=m) n2 (fun x hx=>?_) (fun x hx1 hx2=>?_) (by omega)
    ·have:=h1 x (by simp[hx])
     have:x≠y:=fun e=>n1 (by rw[←e];exact hx)
     omega
    ·rcases List.mem_cons.1 (h2 x (by omega) hx2) with e|e
     ·have:=(Prod.mk.inj e).2;omega
     ·exact e
   ·rw[if_neg d,eq_comm]
    refine evenA_low (x:=k) ?_ (by omega)
    rcases List.mem_cons.1 (h2 k (by omega) (by omega)) with e|e
    ·exact absurd (Prod.mk.inj e).2.symm d
    ·exact e
  ·rw[if_neg c,if_neg (fun e=>c e.1),if_neg c]
   refine gob_even (m:=m) n2 (fun x hx=>h1 x (by simp[hx])) (fun x hx1 hx2=>?_) hl
   rcases List.mem_cons.1 (h2 x hx1 hx2) with e|e
   ·exact absurd (Prod.mk.inj e).1.symm c
   ·exact e
theorem gob_ok{l:List (Int×Int)}{m:Nat}(h:actsE l (m:Int)=0):gob 0 l=evenA (-1) l:=by
 obtain ⟨q1,q2,q3,_⟩:=actsE_in h
 refine gob_even (m:=(m:Int)) (apart_nodup q2) (fun x hx=>?_) (fun x hx1 hx2=>?_) (by decide)
 ·obtain ⟨_,_,r3,r4⟩:=q1 _ hx
  exact ⟨r3,r4⟩
 ·exact act_in q1 q2 q3 ⟨show (1:Int)≤2 by decide,Int.le_refl 2,hx1,hx2⟩
set_option maxHeartbeats 16000000 in
set_option maxRecDepth 100000 in
theorem gob_any(v:Value)(l:List (Int×Int))(w:World)(hv:IsActs w v l):Calls Tryz.prog 26 #[v] w fun e w'=>e=.returned (.bool (gob 0 l))∧Below w.heap.size w w':=by
 have hlen:=hv.len
 unfold maxLen at hlen
 obtain ⟨a,cap,rfl,h2,h3,h4⟩:=hv
 obtain ⟨n,hn⟩:=gN (l.length)
 have HN:=h_ hn
 have H4:=h_ h4
 rw[hn]at h2 hlen ⊢
 clear hn h4
 go_enter Tryz.func26,Tryz.ntmps26
 go_wp2
 go_loopw [3,8] (fun pv iv wr=>∃(k:Nat) (xi pt:Int),k≤n∧xi=(k:Int)∧iv=.int .i64 xi∧pv=.int .i64 pt∧0≤pt∧pt≤xi∧Below w.heap.size w wr∧gob 0 l=gob pt (l.drop k)) (fun _ iv _=>n - (intOf iv).toNat)
 case atStart=>exact ⟨0,0,0,Nat.zero_le _,rfl,rfl,rfl,Int.le_refl 0,Int.le_refl 0,Below.refl _ _,rfl⟩
 case round=>
  obtain ⟨k,xi,pt,hk,hxi,rfl,rfl,hp0,hp1,hb,he⟩:=hrel
  have HB:=h_ hb
  have HE:=h_ he
  have HXI:=h_ hxi
  have hx0:0≤xi:=by omega
  have hx1:xi≤9223372036854775807:=by omega
  have HP:=h_ (And.intro hp0 hp1)
  clear hb he hxi
  by_cases hlt:xi<(n:Int)
  ·obtain ⟨x,hx⟩:=act_at (l:=l) (i:=k) (by have:=HN.out;have:=HXI.out;omega)
   obtain ⟨b2,off,ha,hcl⟩:=H4.out.resolve_left (fun e=>by rw[e]at hx;simp at hx)
   subst ha
   obtain ⟨d1,d2⟩:=hcl k x hx
   have hdr:=gob_drop hx pt
   rw[show k=xi.toNat by have:=HXI.out;omega]at d1 d2
   obtain ⟨ak,am⟩:=x
   dsimp only at d1 d2 hdr
   replace d1:=cell_bel HB.out d1
   replace d2:=cell_bel HB.out d2
   have HBA:=h_ (below_go HB.out (o_ wr (.cells #[.int .i64 ak,.int .i64 am] 60)))
   rw[←HE.out]at hdr
   have HDR:=h_ hdr
   clear hcl hx hdr
   by_cases e1:ak=2
   ·have n1:(ak !=2)=false:=by simp[e1]
    by_cases e2:am=pt
    ·have HU:=h_ (show gob 0 l=gob (pt+1) (l.drop (k+1)) by rw[HDR.out,if_pos e1,if_pos e2])
     have n2:(am !=pt)=false:=by simp[e2]
     clear e1 e2
     go_wp2
     go_roundw
     case rel=>exact ⟨k+1,_,_,by have:=HXI.out;omega,by have:=HXI.out;omega,rfl,rfl,by have:=HP.out;omega,by have:=HP.out;omega,HBA.out,HU.out⟩
     case measure=>have:=HXI.out;simp[intOf];omega
    ·have HA:=h_ (show false=gob 0 l by rw[HDR.out,if_pos e1,if_neg e2])
     have n2:(am !=pt)=true:=by simpa using e2
     clear e1 e2
     go_wp2
     go_ret
     exact ⟨ret_bool HA.out,HBA.out⟩
   ·have n1:(ak !=2)=true:=by simpa using e1
    have HU:=h_ (show gob 0 l=gob pt (l.drop (k+1)) by rw[HDR.out,if_neg e1])
    clear e1
    go_wp2
    go_roundw
    case rel=>exact ⟨k+1,_,_,by have:=HXI.out;omega,by have:=HXI.out;omega,rfl,rfl,HP.out.1,by have:=HP.out;omega,HBA.out,HU.out⟩
    case measure=>have:=HXI.out;simp[intOf];omega
  ·have HA:=h_ (show true=gob 0 l by rw[HE.out,List.drop_of_length_le (by have:=HN.out;have:=HXI.out;omega)];rfl)
   go_wp2
   go_ret
   exact ⟨ret_bool HA.out,HB.out⟩
def evenX (p:List (List (Int×Int))) (m:Int):Bool:=if planE p m=0 then evenB p else false
set_option maxHeartbeats 16000000 in
set_option maxRecDepth 100000 in
theorem peven_any(v:Value)(p:List (List (Int×Int)))(m:Int)(w:World)(hv:IsPlan w v p):Calls Tryz.prog 7 #[v,.int .i64 m] w fun e w'=>e=.returned (.tuple #[.bool (evenX p m),errV (planE p m)])∧Below w.heap.size w w':=by
 have hlen:=hv.len
 unfold maxLen at hlen
 have HF:=h_ (pcheck_any v p m w hv)
 obtain ⟨a,cap,rfl,h2,h3,h4⟩:=hv
 obtain ⟨n,hn⟩:=gN (p.length)
 have HN:=h_ hn
 obtain ⟨E,hE⟩:=gN (planE p m)
 rw[hE]at HF ⊢
 by_cases c1:E=0
 ·subst c1
  rw[e_ rfl]at HF ⊢
  obtain ⟨q1,q2,q3⟩:=planE_in hE
  unfold rangeP at q1
  rw[hn]at q1
  have HQ:=h_ q2
  have HEE:=h_ hE
  obtain ⟨M,hM⟩:∃M:Nat,m=(M:Int):=⟨m.toNat,by omega⟩
  have HM:=h_ hM
  obtain ⟨b,off,ha,hcl⟩:=h4.resolve_left (fun e=>by rw[e]at hn;simp at hn;omega)
  subst ha
  have HP:=h_ (fun (W:World) (hb:Below w.heap.size w W) (s:Nat) (hs:s<n)=>plan_cell hcl W hb (s:=s) (by rw[hn];exact hs))
  rw[hn]at h2 hlen HF ⊢
  clear hcl h4 hn hE hM q1 q2 q3
  go_enter Tryz.func7,Tryz.ntmps7
  go_wp2_with (go_at_call 25;refine HF.out.mono ?_;rintro e w0 ⟨rfl,hb0⟩)
  have HB0:=h_ hb0
  clear hb0
  go_loopw [17] (fun sv wr=>∃(k:Nat) (xi:Int),k≤n∧xi=(k:Int)∧sv=.int .i64 xi∧Below w.heap.size w wr∧∀j l,j<k→p[j]?=some l→evenA (-1) l=true) (fun sv _=>n - (intOf sv).toNat)
  case atStart=>exact ⟨0,0,Nat.zero_le _,rfl,rfl,HB0.out,fun j l hj _=>by omega⟩
  case round=>
   obtain ⟨k,xi,hk,hxi,rfl,hb,he⟩:=hrel
   have HB:=h_ hb
   have HE:=h_ he
   have HXI:=h_ hxi
   have hx0:0≤xi:=by omega
   have hx1:xi≤9223372036854775807:=by omega
   clear hb he hxi
   by_cases hlt:xi<(n:Int)
   ·obtain ⟨la,lc,hce,hac⟩:=HP.out wr HB.out k (by have:=HXI.out;omega)
    rw[show k=xi.toNat by have:=HXI.out;omega]at hce
    obtain ⟨l,hl⟩:=stage_at (p:=p) (i:=k) (by have:=HN.out;have:=HXI.out;omega)
    have HL:=h_ hl
    have HC:=h_ (gob_any _ (stA p k) wr hac)
    rw[stA_at hl,gob_ok (m:=M) (by rw[←HM.out];exact stagesE_in HQ.out k l hl)]at HC
    rw[show (stA p xi.toNat).length=(stA p k).length by rw[show xi.toNat=k by have:=HXI.out;omega],stA_at hl]at hce
    obtain ⟨E,hE⟩:=gN (evenA (-1) l)
    rw[hE]at HC
    have HEV:=h_ hE
    obtain ⟨ln,hln⟩:=gN (l.length)
    rw[hln]at hce HC
    clear hac hl hE hln
    cases E
    ·have HA:=h_ (show false=evenX p m by unfold evenX;rw[if_pos HEE.out];exact evenB_no HL.out HEV.out)
     go_wp2_with (go_at_call 26;refine HC.out.mono ?_;rintro e w1 ⟨rfl,hb1⟩)
     have HB1:=h_ (below_go HB.out hb1)
     clear hb1
     go_wp2
     exact bodyPost_ret (v:=.tuple #[.bool false,.nilIface]) (by simp[results,Tryz.results7,go_sem]) rfl ⟨by rw[HA.out],HB1.out⟩
    ·have HU:=h_ (show ∀j l,j<k+1→p[j]?=some l→evenA (-1) l=true by
      intro j l' hj hl'
      rcases Nat.lt_or_ge j k with h|h
      ·exact HE.out j l' h hl'
      ·have e:l'=l:=Option.some.inj (by rw[←hl',show j=k by omega,HL.out])
       rw[e];exact HEV.out)
     go_wp2_with (go_at_call 26;refine HC.out.mono ?_;rintro e w1 ⟨rfl,hb1⟩)
     have HB1:=h_ (below_go HB.out hb1)
     clear hb1
     go_wp2
     go_roundw
     case rel=>exact ⟨k+1,_,by have:=HXI.out;omega,by have:=HXI.out;omega,rfl,HB1.out,HU.out⟩
     case measure=>have:=HXI.out;simp[intOf];omega
   ·have HA:=h_ (show true=evenX p m by unfold evenX;rw[if_pos HEE.out];exact evenB_yes (fun s l hs hl=>HE.out s l (by have:=HN.out;have:=HXI.out;omega) hl))
    go_wp2
    exact bodyPost_ret (v:=.tuple #[.bool true,.nilIface]) (by simp[results,Tryz.results7,go_sem]) rfl ⟨by rw[HA.out],HB.out⟩
 ·have HA:=h_ (show false=evenX p m by unfold evenX;rw[hE,if_neg c1])
  rw[n_ c1]at HF ⊢
  rw[hn]at h2 hlen HF ⊢
  clear h4 hn c1 hE
  go_enter Tryz.func7,Tryz.ntmps7
  go_wp2_with (go_at_call 25;refine HF.out.mono ?_;rintro e w0 ⟨rfl,hb0⟩)
  have HB0:=h_ hb0
  exact bodyPost_ret (v:=.tuple #[.bool false,.iface 94 (.int .i64 E)]) (by simp[results,Tryz.results7,go_sem]) rfl ⟨by rw[HA.out],HB0.out⟩
end Go.Proofs.YtniloklglpchfakGreat
