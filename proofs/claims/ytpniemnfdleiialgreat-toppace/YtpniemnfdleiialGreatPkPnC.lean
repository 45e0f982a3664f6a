/- What Check, goesBackInOrder and Even of package plan come to. -/
import Derived.Test.YtpniemnfdleiialGreatPkClK
import Derived.Test.YtpniemnfdleiialGreatPnD
import Derived.Test.YtpniemnfdleiialGreatPkClG
import Derived.Carry
import Derived.Deep.CutRange
namespace Go.Proofs.YtpniemnfdleiialGreat
open Go.RowKit
def doneTo (p:List (List (Int×Int))):Nat→List (Int×Int×Int)
 |0=>[]
 |k+1=>doneTo p k++deedsOf (k:Int) (stA p k)
theorem doneTo_lt(p:List (List (Int×Int))):∀(k:Nat) (d:Int×Int×Int),d∈doneTo p k→d.1<(k:Int)
 |0,d,h=>by simp[doneTo]at h
 |k+1,d,h=>by
  unfold doneTo at h
  rw[List.mem_append]at h
  rcases h with h|h
  ·have:=doneTo_lt p k d h;omega
  ·unfold deedsOf at h
   obtain ⟨a,_,rfl⟩:=List.mem_map.1 h
   show (k:Int)<((k+1:Nat):Int)
   omega
theorem numE_far{p:List (List (Int×Int))}{m:Int}(h:numE (p.length:Int) m≠0):rangeP p m:=by
 unfold numE at h
 unfold rangeP
 by_cases c:m<1∨12<m∨(p.length:Int)<1∨6<(p.length:Int)
 ·exact c
 ·rw[if_neg c]at h;exact absurd rfl h
theorem numE_near{p:List (List (Int×Int))}{m:Int}(h:numE (p.length:Int) m=0):¬rangeP p m:=by
 unfold numE at h
 unfold rangeP
 by_cases c:m<1∨12<m∨(p.length:Int)<1∨6<(p.length:Int)
 ·rw[if_pos c]at h;cases h
 ·exact c
theorem below_own{w u v:World}{B:Nat}(h:Below w.heap.size w u)(hg:u.grownBy v (some B))(hB:w.heap.size≤B):Below w.heap.size w v:=h.grown hg h.size (fun k hk=>by have:=Option.some.inj hk;omega)
set_option maxHeartbeats 16000000 in
set_option maxRecDepth 100000 in
theorem pcheck_any(v:Value)(p:List (List (Int×Int)))(m:Int)(w:World)(hv:IsPlan w v p):Calls Tryz.prog 74 #[v,.int .i64 m] w fun e w'=>e=.returned (errV (planE p m))∧Below w.heap.size w w':=by
 have hlen:=hv.len
 unfold maxLen at hlen
 have HV:=h_ hv
 obtain ⟨a,cap,rfl,h2,h3,h4⟩:=hv
 obtain ⟨n,hn⟩:=gN (p.length)
 have HN:=h_ hn
 have H4:=h_ h4
 have HF:=h_ (numbers_any (n:Int) m w)
 by_cases c1:numE (n:Int) m=0
 ·rw[c1,e_ rfl]at HF
  have hr:=numE_near (p:=p) (m:=m) (by rw[hn];exact c1)
  have HR:=h_ hr
  unfold rangeP at hr
  rw[hn]at hr
  obtain ⟨b,off,ha,hcl⟩:=h4.resolve_left (fun e=>by rw[e]at hn;simp at hn;omega)
  subst ha
  have HP:=h_ (fun (W:World) (hb:Below w.heap.size w W) (s:Nat) (hs:s<n)=>plan_cell hcl W hb (s:=s) (by rw[hn];exact hs))
  have hn6:n≤6:=by omega
  have hn1:1≤n:=by omega
  have hm1:1≤m:=by omega
  have hm2:m≤12:=by omega
  have HD0:=h_ (Deeds.new w)
  have hmm:=@run_makeMap Tryz.prog
  rw[hn]at h2 hlen HV ⊢
  clear hcl c1 hr h4 H4 hn
  go_enter Tryz.func74,Tryz.ntmps74
  go_wp2_with (go_at_call 72;refine HF.out.mono ?_;rintro e w' ⟨rfl,rfl⟩)
  go_loopw [20] (fun sv wr=>∃(k:Nat) (xi:Int),k≤n∧xi=(k:Int)∧sv=.int .i64 xi∧Below w'.heap.size w' wr∧Deeds wr w'.heap.size (doneTo p k)∧∀j l,j<k→p[j]?=some l→actsE l m=0) (fun sv _=>n - (intOf sv).toNat)
  case atStart=>exact ⟨0,0,Nat.zero_le _,rfl,rfl,o_ _ _,HD0.out,fun j l hj _=>by omega⟩
  case round=>
   obtain ⟨k,xi,hk,hxi,rfl,hb,hd,he⟩:=hrel
   have HB:=h_ hb
   have HD:=h_ hd
   have HE:=h_ he
   have HXI:=h_ hxi
   have hx0:0≤xi:=by omega
   have hx6:xi≤6:=by omega
   clear hb hd he hxi
   by_cases hlt:xi<(n:Int)
   ·obtain ⟨la,lc,hce,hac⟩:=HP.out wr HB.out k (by have:=HXI.out;omega)
    rw[show k=xi.toNat by have:=HXI.out;omega]at hce
    obtain ⟨l,hl⟩:=stage_at (p:=p) (i:=k) (by have:=HN.out;have:=HXI.out;omega)
    have HL:=h_ hl
    have HC:=h_ (stage_any xi m _ (stA p k) w'.heap.size (doneTo p k) wr hac HD.out ⟨hx0,by omega⟩ ⟨hm1,hm2⟩ (fun d hd=>by have:=doneTo_lt p k d hd;have:=HXI.out;omega))
    rw[stA_at hl]at HC
    rw[show (stA p xi.toNat).length=(stA p k).length by rw[show xi.toNat=k by have:=HXI.out;omega],stA_at hl]at hce
    obtain ⟨E,hE⟩:=gN (actsE l m)
    rw[hE]at HC
    have HEE:=h_ hE
    obtain ⟨ln,hln⟩:=gN (l.length)
    rw[hln]at hce HC
    clear hac hl hE hln
    by_cases hE0:E=0
    ·subst hE0
     rw[e_ rfl]at HC
     have HU:=h_ (show ∀j l,j<k+1→p[j]?=some l→actsE l m=0 by
      intro j l' hj hl'
      rcases Nat.lt_or_ge j k with h|h
      ·exact HE.out j l' h hl'
      ·have e:l'=l:=Option.some.inj (by rw[←hl',show j=k by omega,HL.out])
       rw[e];exact HEE.out)
     go_wp2_with (go_at_call 95;refine HC.out.mono ?_;rintro e w1 ⟨rfl,hd1,hg1⟩)
     have HB1:=h_ (below_own HB.out hg1 (Nat.le_refl _))
     have HD1:=h_ (show Deeds w1 w'.heap.size (doneTo p (k+1)) by have:=hd1 (by first|rfl|trivial);rw[HXI.out]at this;unfold doneTo;rw[stA_at HL.out];exact this)
     clear hd1 hg1
     go_wp2
     go_roundw
     case rel=>exact ⟨k+1,_,by have:=HXI.out;omega,by have:=HXI.out;omega,rfl,HB1.out,HD1.out,HU.out⟩
     case measure=>have:=HXI.out;simp[intOf];omega
    ·rw[n_ hE0]at HC
     have HS:=h_ (stagesE_at HE.out HL.out (by rw[HEE.out];exact hE0))
     rw[HEE.out]at HS
     have HA:=h_ (show E=planE p m by rw[HS.out];exact planE_acts HR.out (by rw[←HS.out];exact hE0))
     have HE0:=h_ hE0
     clear hE0
     go_wp2_with (go_at_call 95;refine HC.out.mono ?_;rintro e w1 ⟨rfl,hd1,hg1⟩)
     have HB1:=h_ (below_own HB.out hg1 (Nat.le_refl _))
     clear hd1 hg1
     go_wp2
     go_ret
     exact ⟨R_ (err_of HA.out HE0.out),HB1.out⟩
   ·have HS:=h_ (show stagesE m p=0 from (stagesE_no (fun j x hx=>HE.out j x (by have:=HN.out;have:=HXI.out;have:=(List.getElem?_eq_some_iff.1 hx).1;omega) hx)).symm)
    have HPE:=h_ (planE_end HR.out HS.out)
    obtain ⟨M,hM⟩:∃M:Nat,m=(M:Int):=⟨m.toNat,by omega⟩
    obtain ⟨w1,hrun,hd1,hg1⟩:=HD.out.clear
    have HB1:=h_ (below_own HB.out hg1 (Nat.le_refl _))
    have HC:=h_ (cando_any _ p M w'.heap.size w1 (HV.out.u_ HB1.out) hd1 (by rw[HN.out];exact hn1) (by rw[HN.out];exact hn6) (by omega) (by rw[←hM];exact HS.out))
    obtain ⟨q,hq⟩:=gN (doneB p)
    rw[hq]at HC HPE
    clear hM hd1 hg1 hq
    cases q
    ·have HA:=h_ (show 6=planE p m by rw[HPE.out];rfl)
     go_wp2_with (go_at_call 96;refine HC.out.mono ?_;rintro e w2 ⟨rfl,hg2⟩)
     have HB2:=h_ (below_own HB1.out hg2 (Nat.le_refl _))
     clear hg2
     go_wp2
     go_ret
     exact ⟨R_ (err_of HA.out (by decide)),HB2.out⟩
    ·have HA:=h_ (show 0=planE p m by rw[HPE.out];rfl)
     go_wp2_with (go_at_call 96;refine HC.out.mono ?_;rintro e w2 ⟨rfl,hg2⟩)
     have HB2:=h_ (below_own HB1.out hg2 (Nat.le_refl _))
     clear hg2
     go_wp2
     go_ret
     exact ⟨R_ (err_no HA.out),HB2.out⟩
 ·have HA:=h_ (planE_far (numE_far (p:=p) (m:=m) (by rw[hn];exact c1)))
  rw[show numE (n:Int) m=1 by unfold numE at c1 ⊢;split at c1<;>simp_all,n_ (by decide)]at HF
  rw[hn]at h2 hlen ⊢
  clear c1 hn h4 HV
  go_enter Tryz.func74,Tryz.ntmps74
  go_wp2_with (go_at_call 72;refine HF.out.mono ?_;rintro e w' ⟨rfl,rfl⟩)
  go_ret
  exact ⟨R_ (err_of HA.out (by decide)),Below.refl _ _⟩
set_option maxHeartbeats 8000000 in
set_option maxRecDepth 100000 in
theorem waits_any(v:Value)(p:List (List (Int×Int)))(w:World)(hv:IsPlan w v p)(s i:Nat)(xs xi ak am:Int)(hxs:xs=(s:Int))(hxi:xi=(i:Int))(hs:s<p.length)(hn6:p.length≤6)(ha:(stA p s)[i]?=some (ak,am))(hk:1≤ak∧ak≤2)(hl24:(stA p s).length≤24):
  Calls Tryz.prog 43 #[v,.int .i64 xs,.int .i64 xi] w fun e w'=>∃u,e=.returned u∧IsKeys w' u (keysC p s i (ak,am))∧Below w.heap.size w w':=by
 have hlen:=hv.len
 unfold maxLen at hlen
 obtain ⟨a,cap,rfl,g2,g3,g4⟩:=hv
 obtain ⟨n,hn⟩:=gN (p.length)
 obtain ⟨b,off,rfl,hcl⟩:=g4.resolve_left (fun e=>by rw[e]at hs;simp at hs)
 have HP:=h_ (fun (W:World) (hb:Below w.heap.size w W)=>plan_cell hcl W hb (s:=s) hs)
 obtain ⟨la,lc,hce,hac⟩:=HP.out w (Below.refl _ _)
 obtain ⟨ln,hln⟩:=gN ((stA p s).length)
 rw[hln]at hce hac hl24
 rw[show s=xs.toNat by omega]at hce
 obtain ⟨ra,rc,hre,r2,r3,r4⟩:=id hac
 have hra:=(Value.slice.inj hre).1
 subst hra
 obtain ⟨b3,off3,ha3,hcl3⟩:=r4.resolve_left (fun e=>by rw[e]at ha;simp at ha)
 subst ha3
 have hil:i<ln:=by rw[←hln];exact (List.getElem?_eq_some_iff.1 ha).1
 have HD:=h_ (show ∀W,Below w.heap.size w W→W.cell? ⟨b3,off3+xi.toNat*2,none⟩=some (.int .i64 ak)∧W.cell? ⟨b3,off3+xi.toNat*2+1,none⟩=some (.int .i64 am) from fun W hb=>by
  rw[show xi.toNat=i by omega]
  exact ⟨cell_bel hb (hcl3 i _ ha).1,cell_bel hb (hcl3 i _ ha).2⟩)
 obtain ⟨ks,hks⟩:=gM ((if i=0 then ([]:List (Int×Int×Int)) else [((s:Int),((stA p s)[i - 1]?).getD (0,0))]))
 have HKS:=h_ (show keysC p s i (ak,am)=ks++(match depK (ak,am) s p.length with|none=>[]|some k=>[((k:Int),(ak,am))]) by rw[hks];rfl)
 have HK0:=h_ (show i=0→ks=[] from fun e=>by rw[hks,if_pos e])
 have HKL:=h_ (show ks.length≤1 by rw[hks];split<;>simp)
 have HK1:=h_ (show 0<xi→∃pk pm,w.cell? ⟨b3,off3+(xi.toNat - 1)*2,none⟩=some (.int .i64 pk)∧w.cell? ⟨b3,off3+(xi.toNat - 1)*2+1,none⟩=some (.int .i64 pm)∧ks=[]++[(xs,pk,pm)] from fun h=>by
  have hlt:i - 1<(stA p s).length:=by omega
  obtain ⟨c1,c2⟩:=hcl3 (i - 1) (stA p s)[i - 1] (List.getElem?_eq_getElem hlt)
  refine ⟨_,_,by rw[show xi.toNat - 1=i - 1 by omega];exact c1,by rw[show xi.toNat - 1=i - 1 by omega];exact c2,?_⟩
  rw[hks,if_neg (by omega),List.getElem?_eq_getElem hlt,hxs]
  rfl)
 have HX:=h_ (And.intro hxs hxi)
 have HN:=h_ (And.intro hs hn)
 have hx0:0≤xi:=by omega
 have hx1:xi<(ln:Int):=by omega
 have hs0:0≤xs:=by omega
 have hs1:xs<(n:Int):=by omega
 have hni:(n:Int)≤6:=by omega
 rw[hn]at g2 hlen ⊢
 clear g4 hcl hac hre r4 hcl3 hks ha hxs hxi hs hn hn6 hln hil
 go_enter Tryz.func43,Tryz.ntmps43
 go_upto_if 14 with fail
 go_cut [7] from 9 to 68 (fun kv wx=>OwnK wx w.heap.size kv ks∧Below w.heap.size w wx)
 case first=>
  by_cases h0:0<xi
  ·obtain ⟨pk,pm,c1,c2,hks⟩:=HK1.out h0
   have HKE:=h_ hks
   have HK:=h_ (ckey_any xs pk pm w)
   clear hks
   go_wp2_with (first|(go_at_call 45;refine HK.out.mono ?_;rintro e w1 ⟨rfl,hb1⟩;have HB1:=h_ hb1;clear hb1)|(at_builtin;refine app_key (w:=w1) rfl _ _ rfl w.heap.size _ [] xs pk pm rfl (OwnK.nil _ _) rfl ?h1 ?h2 ?_))
   case h1=>simp
   case h2=>exact HB1.out.size
   intro v' w2 hown hgr
   have HR:=h_ (show OwnK w2 w.heap.size v' ks∧Below w.heap.size w w2 from ⟨by rw[HKE.out];exact hown,hgr w HB1.out (Nat.le_refl _)⟩)
   clear hown hgr
   go_wp2
   go_meet
   exact HR.out
  ·have HR:=h_ (show OwnK w w.heap.size (.slice none 0 0) ks∧Below w.heap.size w w from ⟨by rw[HK0.out (by have:=HX.out;omega)];exact OwnK.nil _ _,Below.refl _ _⟩)
   go_wp2
   go_meet
   exact HR.out
 case rest=>
  obtain ⟨ho,hb⟩:=hcut
  have HO:=h_ ho
  have HB:=h_ hb
  obtain ⟨d1,d2⟩:=HD.out wc hb
  obtain ⟨oa,ok,hoe⟩:=ho.shape
  obtain ⟨kn,hkn⟩:=gN (ks.length)
  rw[hkn]at hoe
  subst hoe
  have hk1:kn≤1:=by rw[←hkn];exact HKL.out
  clear ho hb hkn hce
  have hak:ak=1∨ak=2:=by omega
  have go:∀(k:Nat) (xk:Int),xk=(k:Int)→depK (ak,am) s p.length=some k→keysC p s i (ak,am)=ks++[(xk,ak,am)]:=fun k xk e hd=>by rw[HKS.out,hd,e]
  have no:depK (ak,am) s p.length=none→keysC p s i (ak,am)=ks:=fun hd=>by rw[HKS.out,hd];simp
  rcases hak with rfl|rfl
  ·by_cases c:0<xs
   ·have HE:=h_ (go (s - 1) (xs - 1) (by have:=HX.out;omega) (by unfold depK;rw[if_neg (show ¬(1:Int)=2 by decide),if_neg (by have:=HX.out;omega)]))
    have hq1:IntKind.i64.wrap (xs - 1)=xs - 1:=wrap_in (by omega) (by omega)
    have HK:=h_ (ckey_any (xs - 1) 1 am wc)
    clear go no
    go_wp2_with (first|(go_at_call 45;refine HK.out.mono ?_;rintro e w1 ⟨rfl,hb1⟩;have HB1:=h_ hb1;clear hb1)|(at_builtin;refine app_key (w:=w1) rfl _ _ rfl w.heap.size (.slice oa kn ok) ks (xs - 1) 1 am rfl (HO.out.u_ HB1.out) rfl ?h1 ?h2 ?_))
    case h1=>have:=HKL.out;omega
    case h2=>exact Nat.le_trans HB.out.size HB1.out.size
    intro v' w2 hown hgr
    have HR:=h_ (show OwnK w2 w.heap.size v' (keysC p s i (1,am))∧Below w.heap.size w w2 from ⟨by rw[HE.out];exact hown,hgr w (below_go HB.out HB1.out) (Nat.le_refl _)⟩)
    obtain ⟨e1,e2⟩:=HD.out w2 HR.out.2
    clear hown hgr
    go_wp2
    exact bodyPost_ret (v:=v') (by simp[results,Tryz.results43,go_sem]) rfl ⟨_,rfl,HR.out.1.isKeys,HR.out.2⟩
   ·have HE:=h_ (no (by unfold depK;rw[if_neg (show ¬(1:Int)=2 by decide),if_pos (by have:=HX.out;omega)]))
    have HR:=h_ (show OwnK wc w.heap.size (.slice oa kn ok) (keysC p s i (1,am))∧Below w.heap.size w wc from ⟨by rw[HE.out];exact HO.out,HB.out⟩)
    clear go no
    go_wp2
    exact bodyPost_ret (v:=.slice oa kn ok) (by simp[results,Tryz.results43,go_sem]) rfl ⟨_,rfl,HR.out.1.isKeys,HR.out.2⟩
  ·have hq0:IntKind.i64.wrap ((n:Int) - 1)=(n:Int) - 1:=wrap_in (by omega) (by omega)
   by_cases c:xs<(n:Int) - 1
   ·have HE:=h_ (go (s+1) (xs+1) (by have:=HX.out;omega) (by unfold depK;rw[if_pos rfl,if_pos (by have:=HX.out;have:=HN.out;omega)]))
    have hq1:IntKind.i64.wrap (xs+1)=xs+1:=wrap_in (by omega) (by omega)
    have HK:=h_ (ckey_any (xs+1) 2 am wc)
    clear go no
    go_wp2_with (first|(go_at_call 45;refine HK.out.mono ?_;rintro e w1 ⟨rfl,hb1⟩;have HB1:=h_ hb1;clear hb1)|(at_builtin;refine app_key (w:=w1) rfl _ _ rfl w.heap.size (.slice oa kn ok) ks (xs+1) 2 am rfl (HO.out.u_ HB1.out) rfl ?h1 ?h2 ?_))
    case h1=>have:=HKL.out;omega
    case h2=>exact Nat.le_trans HB.out.size HB1.out.size
    intro v' w2 hown hgr
    have HR:=h_ (show OwnK w2 w.heap.size v' (keysC p s i (2,am))∧Below w.heap.size w w2 from ⟨by rw[HE.out];exact hown,hgr w (below_go HB.out HB1.out) (Nat.le_refl _)⟩)
    clear hown hgr
    go_wp2
    exact bodyPost_ret (v:=v') (by simp[results,Tryz.results43,go_sem]) rfl ⟨_,rfl,HR.out.1.isKeys,HR.out.2⟩
   ·have HE:=h_ (no (by unfold depK;rw[if_pos rfl,if_neg (by have:=HX.out;have:=HN.out;omega)]))
    have HR:=h_ (show OwnK wc w.heap.size (.slice oa kn ok) (keysC p s i (2,am))∧Below w.heap.size w wc from ⟨by rw[HE.out];exact HO.out,HB.out⟩)
    clear go no
    go_wp2
    exact bodyPost_ret (v:=.slice oa kn ok) (by simp[results,Tryz.results43,go_sem]) rfl ⟨_,rfl,HR.out.1.isKeys,HR.out.2⟩
theorem okT_iff{x:Int}:okT x=true↔1≤x∧x≤1000000:=by simp[okT]
set_option maxHeartbeats 16000000 in
set_option maxRecDepth 100000 in
theorem ccheck_any(v v1 v2:Value)(p:List (List (Int×Int)))(th bk:List Int)(m:Int)(w:World)(hv:IsPlan w v p)(hi1:I_ w v1 th)(hi2:I_ w v2 bk):Calls Tryz.prog 41 #[v,.int .i64 m,v1,v2] w fun e w'=>e=.returned (errV (timE p m th bk))∧Below w.heap.size w w':=by
 have HF:=h_ (pcheck_any v p m w hv)
 have hlen:=hv.len
 have hlen1:=hi1.len
 have hlen2:=hi2.len
 unfold maxLen at hlen hlen1 hlen2
 obtain ⟨a,cap,rfl,g2,g3,g4⟩:=hv
 obtain ⟨a1,cap1,rfl,k2,k3,k4⟩:=hi1
 obtain ⟨a2,cap2,rfl,j2,j3,j4⟩:=hi2
 obtain ⟨n,hn⟩:=gN (p.length)
 obtain ⟨n1,hn1⟩:=gN (th.length)
 obtain ⟨n2,hn2⟩:=gN (bk.length)
 obtain ⟨E,hE⟩:=gN (planE p m)
 have HE:=h_ hE
 have HN:=h_ (And.intro hn (And.intro hn1 hn2))
 have H1:=h_ k4
 have H2:=h_ j4
 rw[hn]at g2 hlen HF ⊢
 rw[hn1]at k2 hlen1 ⊢
 rw[hn2]at j2 hlen2 ⊢
 rw[hE]at HF
 clear g4 k4 j4 hn hn1 hn2 hE
 by_cases c1:E=0
 rotate_left 1
 ·have HA:=h_ (show E=timE p m th bk by rw[←HE.out];exact timE_plan (by rw[HE.out];exact c1))
  have HC1:=h_ c1
  rw[n_ c1]at HF
  clear c1
  go_enter Tryz.func41,Tryz.ntmps41
  go_wp2_with (go_at_call 74;refine HF.out.mono ?_;rintro e w1 ⟨rfl,hb1⟩)
  go_ret
  exact ⟨R_ (err_of HA.out HC1.out),hb1⟩
 subst c1
 rw[e_ rfl]at HF
 by_cases c2:n1=n
 rotate_left 1
 ·have HA:=h_ (show 2=timE p m th bk from timE_len HE.out (fun e=>c2 (by rw[←HN.out.2.1,←HN.out.1];exact e.1)))
  have nE:((n1:Int) !=(n:Int))=true:=by simp;omega
  clear c2
  go_enter Tryz.func41,Tryz.ntmps41
  go_wp2_with (go_at_call 74;refine HF.out.mono ?_;rintro e w1 ⟨rfl,hb1⟩)
  go_ret
  exact ⟨R_ (err_of HA.out (by decide)),hb1⟩
 by_cases c3:n2=n
 rotate_left 1
 ·have HA:=h_ (show 2=timE p m th bk from timE_len HE.out (fun e=>c3 (by rw[←HN.out.2.2,←HN.out.1];exact e.2)))
  have nE:((n2:Int) !=(n:Int))=true:=by simp;omega
  subst c2
  clear c3
  go_enter Tryz.func41,Tryz.ntmps41
  go_wp2_with (go_at_call 74;refine HF.out.mono ?_;rintro e w1 ⟨rfl,hb1⟩)
  go_ret
  exact ⟨R_ (err_of HA.out (by decide)),hb1⟩
 subst c2 c3
 have HLE:=h_ (show th.length=p.length∧bk.length=p.length from ⟨by rw[HN.out.2.1,HN.out.1],by rw[HN.out.2.2,HN.out.1]⟩)
 go_enter Tryz.func41,Tryz.ntmps41
 go_wp2_with (go_at_call 74;refine HF.out.mono ?_;rintro e w1 ⟨rfl,hb1⟩)
 have HB1:=h_ hb1
 clear hb1
 go_loopw [10,32] (fun _ iv wr=>∃(k:Nat) (xi:Int),k≤n2∧xi=(k:Int)∧iv=.int .i64 xi∧wr=w1∧∀j x,j<k→(th[j]?=some x∨bk[j]?=some x)→1≤x∧x≤1000000) (fun _ iv _=>n2 - (intOf iv).toNat)
 case atStart=>exact ⟨0,0,Nat.zero_le _,rfl,rfl,rfl,fun j x hj _=>by omega⟩
 case round=>
  obtain ⟨k,xi,hk,hxi,rfl,hw,he⟩:=hrel
  subst hw
  have HE2:=h_ he
  have HXI:=h_ hxi
  have hx0:0≤xi:=by omega
  have hx1:xi≤9223372036854775807:=by omega
  clear he hxi
  by_cases hlt:xi<(n2:Int)
  ·have hk1:k<th.length:=by have:=HN.out.2.1;have:=HXI.out;omega
   have hk2:k<bk.length:=by have:=HN.out.2.2;have:=HXI.out;omega
   obtain ⟨t1,ht1⟩:∃x,th[k]?=some x:=⟨_,List.getElem?_eq_getElem hk1⟩
   obtain ⟨t2,ht2⟩:∃x,bk[k]?=some x:=⟨_,List.getElem?_eq_getElem hk2⟩
   obtain ⟨b1,o1,ha1,hc1⟩:=H1.out.resolve_left (fun e=>by rw[e]at ht1;simp at ht1)
   obtain ⟨b2,o2,ha2,hc2⟩:=H2.out.resolve_left (fun e=>by rw[e]at ht2;simp at ht2)
   subst ha1 ha2
   have d1:=cell_bel HB1.out (hc1 k t1 ht1)
   have d2:=cell_bel HB1.out (hc2 k t2 ht2)
   rw[show k=xi.toNat by have:=HXI.out;omega]at d1 d2
   have HT:=h_ (And.intro ht1 ht2)
   have HM1:=h_ (maytake_any t1 wr)
   have HM2:=h_ (maytake_any t2 wr)
   clear hk1 hk2 ht1 ht2 hc1 hc2
   cases q1:okT t1 with
   |false=>
    have HA:=h_ (show 1=timE p m th bk from timE_bad HE.out HLE.out (.inl (List.mem_of_getElem? HT.out.1)) (fun h=>by rw[okT_iff.2 h]at q1;cases q1))
    rw[q1]at HM1
    clear q1
    go_wp2_with (go_at_call 75;refine HM1.out.mono ?_;rintro e w2 ⟨rfl,rfl⟩)
    go_ret
    exact ⟨R_ (err_of HA.out (by decide)),HB1.out⟩
   |true=>
    have HQ1:=h_ (okT_iff.1 q1)
    rw[q1]at HM1
    clear q1
    cases q2:okT t2 with
    |false=>
     have HA:=h_ (show 1=timE p m th bk from timE_bad HE.out HLE.out (.inr (List.mem_of_getElem? HT.out.2)) (fun h=>by rw[okT_iff.2 h]at q2;cases q2))
     rw[q2]at HM2
     clear q2
     go_wp2_with (go_at_call 75;first|(refine HM1.out.mono ?_;rintro e w2 ⟨rfl,rfl⟩;clear HM1)|(refine HM2.out.mono ?_;rintro e w2 ⟨rfl,rfl⟩))
     go_ret
     exact ⟨R_ (err_of HA.out (by decide)),HB1.out⟩
    |true=>
     have HQ2:=h_ (okT_iff.1 q2)
     rw[q2]at HM2
     clear q2
     have HU:=h_ (show ∀j x,j<k+1→(th[j]?=some x∨bk[j]?=some x)→1≤x∧x≤1000000 by
      intro j x hj hx
      rcases Nat.lt_or_ge j k with h|h
      ·exact HE2.out j x h hx
      ·rw[show j=k by omega,HT.out.1,HT.out.2]at hx
       rcases hx with q|q
       ·have:=Option.some.inj q;have:=HQ1.out;omega
       ·have:=Option.some.inj q;have:=HQ2.out;omega)
     go_wp2_with (go_at_call 75;first|(refine HM1.out.mono ?_;rintro e w2 ⟨rfl,rfl⟩;clear HM1)|(refine HM2.out.mono ?_;rintro e w2 ⟨rfl,rfl⟩))
     go_roundw
     case rel=>exact ⟨k+1,_,by have:=HXI.out;omega,by have:=HXI.out;omega,rfl,by first|rfl|trivial,HU.out⟩
     case measure=>have:=HXI.out;simp[intOf];omega
  ·have key:∀(l:List Int),l.length=n2→(∀(j:Nat) x,l[j]?=some x→th[j]?=some x∨bk[j]?=some x)→∀x∈l,1≤x∧x≤1000000:=fun l hl hs x hx=>by
    obtain ⟨i,hi,rfl⟩:=List.getElem_of_mem hx
    exact HE2.out i _ (by have:=HXI.out;omega) (hs i _ (List.getElem?_eq_getElem hi))
   have HA:=h_ (show 0=timE p m th bk from timE_ok HE.out HLE.out (key th HN.out.2.1 (fun j x h=>.inl h)) (key bk HN.out.2.2 (fun j x h=>.inr h)))
   clear key
   go_wp2
   go_ret
   exact ⟨R_ (err_no HA.out),HB1.out⟩
end Go.Proofs.YtpniemnfdleiialGreat
