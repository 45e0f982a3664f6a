/- What Check and Sizes of package batch come to. -/
import Derived.Test.YtniloklglpchfafPkReg
import Derived.Test.YtniloklglpchfafPkMCheckAll
namespace Go.Proofs.Ytniloklglpchfaf
open Go.RowKit
set_option maxHeartbeats 4000000 in
set_option maxRecDepth 100000 in
theorem bcheck_any(b:Mx×Mx)(sa:Option Addr)(sn sk:Nat)(ta:Option Addr)(tn tk:Nat)(w:World)(hs:I_ w (.slice sa sn sk) b.1.cells)(ht:I_ w (.slice ta tn tk) b.2.cells):
  Calls Try.prog 33 #[.agg #[.int .i64 b.1.rows,.int .i64 b.1.cols,.slice sa sn sk,.int .i64 b.2.rows,.int .i64 b.2.cols,.slice ta tn tk]] w fun e w'=>e=.returned (errV (batE b))∧Below w.heap.size w w':=by
 obtain ⟨V,hV⟩:=gM (w.alloc (.cells #[.int .i64 b.1.rows,.int .i64 b.1.cols,.slice sa sn sk,.int .i64 b.2.rows,.int .i64 b.2.cols,.slice ta tn tk] 42))
 have HV:=h_ hV
 have HWV:Hid (Below w.heap.size w V):=by rw[hV];exact h_ (o_ _ _)
 have HBX:Hid (Box V w.heap.size [.int .i64 b.1.rows,.int .i64 b.1.cols,.slice sa sn sk,.int .i64 b.2.rows,.int .i64 b.2.cols,.slice ta tn tk]):=by rw[hV];exact h_ (Box.new w _ 42 rfl)
 obtain ⟨E,hE⟩:=gN (batE b)
 have HE:=h_ hE
 rw[hE]
 have HF1:=h_ (C_ (.agg #[.int .i64 b.1.rows,.int .i64 b.1.cols,.slice sa sn sk]) b.1 V ⟨_,rfl,hs.u_ HWV.out⟩)
 have HF2:=h_ (fun W (h:Below w.heap.size w W)=>C_ (.agg #[.int .i64 b.2.rows,.int .i64 b.2.cols,.slice ta tn tk]) b.2 W ⟨_,rfl,ht.u_ h⟩)
 obtain ⟨g1,hg1⟩:=gN (q_ b.1)
 obtain ⟨g2,hg2⟩:=gN (q_ b.2)
 rw[hg1]at HF1
 rw[hg2]at HF2
 have HG:=h_ (And.intro hg1 hg2)
 obtain ⟨d0,d1,d2⟩:=HBX.out.c3
 rw[HV.out]at d0 d1 d2
 clear hV hE hs ht hg1 hg2
 go_enter Try.func33,Try.ntmps33
 go_wp2_with fail
 rw[←HV.out]
 refine HF1.out.mono ?_
 rintro e w1 ⟨rfl,hb1⟩
 have HB1:=h_ hb1
 have HW1:=h_ (b_ HWV.out hb1)
 clear hb1 d0 d1 d2 HF1
 by_cases c1:g1=0
 ·subst c1
  obtain ⟨R,C,gd⟩:=o__ HG.out.1
  have hr0:0≤b.1.rows:=by have:=gd.r;omega
  clear gd
  rw[e_ rfl]
  obtain ⟨d3,d4,d5⟩:=(HBX.out.u_ HB1.out).c35
  go_wp2_with fail
  refine (HF2.out _ HW1.out).mono ?_
  rintro e w2 ⟨rfl,hb2⟩
  have HB2:=h_ (b_ HB1.out hb2)
  have HW2:=h_ (b_ HW1.out hb2)
  clear hb2 d3 d4 d5
  by_cases c2:g2=0
  ·subst c2
   rw[e_ rfl]
   have d0:=(HBX.out.u_ HB2.out) 0 _ rfl
   have d3:=(HBX.out.u_ HB2.out) 3 _ rfl
   have HE3:=h_ (show (if b.1.rows≠b.2.rows∨b.1.rows=0 then 2 else 0)=E by rw[←HE.out];unfold batE;rw[HG.out.1,HG.out.2];simp)
   obtain ⟨r1,e1⟩:=gN (b.1.rows)
   obtain ⟨r2,e2⟩:=gN (b.2.rows)
   rw[e1,e2]at HE3
   rw[e1]at d0 hr0 ⊢
   rw[e2]at d3 ⊢
   clear e1 e2
   by_cases c3:r1=r2
   ·subst c3
    have n3:(r1 !=r1)=false:=by simp
    by_cases c4:r1=0
    ·subst c4
     obtain rfl:E=2:=by rw[←HE3.out,if_pos (.inr rfl)]
     go_wp2
     go_ret
     exact ⟨R_ (err_of rfl (by decide)),HW2.out⟩
    ·have n4:¬r1<1:=by omega
     obtain rfl:E=0:=by rw[←HE3.out,if_neg (by simp[c4])]
     clear c4
     go_wp2
     go_ret
     exact ⟨R_ (err_no rfl),HW2.out⟩
   ·have n3:(r1 !=r2)=true:=by simpa using c3
    obtain rfl:E=2:=by rw[←HE3.out,if_pos (.inl c3)]
    clear c3
    go_wp2
    go_ret
    exact ⟨R_ (err_of rfl (by decide)),HW2.out⟩
  ·obtain rfl:g2=E:=by rw[←HE.out];unfold batE;rw[HG.out.1,HG.out.2,if_neg (by simp),if_pos c2]
   rw[n_ c2]
   have HC2:=h_ c2
   clear c2
   go_wp2
   go_ret
   exact ⟨R_ (err_of rfl HC2.out),HW2.out⟩
 ·obtain rfl:g1=E:=by rw[←HE.out];unfold batE;rw[HG.out.1,if_pos c1]
  rw[n_ c1]
  have HC1:=h_ c1
  clear c1
  go_wp2
  go_ret
  exact ⟨R_ (err_of rfl HC1.out),HW1.out⟩
set_option maxHeartbeats 4000000 in
set_option maxRecDepth 100000 in
theorem bsizes_any(rows parts:Int)(w:World):Calls Try.prog 34 #[.int .i64 rows,.int .i64 parts] w fun e w'=>∃s,e=.returned (.tuple #[s,errV (szE rows parts)])∧I_ w' s (szX rows parts)∧Below w.heap.size w w'∧(∀r c,F_ w.heap.size (.agg #[r,c,s])):=by
 obtain ⟨E,hE⟩:=gN (szE rows parts)
 obtain ⟨X,hX⟩:=gN (szX rows parts)
 have HE:=h_ hE
 have HX:=h_ (show (if E=0 then tab parts.toNat (fun j=>cnt parts.toNat j rows.toNat) else [])=X by rw[←hX,←hE];rfl)
 rw[hE,hX]
 clear hE hX
 have bad:∀{k:Int},E=k→k≠0→X=[]:=fun h hk=>by rw[←HX.out,if_neg (by rw[h];exact hk)]
 by_cases c0:rows<1
 ·obtain rfl:E=1:=by rw[←HE.out];unfold szE;rw[if_pos (.inl c0)]
  obtain rfl:X=[]:=bad rfl (by decide)
  rw[n_ (by decide)]
  clear bad
  go_enter Try.func34,Try.ntmps34
  go_wp2
  exact bodyPost_ret (v:=.tuple #[.slice none 0 0,.iface 65 (.int .i64 1)]) (by simp[results,Try.results34,go_sem]) rfl ⟨_,rfl,I_.nil _,Below.refl _ _,fun r c=>y_ _ _ _⟩
 by_cases c1:24<rows
 ·obtain rfl:E=1:=by rw[←HE.out];unfold szE;rw[if_pos (.inr (.inl c1))]
  obtain rfl:X=[]:=bad rfl (by decide)
  rw[n_ (by decide)]
  clear bad
  go_enter Try.func34,Try.ntmps34
  go_wp2
  exact bodyPost_ret (v:=.tuple #[.slice none 0 0,.iface 65 (.int .i64 1)]) (by simp[results,Try.results34,go_sem]) rfl ⟨_,rfl,I_.nil _,Below.refl _ _,fun r c=>y_ _ _ _⟩
 by_cases c2:parts<1
 ·obtain rfl:E=1:=by rw[←HE.out];unfold szE;rw[if_pos (.inr (.inr (.inl c2)))]
  obtain rfl:X=[]:=bad rfl (by decide)
  rw[n_ (by decide)]
  clear bad
  go_enter Try.func34,Try.ntmps34
  go_wp2
  exact bodyPost_ret (v:=.tuple #[.slice none 0 0,.iface 65 (.int .i64 1)]) (by simp[results,Try.results34,go_sem]) rfl ⟨_,rfl,I_.nil _,Below.refl _ _,fun r c=>y_ _ _ _⟩
 by_cases c3:12<parts
 ·obtain rfl:E=1:=by rw[←HE.out];unfold szE;rw[if_pos (.inr (.inr (.inr c3)))]
  obtain rfl:X=[]:=bad rfl (by decide)
  rw[n_ (by decide)]
  clear bad
  go_enter Try.func34,Try.ntmps34
  go_wp2
  exact bodyPost_ret (v:=.tuple #[.slice none 0 0,.iface 65 (.int .i64 1)]) (by simp[results,Try.results34,go_sem]) rfl ⟨_,rfl,I_.nil _,Below.refl _ _,fun r c=>y_ _ _ _⟩
 by_cases c4:rows<parts
 ·obtain rfl:E=2:=by rw[←HE.out];unfold szE;rw[if_neg (by omega),if_pos c4]
  obtain rfl:X=[]:=bad rfl (by decide)
  rw[n_ (by decide)]
  clear bad
  go_enter Try.func34,Try.ntmps34
  go_wp2
  exact bodyPost_ret (v:=.tuple #[.slice none 0 0,.iface 65 (.int .i64 2)]) (by simp[results,Try.results34,go_sem]) rfl ⟨_,rfl,I_.nil _,Below.refl _ _,fun r c=>y_ _ _ _⟩
 obtain rfl:E=0:=by rw[←HE.out];unfold szE;rw[if_neg (by omega),if_neg c4]
 rw[e_ rfl]
 clear bad
 obtain ⟨P,hP⟩:∃P:Nat,parts=(P:Int):=⟨parts.toNat,by omega⟩
 obtain ⟨R,hR⟩:∃R:Nat,rows=(R:Int):=⟨rows.toNat,by omega⟩
 have HXE:Hid (X=tab P (fun j=>cnt P j R)):=h_ (by rw[←HX.out,if_pos rfl,hP,hR];simp)
 have hmk:=run_mk0 parts P hP (by omega)
 have hp0:¬parts=0:=by omega
 have hq:rows.tdiv parts=((R / P:Nat):Int):=by rw[hR,hP,Int.tdiv_eq_ediv_of_nonneg (by omega)];exact (Int.natCast_ediv R P).symm
 have hm:rows.tmod parts=((R % P:Nat):Int):=by rw[hR,hP,Int.tmod_eq_emod_of_nonneg (by omega)];exact (Int.natCast_emod R P).symm
 obtain ⟨xq,hxq⟩:∃x:Int,x=((R / P:Nat):Int):=⟨_,rfl⟩
 obtain ⟨xm,hxm⟩:∃x:Int,x=((R % P:Nat):Int):=⟨_,rfl⟩
 rw[←hxq]at hq
 rw[←hxm]at hm
 have hq0:0≤xq:=by rw[hxq];exact Int.natCast_nonneg _
 have hq1:xq≤24:=by have h:R / P≤24:=Nat.le_trans (Nat.div_le_self R P) (by omega);rw[hxq];exact Int.ofNat_le.2 h
 have hm0:0≤xm:=by rw[hxm];exact Int.natCast_nonneg _
 have hm1:xm≤24:=by have h:R % P≤24:=Nat.le_trans (Nat.mod_le R P) (by omega);rw[hxm];exact Int.ofNat_le.2 h
 have HPR:=h_ (And.intro hP hR)
 have HQM:=h_ (And.intro hxq hxm)
 have HPB:=h_ (show 0<P∧P≤12∧R≤24 by omega)
 have HO0:=h_ (show Own (w.alloc (.cells (zeros P) 3)) w.heap.size (.slice (some ⟨w.heap.size,0,none⟩) 0 P) 0 (fun j=>cnt P j R) from World.ownsRow_made _ _ _ (Nat.le_refl _) (by unfold maxLen;omega) (zeros_size P))
 obtain ⟨e0,ei,hz0,hz1,hz2⟩:=info_parts infoInt
 have HEI:=h_ (And.intro ei (And.intro hz0 (And.intro hz1 hz2)))
 clear hP hR hxq hxm ei hz0 hz1 hz2
 go_enter Try.func34,Try.ntmps34
 go_wp2
 go_region
 go_wp2
 clear hmk
 go_loopw [8,39] (fun v c wr=>∃(i:Nat) (xi:Int),i≤P∧xi=(i:Int)∧c=.int .i64 xi∧Own wr w.heap.size v i (fun j=>cnt P j R)∧Below w.heap.size w wr) (fun _ c _=>P - (intOf c).toNat)
 case atStart=>exact ⟨0,0,Nat.zero_le _,rfl,rfl,HO0.out,d_ (o_ _ _)⟩
 case round=>
  obtain ⟨i,xi,hi,hxi,rfl,hro,hbw⟩:=hrel
  have HRO:=h_ hro
  have HBW:=h_ hbw
  have HXI:=h_ hxi
  have hxi0:0≤xi:=by omega
  have hxi1:xi≤12:=by have:=HPB.out;omega
  clear hro hbw hxi
  by_cases hlt:xi<parts
  ·have hin:i<P:=by have:=HXI.out;have:=HPR.out.1;omega
   have hcn:=cnt_eq P i HPB.out.1 hin R
   obtain ⟨u,hu⟩:=gN (cnt P i R)
   rw[hu]at hcn
   have HU:=h_ hu
   have HBS:=h_ HBW.out.size
   have HM1:=h_ (show i+1≤maxLen by unfold maxLen;have:=HPB.out;omega)
   have HM2:=h_ (show (i+1)*8≤140737488355328 by have:=HPB.out;omega)
   have HC2:=h_ (show ∀(u':Value),u'∈[Value.int .i64 u]→u'.oneCell'=true by intro u' hu';simp at hu';subst hu';rfl)
   by_cases hlm:xi<xm
   ·obtain rfl:u=xq+1:=by rw[hcn,if_pos (by have:=HXI.out;have:=HQM.out.2;omega)];have:=HQM.out.1;omega
    have HC1:=h_ (show ∀(k:Nat) (u':Value),[Value.int .i64 (xq+1)][k]?=some u'→(wr.alloc (.cells #[.int .i64 (xq+1)] 3)).cell? ((⟨wr.heap.size,0,none⟩:Addr).add k)=some u' by
     intro k u' hk
     match k,hk with
     |0,hk=>simp at hk;subst hk;simp[Addr.add])
    clear hcn hu
    go_wp2_with (at_builtin;refine wpList_append_own _ rfl _ _ 26 rfl w.heap.size 3 e0 (.int .i64 0) 1 8 Try.underlying26 HEI.out.1 HEI.out.2.1 HEI.out.2.2.1 HEI.out.2.2.2 rfl (by decide) _ _ _ rfl (HRO.out.alloc _) ⟨wr.heap.size,0,none⟩ 1 1 [.int .i64 (xq+1)] rfl rfl HC1.out HC2.out HM1.out HM2.out ?c5 ?_)
    case c5=>have:=HBS.out;simp;omega
    intro v' w' hown' hgrow _
    have HO2:=h_ (show Own w' w.heap.size v' (i+1) (fun j=>cnt P j R) by
     show w'.ownsRow _ _ _ _ _ _
     rw[tab_succ,List.map_append,HU.out]
     exact hown')
    have HB2:=h_ (show Below w.heap.size w w' from (a_ HBW.out).grown hgrow (by simp;have:=HBS.out;omega) (fun k hk=>(World.ownsRow.lt HRO.out k hk).1))
    clear hown' hgrow
    go_wp2
    go_roundw
    case rel=>exact ⟨i+1,_,by omega,by have:=HXI.out;omega,rfl,HO2.out,HB2.out⟩
    case measure=>have:=HXI.out;have:=HPR.out.1;simp[intOf];omega
   ·obtain rfl:u=xq:=by rw[hcn,if_neg (by have:=HXI.out;have:=HQM.out.2;omega)];have:=HQM.out.1;omega
    have HC1:=h_ (show ∀(k:Nat) (u':Value),[Value.int .i64 u][k]?=some u'→(wr.alloc (.cells #[.int .i64 u] 3)).cell? ((⟨wr.heap.size,0,none⟩:Addr).add k)=some u' by
     intro k u' hk
     match k,hk with
     |0,hk=>simp at hk;subst hk;simp[Addr.add])
    clear hcn hu
    go_wp2_with (at_builtin;refine wpList_append_own _ rfl _ _ 26 rfl w.heap.size 3 e0 (.int .i64 0) 1 8 Try.underlying26 HEI.out.1 HEI.out.2.1 HEI.out.2.2.1 HEI.out.2.2.2 rfl (by decide) _ _ _ rfl (HRO.out.alloc _) ⟨wr.heap.size,0,none⟩ 1 1 [.int .i64 u] rfl rfl HC1.out HC2.out HM1.out HM2.out ?c5 ?_)
    case c5=>have:=HBS.out;simp;omega
    intro v' w' hown' hgrow _
    have HO2:=h_ (show Own w' w.heap.size v' (i+1) (fun j=>cnt P j R) by
     show w'.ownsRow _ _ _ _ _ _
     rw[tab_succ,List.map_append,HU.out]
     exact hown')
    have HB2:=h_ (show Below w.heap.size w w' from (a_ HBW.out).grown hgrow (by simp;have:=HBS.out;omega) (fun k hk=>(World.ownsRow.lt HRO.out k hk).1))
    clear hown' hgrow
    go_wp2
    go_roundw
    case rel=>exact ⟨i+1,_,by omega,by have:=HXI.out;omega,rfl,HO2.out,HB2.out⟩
    case measure=>have:=HXI.out;have:=HPR.out.1;simp[intOf];omega
  ·have hin:i=P:=by have:=HXI.out;have:=HPR.out.1;omega
   have HNI:=h_ (show NewInts w.heap.size wr u8 X by rw[HXE.out];have h:=HRO.out;rw[hin]at h;exact h.newInts (by unfold maxLen;have:=HPB.out;omega))
   clear hin
   go_wp2
   exact bodyPost_ret (v:=.tuple #[u8,.nilIface]) (by simp[results,Try.results34,go_sem]) rfl ⟨_,rfl,HNI.out.isInts,HBW.out,fun r c=>HNI.out.fresh (Nat.le_refl _) _ _⟩
end Go.Proofs.Ytniloklglpchfaf
