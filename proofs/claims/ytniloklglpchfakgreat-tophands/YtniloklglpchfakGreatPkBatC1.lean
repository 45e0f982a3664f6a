/- What Check and Sizes of package batch come to. -/
import Derived.Test.YtniloklglpchfakGreatPkReg
import Derived.Test.YtniloklglpchfakGreatPkFix
import Derived.Test.YtniloklglpchfakGreatPkLBox
import Derived.Test.YtniloklglpchfakGreatPkMOps1
namespace Go.Proofs.YtniloklglpchfakGreat
open Go.RowKit
set_option maxHeartbeats 4000000 in
set_option maxRecDepth 100000 in
theorem bcheck_any(b:Mx×Mx)(sa:Option Addr)(sn sk:Nat)(ta:Option Addr)(tn tk:Nat)(w:World)(hs:I_ w (.slice sa sn sk) b.1.cells)(ht:I_ w (.slice ta tn tk) b.2.cells):
  Calls Tryz.prog 27 #[.agg #[.int .i64 b.1.rows,.int .i64 b.1.cols,.slice sa sn sk,.int .i64 b.2.rows,.int .i64 b.2.cols,.slice ta tn tk]] w fun e w'=>e=.returned (errV (batE b))∧Below w.heap.size w w':=by
 obtain ⟨V,hV⟩:=gM (w.alloc (.cells #[.int .i64 b.1.rows,.int .i64 b.1.cols,.slice sa sn sk,.int .i64 b.2.rows,.int .i64 b.2.cols,.slice ta tn tk] 30))
 have HV:=h_ hV
 have HWV:Hid (Below w.heap.size w V):=by rw[hV];exact h_ (o_ _ _)
 have HBX:Hid (Box V w.heap.size [.int .i64 b.1.rows,.int .i64 b.1.cols,.slice sa sn sk,.int .i64 b.2.rows,.int .i64 b.2.cols,.slice ta tn tk]):=by rw[hV];exact h_ (Box.new w _ 30 rfl)
 obtain ⟨E,hE⟩:=gN (batE b)
 have HE:=h_ hE
 rw[hE]
 have HF1:=h_ (C_ (.agg #[.int .i64 b.1.rows,.int .i64 b.1.cols,.slice sa sn sk]) b.1 V ⟨_,rfl,hs.u_ HWV.out⟩)
 have HF2:=h_ (fun W (h:Below w.heap.size w W)=>C_ (.agg #[.int .i64 b.2.rows,.int .i64 b.2.cols,.slice ta tn tk]) b.2 W ⟨_,rfl,ht.u_ h⟩)
 obtain ⟨g1,hg1⟩:=gN (q_ b.1)
 obtain ⟨g2,hg2⟩:=gN (q_ b.2)
 rw[hg1]at HF1
 rw[hg2]at HF2
 have HG:=h_ (And.intro hg1 hg2)
 obtain ⟨d0,d1,d2⟩:=HBX.out.c3
 rw[HV.out]at d0 d1 d2
 clear hV hE hs ht hg1 hg2
 go_enter Tryz.func27,Tryz.ntmps27
 go_wp2_with fail
 rw[←HV.out]
 refine HF1.out.mono ?_
 rintro e w1 ⟨rfl,hb1⟩
 have HB1:=h_ hb1
 have HW1:=h_ (b_ HWV.out hb1)
 clear hb1 d0 d1 d2 HF1
 by_cases c1:g1=0
 ·subst c1
  obtain ⟨R,C,gd⟩:=o__ HG.out.1
  have hr0:0≤b.1.rows:=by have:=gd.r;omega
  clear gd
  rw[e_ rfl]
  obtain ⟨d3,d4,d5⟩:=(HBX.out.u_ HB1.out).c35
  go_wp2_with fail
  refine (HF2.out _ HW1.out).mono ?_
  rintro e w2 ⟨rfl,hb2⟩
  have HB2:=h_ (b_ HB1.out hb2)
  have HW2:=h_ (b_ HW1.out hb2)
  clear hb2 d3 d4 d5
  by_cases c2:g2=0
  ·subst c2
   rw[e_ rfl]
   have d0:=(HBX.out.u_ HB2.out) 0 _ rfl
   have d3:=(HBX.out.u_ HB2.out) 3 _ rfl
   have HE3:=h_ (show (if b.1.rows≠b.2.rows∨b.1.rows=0 then 2 else 0)=E by rw[←HE.out];unfold batE;rw[HG.out.1,HG.out.2];simp)
   obtain ⟨r1,e1⟩:=gN (b.1.rows)
   obtain ⟨r2,e2⟩:=gN (b.2.rows)
   rw[e1,e2]at HE3
   rw[e1]at d0 hr0 ⊢
   rw[e2]at d3 ⊢
   clear e1 e2
   by_cases c3:r1=r2
   ·subst c3
    have n3:(r1 !=r1)=false:=by simp
    by_cases c4:r1=0
    ·subst c4
     obtain rfl:E=2:=by rw[←HE3.out,if_pos (.inr rfl)]
     go_wp2
     go_ret
     exact ⟨R_ (err_of rfl (by decide)),HW2.out⟩
    ·have n4:¬r1<1:=by omega
     obtain rfl:E=0:=by rw[←HE3.out,if_neg (by simp[c4])]
     clear c4
     go_wp2
     go_ret
     exact ⟨R_ (err_no rfl),HW2.out⟩
   ·have n3:(r1 !=r2)=true:=by simpa using c3
    obtain rfl:E=2:=by rw[←HE3.out,if_pos (.inl c3)]
    clear c3
    go_wp2
    go_ret
    exact ⟨R_ (err_of rfl (by decide)),HW2.out⟩
  ·obtain rfl:g2=E:=by rw[←HE.out];unfold batE;rw[HG.out.1,HG.out.2,if_neg (by simp),if_pos c2]
   rw[n_ c2]
   have HC2:=h_ c2
   clear c2
   go_wp2
   go_ret
   exact ⟨R_ (err_of rfl HC2.out),HW2.out⟩
 ·obtain rfl:g1=E:=by rw[←HE.out];unfold batE;rw[HG.out.1,if_pos c1]
  rw[n_ c1]
  have HC1:=h_ c1
  clear c1
  go_wp2
  go_ret
  exact ⟨R_ (err_of rfl HC1.out),HW1.out⟩
set_option maxHeartbeats 4000000 in
set_option maxRecDepth 100000 in
theorem bsizes_any(rows parts:Int)(w:World):Calls Tryz.prog 28 #[.int .i64 rows,.int .i64 parts] w fun e w'=>∃s,e=.returned (.tuple #[s,errV (szE rows parts)])∧I_ w' s (szX rows parts)∧Below w.heap.size w w'∧(∀r c,F_ w.heap.size (.agg #[r,c,s])):=by
 obtain ⟨E,hE⟩:=gN (szE rows parts)
 obtain ⟨X,hX⟩:=gN (szX rows parts)
 have HE:=h_ hE
 have HX:=h_ (show (if E=0 then tab parts.toNat (fun j=>cnt parts.toNat j rows.toNat) else [])=X by rw[←hX,←hE];rfl)
 rw[hE,hX]
 clear hE hX
 have bad:∀{k:Int},E=k→k≠0→X=[]:=fun h hk=>by rw[←HX.out,if_neg (by rw[h];exact hk)]
 by_cases c0:rows<1
 ·obtain rfl:E=1:=by rw[←HE.out];unfold szE;rw[if_pos (.inl c0)]
  obtain rfl:X=[]:=bad rfl (by decide)
  rw[n_ (by decide)]
  clear bad
  go_enter Tryz.func28,Tryz.ntmps28
  go_wp2
  exact bodyPost_ret (v:=.tuple #[.slice none 0 0,.iface 94 (.int .i64 1)]) (by simp[results,Tryz.results28,go_sem]) rfl ⟨_,rfl,I_.nil _,Below.refl _ _,fun r c=>y_ _ _ _⟩
 by_cases c1:24<rows
 ·obtain rfl:E=1:=by rw[←HE.out];unfold szE;rw[if_pos (.inr (.inl c1))]
  obtain rfl:X=[]:=bad rfl (by decide)
  rw[n_ (by decide)]
  clear bad
  go_enter Tryz.func28,Tryz.ntmps28
  go_wp2
  exact bodyPost_ret (v:=.tuple #[.slice none 0 0,.iface 94 (.int .i64 1)]) (by simp[results,Tryz.results28,go_sem]) rfl ⟨_,rfl,I_.nil _,Below.refl _ _,fun r c=>y_ _ _ _⟩
 by_cases c2:parts<1
 ·obtain rfl:E=1:=by rw[←HE.out];unfold szE;rw[if_pos (.inr (.inr (.inl c2)))]
  obtain rfl:X=[]:=bad rfl (by decide)
  rw[n_ (by decide)]
  clear bad
  go_enter Tryz.func28,Tryz.ntmps28
  go_wp2
  exact bodyPost_ret (v:=.tuple #[.slice none 0 0,.iface 94 (.int .i64 1)]) (by simp[results,Tryz.results28,go_sem]) rfl ⟨_,rfl,I_.nil _,Below.refl _ _,fun r c=>y_ _ _ _⟩
 by_cases c3:12<parts
 ·obtain rfl:E=1:=by rw[←HE.out];unfold szE;rw[if_pos (.inr (.inr (.inr c3)))]
  obtain rfl:X=[]:=bad rfl (by decide)
  rw[n_ (by decide)]
  clear bad
  go_enter Tryz.func28,Tryz.ntmps28
  go_wp2
  exact bodyPost_ret (v:=.tuple #[.slice none 0 0,.iface 94 (.int .i64 1)]) (by simp[results,Tryz.results28,go_sem]) rfl ⟨_,rfl,I_.nil _,Below.refl _ _,fun r c=>y_ _ _ _⟩
 by_cases c4:rows<parts
 ·obtain rfl:E=2:=by rw[←HE.out];unfold szE;rw[if_neg (by omega),if_pos c4]
  obtain rfl:X=[]:=bad rfl (by decide)
  rw[n_ (by decide)]
  clear bad
  go_enter Tryz.func28,Tryz.ntmps28
  go_wp2
  exact bodyPost_ret (v:=.tuple #[.slice none 0 0,.iface 94 (.int .i64 2)]) (by simp[results,Tryz.results28,go_sem]) rfl ⟨_,rfl,I_.nil _,Below.refl _ _,fun r c=>y_ _ _ _⟩
 obtain rfl:E=0:=by rw[←HE.out];unfold szE;rw[if_neg (by omega),if_neg c4]
 rw[e_ rfl]
 clear bad
 obtain ⟨P,hP⟩:∃P:Nat,parts=(P:Int):=⟨parts.toNat,by omega⟩
 obtain ⟨R,hR⟩:∃R:Nat,rows=(R:Int):=⟨rows.toNat,by omega⟩
 have HXE:Hid (X=tab P (fun j=>cnt P j R)):=h_ (by rw[←HX.out,if_pos rfl,hP,hR];simp)
 have hmk:=run_mk0 parts P hP (by omega)
 have hp0:¬parts=0:=by omega
 have hq:rows.tdiv parts=((R / P:Nat):Int):=by rw[hR,hP,Int.tdiv_eq_ediv_of_nonneg (by omega)];exact (Int.natCast_ediv R P).symm
 have hm:rows.tmod parts=((R % P:Nat):Int):=by rw[hR,hP,Int.tmod_eq_emod_of_nonneg (by omega)];exact (Int.natCast_emod R P).symm
 obtain ⟨xq,hxq⟩:∃x:Int,x=((R / P:Nat):Int):=⟨_,rfl⟩
 obtain ⟨xm,hxm⟩:∃x:Int,x=((R % P:Nat):Int):=⟨_,rfl⟩
 rw[←hxq]at hq
 rw[←hxm]at hm
 have hq0:0≤xq:=by rw[hxq];exact Int.natCast_nonneg _
 have hq1:xq≤24:=by have h:R / P≤24:=Nat.le_trans (Nat.div_le_self R P) (by omega);rw[hxq];exact Int.ofNat_le.2 h
 have hm0:0≤xm:=by rw[hxm];exact Int.natCast_nonneg _
 have hm1:xm≤24:=by have h:R % P≤24:=Nat.le_trans (Nat.mod_le R P) (by omega);rw[hxm];exact Int.ofNat_le.2 h
 have HPR:=h_ (And.intro hP hR)
 have HQM:=h_ (And.intro hxq hxm)
 have HPB:=h_ (show 0<P∧P≤12∧R≤24 by omega)
 have HO0:=h_ (show Own (w.alloc (.cells (zeros P) 3)) w.heap.size (.slice (some ⟨w.heap.size,0,none⟩) 0 P) 0 (fun j=>cnt P j R) from World.ownsRow_made _ _ _ (Nat.le_refl _) (by unfold maxLen;omega) (zeros_size P))
 obtain ⟨e0,ei,hz0,hz1,hz2⟩:=info_parts infoInt
 have HEI:=h_ (And.intro ei (And.intro hz0 (And.intro hz1 hz2)))
 clear hP hR hxq hxm ei hz0 hz1 hz2
 go_enter Tryz.func28,Tryz.ntmps28
 go_wp2
 go_region
 go_wp2
 clear hmk
 go_loopw [8,39] (fun v c wr=>∃(i:Nat) (xi:Int),i≤P∧xi=(i:Int)∧c=.int .i64 xi∧Own wr w.heap.size v i (fun j=>cnt P j R)∧Below w.heap.size w wr) (fun _ c _=>P - (intOf c).toNat)
 case atStart=>exact ⟨0,0,Nat.zero_le _,rfl,rfl,HO0.out,d_ (o_ _ _)⟩
 case round=>
  obtain ⟨i,xi,hi,hxi,rfl,hro,hbw⟩:=hrel
  have HRO:=h_ hro
  have HBW:=h_ hbw
  have HXI:=h_ hxi
  have hxi0:0≤xi:=by omega
  have hxi1:xi≤12:=by have:=HPB.out;omega
  clear hro hbw hxi
  by_cases hlt:xi<parts
  ·have hin:i<P:=by have:=HXI.out;have:=HPR.out.1;omega
   have hcn:=cnt_eq P i HPB.out.1 hin R
   obtain ⟨u,hu⟩:=gN (cnt P i R)
   rw[hu]at hcn
   have HU:=h_ hu
   have HBS:=h_ HBW.out.size
   have HM1:=h_ (show i+1≤maxLen by unfold maxLen;have:=HPB.out;omega)
   have HM2:=h_ (show (i+1)*8≤140737488355328 by have:=HPB.out;omega)
   have HC2:=h_ (show ∀(u':Value),u'∈[Value.int .i64 u]→u'.oneCell'=true by intro u' hu';simp at hu';subst hu';rfl)
   by_cases hlm:xi<xm
   ·obtain rfl:u=xq+1:=by rw[hcn,if_pos (by have:=HXI.out;have:=HQM.out.2;omega)];have:=HQM.out.1;omega
    have HC1:=h_ (show ∀(k:Nat) (u':Value),[Value.int .i64 (xq+1)][k]?=some u'→(wr.alloc (.cells #[.int .i64 (xq+1)] 3)).cell? ((⟨wr.heap.size,0,none⟩:Addr).add k)=some u' by
     intro k u' hk
     match k,hk with
     |0,hk=>simp at hk;subst hk;simp[Addr.add])
    clear hcn hu
    go_wp2_with (at_builtin;refine wpList_append_own _ rfl _ _ 26 rfl w.heap.size 3 e0 (.int .i64 0) 1 8 Tryz.underlying26 HEI.out.1 HEI.out.2.1 HEI.out.2.2.1 HEI.out.2.2.2 rfl (by decide) _ _ _ rfl (HRO.out.alloc _) ⟨wr.heap.size,0,none⟩ 1 1 [.int .i64 (xq+1)] rfl rfl HC1.out HC2.out HM1.out HM2.out ?c5 ?_)
    case c5=>have:=HBS.out;simp;omega
    intro v' w' hown' hgrow _
    have HO2:=h_ (show Own w' w.heap.size v' (i+1) (fun j=>cnt P j R) by
     show w'.ownsRow _ _ _ _ _ _
     rw[tab_succ,List.map_append,HU.out]
     exact hown')
    have HB2:=h_ (show Below w.heap.size w w' from (a_ HBW.out).grown hgrow (by simp;have:=HBS.out;omega) (fun k hk=>(World.ownsRow.lt HRO.out k hk).1))
    clear hown' hgrow
    go_wp2
    go_roundw
    case rel=>exact ⟨i+1,_,by omega,by have:=HXI.out;omega,rfl,HO2.out,HB2.out⟩
    case measure=>have:=HXI.out;have:=HPR.out.1;simp[intOf];omega
   ·obtain rfl:u=xq:=by rw[hcn,if_neg (by have:=HXI.out;have:=HQM.out.2;omega)];have:=HQM.out.1;omega
    have HC1:=h_ (show ∀(k:Nat) (u':Value),[Value.int .i64 u][k]?=some u'→(wr.alloc (.cells #[.int .i64 u] 3)).cell? ((⟨wr.heap.size,0,none⟩:Addr).add k)=some u' by
     intro k u' hk
     match k,hk with
     |0,hk=>simp at hk;subst hk;simp[Addr.add])
    clear hcn hu
    go_wp2_with (at_builtin;refine wpList_append_own _ rfl _ _ 26 rfl w.heap.size 3 e0 (.int .i64 0) 1 8 Tryz.underlying26 HEI.out.1 HEI.out.2.1 HEI.out.2.2.1 HEI.out.2.2.2 rfl (by decide) _ _ _ rfl (HRO.out.alloc _) ⟨wr.heap.size,0,none⟩ 1 1 [.int .i64 u] rfl rfl HC1.out HC2.out HM1.out HM2.out ?c5 ?_)
    case c5=>have:=HBS.out;simp;omega
    intro v' w' hown' hgrow _
    have HO2:=h_ (show Own w' w.heap.size v' (i+1) (fun j=>cnt P j R) by
     show w'.ownsRow _ _ _ _ _ _
     rw[tab_succ,List.map_append,HU.out]
     exact hown')
    have HB2:=h_ (show Below w.heap.size w w' from (a_ HBW.out).grown hgrow (by simp;have:=HBS.out;omega) (fun k hk=>(World.ownsRow.lt HRO.out k hk).1))
    clear hown' hgrow
    go_wp2
    go_roundw
    case rel=>exact ⟨i+1,_,by omega,by have:=HXI.out;omega,rfl,HO2.out,HB2.out⟩
    case measure=>have:=HXI.out;have:=HPR.out.1;simp[intOf];omega
  ·have hin:i=P:=by have:=HXI.out;have:=HPR.out.1;omega
   have HNI:=h_ (show NewInts w.heap.size wr u8 X by rw[HXE.out];have h:=HRO.out;rw[hin]at h;exact h.newInts (by unfold maxLen;have:=HPB.out;omega))
   clear hin
   go_wp2
   exact bodyPost_ret (v:=.tuple #[u8,.nilIface]) (by simp[results,Tryz.results28,go_sem]) rfl ⟨_,rfl,HNI.out.isInts,HBW.out,fun r c=>HNI.out.fresh (Nat.le_refl _) _ _⟩
def rawCells (z:Value) (k:Nat):Array Value:=madeCells z.cells k
theorem rawCells_size(z:Value)(k:Nat):(rawCells z k).size=k:=size_madeCells _ _
theorem run_mkL(e s size bytes:Nat)(z:Value)(hu:Tryz.prog.underlying s=some (.slice e))(hi:(Tryz.prog.info? e).map (fun i=>(i.zero,i.size,i.bytes))=some (some z,size,bytes))(L:Int)(n:Nat)(hL:L=(n:Int))(hn:bytes*n≤281474976710656)(hm:n≤9223372036854775807)(W:World):
  (Instr.makeSlice s (.int .i64 0) (.int .i64 L)).run Tryz.prog W=.ok (.slice (some ⟨W.heap.size,0,none⟩) 0 n) (W.alloc (.cells (rawCells z (n*size)) e)):=by
 obtain ⟨i0,hi0,hz0,hz1,hz2⟩:=info_parts hi
 subst hL
 have hr:=run_make (P:=Tryz.prog) W s e i0 z hu hi0 hz0 .i64 .i64 0 (n:Int) (by omega) (by omega) (by rw[hz2];omega) (by omega)
 simpa [hz1,rawCells] using hr
theorem OwnsG.room{G:Nat→Prop}{base:Nat}{w:World}{e:TypeId}{size cap:Nat}(cs:Array Value)(hb:base≤w.heap.size)(hc:cap≤maxLen)(hs:cs.size=cap*size):OwnsG G base (w.alloc (.cells cs e)) e size (.slice (some ⟨w.heap.size,0,none⟩) 0 cap) 0 []:=
 ⟨[],⟨by simp,.inr ⟨w.heap.size,cap,cs,rfl,hb,heap_alloc_new w _,Nat.zero_le _,hc,hs,by simp⟩⟩,Enc.nil _ _⟩
theorem Owns.room{lo base:Nat}{w:World}{e:TypeId}{size cap:Nat}(cs:Array Value)(hb:base≤w.heap.size)(hc:cap≤maxLen)(hs:cs.size=cap*size):Owns lo base (w.alloc (.cells cs e)) e size (.slice (some ⟨w.heap.size,0,none⟩) 0 cap) 0 []:=
 ⟨[],⟨by simp,.inr ⟨w.heap.size,cap,cs,rfl,hb,heap_alloc_new w _,Nat.zero_le _,hc,hs,by simp⟩⟩,Enc.nil _ _⟩
def IsBts (w:World) (v:Value) (ds:List (Mx×Mx)):Prop:=Reads w v ds.length (ds.flatMap gdS)
theorem isBts_nil(w:World):IsBts w (.slice none 0 0) []:=⟨none,0,rfl,Nat.le_refl _,Nat.zero_le _,.inl rfl⟩
theorem infoBt:(Tryz.prog.info? 30).map (fun i=>(i.zero,i.size,i.bytes))=some (some (.agg #[.int .i64 0,.int .i64 0,.slice none 0 0,.int .i64 0,.int .i64 0,.slice none 0 0]),6,80):=by kernel_rfl
theorem range_map_snoc{α:Type}(f:Nat→α)(i:Nat):(List.range i).map f++[f i]=(List.range (i+1)).map f:=by simp[List.range_succ]
theorem rows_good{va:Value}{ma:Mx}(f t:Int)(w:World)(hva:M_ w va ma)(X:Mx)(hX:rowsX ma f t=X)(hE:rowsE ma f t=0):Calls Tryz.prog 61 #[va,.int .i64 f,.int .i64 t] w fun e w'=>∃a n k,e=.returned (.tuple #[.agg #[.int .i64 X.rows,.int .i64 X.cols,.slice a n k],.nilIface])∧I_ w' (.slice a n k) X.cells∧Below w.heap.size w w'∧F_ w.heap.size (.agg #[.int .i64 X.rows,.int .i64 X.cols,.slice a n k]):=by
 refine (mrows_any va ma f t w hva).mono ?_
 intro e w' h
 obtain ⟨v',rfl,⟨s,rfl,hs⟩,hb,hf⟩:=h
 obtain ⟨a,n,k,rfl⟩:=hs.shape
 rw[hE,e_ rfl]
 rw[hX]at hs hf
 exact ⟨a,n,k,by rw[hX],hs,hb,hf⟩
set_option maxHeartbeats 8000000 in
set_option maxRecDepth 100000 in
theorem browsof_any(b:Mx×Mx)(X1 X2:Mx)(f t:Int)(sa:Option Addr)(sn sk:Nat)(ta:Option Addr)(tn tk:Nat)(w:World)(hs:I_ w (.slice sa sn sk) b.1.cells)(ht:I_ w (.slice ta tn tk) b.2.cells)(e1:rowsX b.1 f t=X1)(e2:rowsX b.2 f t=X2)(z1:rowsE b.1 f t=0)(z2:rowsE b.2 f t=0):
  Calls Tryz.prog 29 #[.agg #[.int .i64 b.1.rows,.int .i64 b.1.cols,.slice sa sn sk,.int .i64 b.2.rows,.int .i64 b.2.cols,.slice ta tn tk],.int .i64 f,.int .i64 t] w fun e w'=>∃pa pn pk qa qn qk,e=.returned (.tuple #[.agg #[.int .i64 X1.rows,.int .i64 X1.cols,.slice pa pn pk,.int .i64 X2.rows,.int .i64 X2.cols,.slice qa qn qk],.nilIface])∧I_ w' (.slice pa pn pk) X1.cells∧I_ w' (.slice qa qn qk) X2.cells∧F_ w.heap.size (.agg #[.int .i64 X1.rows,.int .i64 X1.cols,.slice pa pn pk])∧F_ w.heap.size (.agg #[.int .i64 X2.rows,.int .i64 X2.cols,.slice qa qn qk])∧Below w.heap.size w w':=by
 obtain ⟨V,hV⟩:=gM ((w.alloc (.cells #[.int .i64 b.1.rows,.int .i64 b.1.cols,.slice sa sn sk,.int .i64 b.2.rows,.int .i64 b.2.cols,.slice ta tn tk] 30)).alloc (.cells #[.int .i64 0,.int .i64 0,.slice none 0 0,.int .i64 0,.int .i64 0,.slice none 0 0] 30))
 have HV:=h_ hV
 have HWV:Hid (Below w.heap.size w V):=by rw[hV];exact h_ (a_ (o_ _ _))
 have HVS:Hid (V.heap.size=w.heap.size+2):=by rw[hV];exact h_ (by simp)
 have HBX:Hid (Box V w.heap.size [.int .i64 b.1.rows,.int .i64 b.1.cols,.slice sa sn sk,.int .i64 b.2.rows,.int .i64 b.2.cols,.slice ta tn tk]):=by rw[hV];exact h_ ((Box.new w _ 30 rfl).u_ (o_ _ _))
 have HXZ:Hid (Box V (w.heap.size+1) [.int .i64 0,.int .i64 0,.slice none 0 0,.int .i64 0,.int .i64 0,.slice none 0 0]):=by rw[hV];exact h_ (Box.new _ [.int .i64 0,.int .i64 0,.slice none 0 0,.int .i64 0,.int .i64 0,.slice none 0 0] 30 (by simp))
 have HXF:Hid (Free V (w.heap.size+1)):=by rw[hV];exact h_ (Free.new _ _ _ (by simp))
 have HC1:=h_ (rows_good f t V (va:=.agg #[.int .i64 b.1.rows,.int .i64 b.1.cols,.slice sa sn sk]) (ma:=b.1) ⟨_,rfl,hs.u_ HWV.out⟩ X1 e1 z1)
 have HC2:=h_ (fun W (h:Below w.heap.size w W)=>rows_good f t W (va:=.agg #[.int .i64 b.2.rows,.int .i64 b.2.cols,.slice ta tn tk]) (ma:=b.2) ⟨_,rfl,ht.u_ h⟩ X2 e2 z2)
 obtain ⟨d0,d1,d2⟩:=HBX.out.c3
 rw[HV.out]at d0 d1 d2
 clear hV hs ht e1 e2 z1 z2
 go_enter Tryz.func29,Tryz.ntmps29
 go_wp2_with fail
 rw[←HV.out]
 refine HC1.out.mono ?_
 rintro e w1 ⟨pa,pn,pk,rfl,hp,hb1,hf1⟩
 have HP:=h_ hp
 have HF1:=h_ hf1
 have HB1:=h_ (show Below V.heap.size V (w1.alloc (.cells #[.int .i64 X1.rows,.int .i64 X1.cols,.slice pa pn pk] 28)) from a_ hb1)
 have HBB:=h_ (Box.new w1 [.int .i64 X1.rows,.int .i64 X1.cols,.slice pa pn pk] 28 rfl)
 have HP1:=h_ (hp.u_ (o_ w1 (.cells #[.int .i64 X1.rows,.int .i64 X1.cols,.slice pa pn pk] 28)))
 clear hp hf1 hb1 d0 d1 d2 HC1
 obtain ⟨d3,d4,d5⟩:=(HBX.out.u_ HB1.out).c35
 have HX2:=h_ (HC2.out _ (b_ HWV.out HB1.out))
 go_wp2_with fail
 refine HX2.out.mono ?_
 rintro e w2 ⟨qa,qn,qk,rfl,hq,hb2,hf2⟩
 have HQ:=h_ hq
 have HF2:=h_ (f_ hf2 HB1.out.size)
 have HB2:=h_ (b_ HB1.out hb2)
 have HPP:=h_ (HP1.out.u_ hb2)
 have HB3:=h_ (show Below V.heap.size V (w2.alloc (.cells #[.int .i64 X2.rows,.int .i64 X2.cols,.slice qa qn qk] 28)) from a_ HB2.out)
 obtain ⟨c0,c1,c2⟩:=(HBB.out.u_ (a_ (o:=(.cells #[.int .i64 X2.rows,.int .i64 X2.cols,.slice qa qn qk] 28)) hb2)).c3
 clear hq hf2 hb2 d3 d4 d5 HX2
 have t0:=(HXZ.out.u_ HB3.out) 0 _ rfl;have f0:=(HXF.out.u_ HB3.out HXZ.out.lt) 0;have t1:=(HXZ.out.u_ HB3.out) 1 _ rfl;have f1:=(HXF.out.u_ HB3.out HXZ.out.lt) 1;have t2:=(HXZ.out.u_ HB3.out) 2 _ rfl;have f2:=(HXF.out.u_ HB3.out HXZ.out.lt) 2;have t3:=(HXZ.out.u_ HB3.out) 3 _ rfl;have f3:=(HXF.out.u_ HB3.out HXZ.out.lt) 3;have t4:=(HXZ.out.u_ HB3.out) 4 _ rfl;have f4:=(HXF.out.u_ HB3.out HXZ.out.lt) 4;have t5:=(HXZ.out.u_ HB3.out) 5 _ rfl;have f5:=(HXF.out.u_ HB3.out HXZ.out.lt) 5
 have HI1:=h_ (show I_ (((((((w2.alloc (.cells #[.int .i64 X2.rows,.int .i64 X2.cols,.slice qa qn qk] 28)).setCell ⟨w.heap.size+1,0,none⟩ (.int .i64 X1.rows)).setCell ⟨w.heap.size+1,1,none⟩ (.int .i64 X1.cols)).setCell ⟨w.heap.size+1,2,none⟩ (.slice pa pn pk)).setCell ⟨w.heap.size+1,3,none⟩ (.int .i64 X2.rows)).setCell ⟨w.heap.size+1,4,none⟩ (.int .i64 X2.cols)).setCell ⟨w.heap.size+1,5,none⟩ (.slice qa qn qk)) (.slice pa pn pk) X1.cells from I_.aboveF HPP.out HF1.out ((v_ (v_ (v_ (v_ (v_ (v_ (abv_alloc (Above.refl _ _)) (by have:=HVS.out;omega)) (by have:=HVS.out;omega)) (by have:=HVS.out;omega)) (by have:=HVS.out;omega)) (by have:=HVS.out;omega)) (by have:=HVS.out;omega))))
 have HI2:=h_ (show I_ (((((((w2.alloc (.cells #[.int .i64 X2.rows,.int .i64 X2.cols,.slice qa qn qk] 28)).setCell ⟨w.heap.size+1,0,none⟩ (.int .i64 X1.rows)).setCell ⟨w.heap.size+1,1,none⟩ (.int .i64 X1.cols)).setCell ⟨w.heap.size+1,2,none⟩ (.slice pa pn pk)).setCell ⟨w.heap.size+1,3,none⟩ (.int .i64 X2.rows)).setCell ⟨w.heap.size+1,4,none⟩ (.int .i64 X2.cols)).setCell ⟨w.heap.size+1,5,none⟩ (.slice qa qn qk)) (.slice qa qn qk) X2.cells from I_.aboveF HQ.out HF2.out ((v_ (v_ (v_ (v_ (v_ (v_ (abv_alloc (Above.refl _ _)) (by have:=HVS.out;omega)) (by have:=HVS.out;omega)) (by have:=HVS.out;omega)) (by have:=HVS.out;omega)) (by have:=HVS.out;omega)) (by have:=HVS.out;omega))))
 have HBE:=h_ (show Below w.heap.size w (((((((w2.alloc (.cells #[.int .i64 X2.rows,.int .i64 X2.cols,.slice qa qn qk] 28)).setCell ⟨w.heap.size+1,0,none⟩ (.int .i64 X1.rows)).setCell ⟨w.heap.size+1,1,none⟩ (.int .i64 X1.cols)).setCell ⟨w.heap.size+1,2,none⟩ (.slice pa pn pk)).setCell ⟨w.heap.size+1,3,none⟩ (.int .i64 X2.rows)).setCell ⟨w.heap.size+1,4,none⟩ (.int .i64 X2.cols)).setCell ⟨w.heap.size+1,5,none⟩ (.slice qa qn qk)) from t_ (t_ (t_ (t_ (t_ (t_ (b_ HWV.out HB3.out) (by omega)) (by omega)) (by omega)) (by omega)) (by omega)) (by omega))
 go_wp2
 exact bodyPost_ret (v:=.tuple #[.agg #[.int .i64 X1.rows,.int .i64 X1.cols,.slice pa pn pk,.int .i64 X2.rows,.int .i64 X2.cols,.slice qa qn qk],.nilIface]) (by simp[results,Tryz.results29,go_sem,t0,t1,t2,t3,t4,t5]) rfl ⟨pa,pn,pk,qa,qn,qk,rfl,HI1.out,HI2.out,f_ HF1.out HWV.out.size,f_ HF2.out HWV.out.size,HBE.out⟩
set_option maxHeartbeats 16000000 in
set_option maxRecDepth 100000 in
theorem bsplit_any(b:Mx×Mx)(parts:Int)(sa:Option Addr)(sn sk:Nat)(ta:Option Addr)(tn tk:Nat)(w:World)(hs:I_ w (.slice sa sn sk) b.1.cells)(ht:I_ w (.slice ta tn tk) b.2.cells):
  Calls Tryz.prog 8 #[.agg #[.int .i64 b.1.rows,.int .i64 b.1.cols,.slice sa sn sk,.int .i64 b.2.rows,.int .i64 b.2.cols,.slice ta tn tk],.int .i64 parts] w fun e w'=>∃u,e=.returned (.tuple #[u,errV (splE b parts)])∧IsBts w' u (splX b parts)∧Below w.heap.size w w':=by
 obtain ⟨V,hV⟩:=gM (w.alloc (.cells #[.int .i64 b.1.rows,.int .i64 b.1.cols,.slice sa sn sk,.int .i64 b.2.rows,.int .i64 b.2.cols,.slice ta tn tk] 30))
 have HV:=h_ hV
 have HWV:Hid (Below w.heap.size w V):=by rw[hV];exact h_ (o_ _ _)
 have HBX:Hid (Box V w.heap.size [.int .i64 b.1.rows,.int .i64 b.1.cols,.slice sa sn sk,.int .i64 b.2.rows,.int .i64 b.2.cols,.slice ta tn tk]):=by rw[hV];exact h_ (Box.new w _ 30 rfl)
 obtain ⟨E,hE⟩:=gN (splE b parts)
 obtain ⟨X,hX⟩:=gN (splX b parts)
 have HE:=h_ (show (if batE b≠0 then batE b else szE b.1.rows parts)=E by rw[←hE];rfl)
 have HX:=h_ (show (if E=0 then (List.range parts.toNat).map (partX b parts.toNat b.1.rows.toNat) else [])=X by rw[←hX,←hE];rfl)
 rw[hE,hX]
 have HI:=h_ (And.intro hs ht)
 have HF:=h_ (bcheck_any b sa sn sk ta tn tk V (hs.u_ HWV.out) (ht.u_ HWV.out))
 obtain ⟨g1,hg1⟩:=gN (batE b)
 rw[hg1]at HF HE
 have HG1:=h_ hg1
 have d0:=HBX.out 0 _ rfl;have d1:=HBX.out 1 _ rfl;have d2:=HBX.out 2 _ rfl;have d3:=HBX.out 3 _ rfl;have d4:=HBX.out 4 _ rfl;have d5:=HBX.out 5 _ rfl
 rw[HV.out]at d0 d1 d2 d3 d4 d5
 clear hV hE hX hs ht hg1
 by_cases c1:g1=0
 case neg=>
  obtain rfl:g1=E:=by rw[←HE.out,if_pos c1]
  obtain rfl:X=[]:=by rw[←HX.out,if_neg c1]
  rw[n_ c1]at HF ⊢
  clear c1
  go_enter Tryz.func8,Tryz.ntmps8
  go_wp2_with fail
  rw[←HV.out]
  refine HF.out.mono ?_
  rintro e w1 ⟨rfl,hb1⟩
  have HW1:=h_ (b_ HWV.out hb1)
  clear hb1 d0 d1 d2 d3 d4 d5 HF
  go_wp2
  exact bodyPost_ret (v:=.tuple #[.slice none 0 0,.iface 94 (.int .i64 g1)]) (by simp[results,Tryz.results8,go_sem]) rfl ⟨_,rfl,isBts_nil _,HW1.out⟩
 case pos=>
 subst c1
 rw[e_ rfl]at HF
 have HE2:=h_ (show szE b.1.rows parts=E by rw[←HE.out,if_neg (by simp)])
 have HZ:=h_ (fun W=>bsizes_any b.1.rows parts W)
 rw[HE2.out]at HZ
 by_cases c2:E=0
 case neg=>
  obtain rfl:X=[]:=by rw[←HX.out,if_neg c2]
  rw[n_ c2]at HZ ⊢
  clear c2
  go_enter Tryz.func8,Tryz.ntmps8
  go_wp2_with fail
  rw[←HV.out]
  refine HF.out.mono ?_
  rintro e w1 ⟨rfl,hb1⟩
  have HB1:=h_ hb1
  have HW1:=h_ (b_ HWV.out hb1)
  clear hb1 d0 d1 d2 d3 d4 d5 HF
  have d0:=(HBX.out.u_ HB1.out) 0 _ rfl
  go_wp2_with fail
  refine (HZ.out w1).mono ?_
  rintro e W2 ⟨z,rfl,hz,hb2,_⟩
  have HW2:=h_ (b_ HW1.out hb2)
  obtain ⟨za,zn,zk,rfl⟩:=hz.shape
  clear hz hb2 d0 HZ
  go_wp2
  exact bodyPost_ret (v:=.tuple #[.slice none 0 0,.iface 94 (.int .i64 E)]) (by simp[results,Tryz.results8,go_sem]) rfl ⟨_,rfl,isBts_nil _,HW2.out⟩
 case pos=>
 subst c2
 rw[e_ rfl]at HZ
 rw[e_ rfl]
 obtain ⟨h1,h2,h3,h4⟩:=bat_good HG1.out
 have hsz:¬(b.1.rows<1∨24<b.1.rows∨parts<1∨12<parts)∧¬b.1.rows<parts:=by
  have h:=HE2.out
  unfold szE at h
  by_cases a1:b.1.rows<1∨24<b.1.rows∨parts<1∨12<parts
  ·rw[if_pos a1]at h;cases h
  ·rw[if_neg a1]at h
   by_cases a2:b.1.rows<parts
   ·rw[if_pos a2]at h;cases h
   ·exact ⟨a1,a2⟩
 obtain ⟨P,hP⟩:∃P:Nat,parts=(P:Int):=⟨parts.toNat,by omega⟩
 obtain ⟨Q,hQ⟩:∃Q:Nat,b.1.rows=(Q:Int):=⟨b.1.rows.toNat,by omega⟩
 have HXE:Hid (X=(List.range P).map (partX b P Q)):=h_ (by rw[←HX.out,if_pos rfl,hP,hQ];simp)
 have HPQ:=h_ (show parts=(P:Int)∧b.1.rows=(Q:Int)∧b.2.rows=(Q:Int)∧0<P∧P≤12∧Q≤24 from ⟨hP,hQ,by omega,by omega,by omega,by omega⟩)
 have HFF:=h_ (And.intro h1 h2)
 have HZX:Hid (szX b.1.rows parts=tab P (fun j=>cnt P j Q)):=h_ (by unfold szX;rw[if_pos HE2.out,hP,hQ];simp)
 have hmk:=run_mkL 30 43 6 80 _ Tryz.underlying43 infoBt (P:Int) P rfl (by omega) (by omega)
 obtain ⟨e0,ei,hz0,hz1,hz2⟩:=info_parts infoBt
 have HEI:=h_ (And.intro ei (And.intro hz0 (And.intro hz1 hz2)))
 have hP12:P≤12:=by omega
 clear h1 h2 h3 h4 hsz hP hQ ei hz0 hz1 hz2
 go_enter Tryz.func8,Tryz.ntmps8
 go_wp2_with fail
 rw[←HV.out]
 refine HF.out.mono ?_
 rintro e w1 ⟨rfl,hb1⟩
 have HB1:=h_ hb1
 have HW1:=h_ (b_ HWV.out hb1)
 clear hb1 d0 d1 d2 d3 d4 d5 HF
 have d0:=(HBX.out.u_ HB1.out) 0 _ rfl
 go_wp2_with fail
 refine (HZ.out w1).mono ?_
 rintro e W2 ⟨z,rfl,hz,hb2,_⟩
 have HZI:=h_ hz
 have HB2:=h_ (b_ HB1.out hb2)
 have HW2:=h_ (b_ HW1.out hb2)
 clear hz hb2 d0 HZ
 obtain ⟨za,zn,zk,rfl⟩:=HZI.out.shape
 have hzn:zn=P:=by
  obtain ⟨_,_,e1,_⟩:=HZI.out
  have e2:=(Value.slice.inj e1).2.1
  rw[HZX.out,tab_len]at e2;exact e2
 subst hzn
 go_wp2
 clear hmk
 go_loopw [9,10,36] (fun u f c wr=>∃(i:Nat) (xi xf:Int),i≤zn∧xi=(i:Int)∧c=.int .i64 xi∧f=.int .i64 xf∧xf=begAt zn Q i∧Owns W2.heap.size W2.heap.size wr 30 6 u i (((List.range i).map (partX b zn Q)).flatMap gdS)∧Below W2.heap.size W2 wr) (fun _ _ c _=>zn - (intOf c).toNat)
 case atStart=>exact ⟨0,0,0,Nat.zero_le _,rfl,rfl,rfl,rfl,Owns.room (rawCells (.agg #[.int .i64 0,.int .i64 0,.slice none 0 0,.int .i64 0,.int .i64 0,.slice none 0 0]) (zn*6)) (Nat.le_refl _) (by unfold maxLen;omega) (rawCells_size _ _),o_ _ _⟩
 case round=>
  obtain ⟨i,xi,xf,hi,hxi,rfl,rfl,hxf,how,hb⟩:=hrel
  have HXI:=h_ hxi
  have HXF:=h_ hxf
  have HO:=h_ how
  have HB:=h_ hb
  have hxi0:0≤xi:=by omega
  have hxi1:xi≤12:=by omega
  have hf0:0≤xf:=by have:=begAt_nonneg zn Q i;omega
  have hf1:xf≤24:=by have:=begAt_le zn i Q;have:=HPQ.out;omega
  clear hxi hxf how hb
  by_cases hlt:xi<(zn:Int)
  ·have hin:i<zn:=by have:=HXI.out;omega
   have hxn:xi.toNat=i:=by have:=HXI.out;omega
   obtain ⟨si,hsi⟩:=gN (cnt zn i Q)
   have hs0:0≤si:=by have:=cnt_nonneg zn i Q;omega
   have hs1:si≤24:=by have:=cnt_le zn i Q;have:=HPQ.out;omega
   have hnx:begAt zn Q (i+1)=xf+si:=by show begAt zn Q i+cnt zn i Q=_;rw[hsi,←HXF.out]
   have hle:xf+si≤(Q:Int):=by rw[←hnx];exact begAt_le zn (i+1) Q
   have HNX:=h_ hnx
   obtain ⟨zo',zcap,hz1,_,_,h4z⟩:=HZI.out
   have hzi:(szX b.1.rows parts)[i]?=some si:=by rw[HZX.out,tab_at hin,hsi]
   obtain ⟨zb,zo,rz,hclz⟩:=h4z.resolve_left (fun e=>by rw[e]at hzi;simp at hzi)
   replace hz1:=(Value.slice.inj hz1).1
   rw[rz]at hz1
   subst hz1
   have m0:=c_ HB.out (show W2.cell? ⟨zb,zo+xi.toNat,none⟩=some (.int .i64 si) by rw[hxn];exact hclz _ _ hzi)
   have rE1:rowsE b.1 xf (xf+si)=0:=by unfold rowsE;rw[if_neg (by simp[HFF.out.1]),if_neg (by have:=HPQ.out.2.1;omega)]
   have rE2:rowsE b.2 xf (xf+si)=0:=by unfold rowsE;rw[if_neg (by simp[HFF.out.2]),if_neg (by have:=HPQ.out.2.2.1;omega)]
   obtain ⟨X1,ex1⟩:=gN (rowsX b.1 xf (xf+si))
   obtain ⟨X2,ex2⟩:=gN (rowsX b.2 xf (xf+si))
   have HPX:=h_ (show partX b zn Q i=(X1,X2) by unfold partX;rw[hnx,←HXF.out,ex1,ex2])
   have HT:=h_ (browsof_any b X1 X2 xf (xf+si) sa sn sk ta tn tk wr (HI.out.1.u_ (b_ HW2.out HB.out)) (HI.out.2.u_ (b_ HW2.out HB.out)) ex1 ex2 rE1 rE2)
   have HBR:=h_ (HBX.out.u_ (b_ HB2.out HB.out))
   have d0:=HBR.out 0 _ rfl;have d1:=HBR.out 1 _ rfl;have d2:=HBR.out 2 _ rfl;have d3:=HBR.out 3 _ rfl;have d4:=HBR.out 4 _ rfl;have d5:=HBR.out 5 _ rfl
   clear hclz h4z rz hzi rE1 rE2 ex1 ex2 hsi hnx hxn
   go_wp2_with fail
   refine HT.out.mono ?_
   rintro e wa ⟨pa,pn,pk,qa,qn,qk,rfl,hp,hq,hf1,hf2,hba⟩
   have HDA:=h_ (show Below wr.heap.size wr (wa.alloc (.cells #[.int .i64 X1.rows,.int .i64 X1.cols,.slice pa pn pk,.int .i64 X2.rows,.int .i64 X2.cols,.slice qa qn qk] 30)) from a_ hba)
   have HBA:=h_ (b_ HB.out HDA.out)
   have HGL:=h_ (show ∀x,(fun b=>u9.ownBlock=some b∨(W2.heap.size≤b∧b<W2.heap.size)) x→x<wr.heap.size from fun x hx=>by
    rcases hx with hx|hx
    ·exact (HO.out.lt x hx).2
    ·omega)
   have HPR:=h_ (And.intro (x_ hp hf1 HGL.out) (x_ hq hf2 HGL.out))
   have HOA:=h_ (HO.out.u_ (a_ (o:=(.cells #[.int .i64 X1.rows,.int .i64 X1.cols,.slice pa pn pk,.int .i64 X2.rows,.int .i64 X2.cols,.slice qa qn qk] 30)) HDA.out))
   have HEN:=h_ (show Enc ((wa.alloc (.cells #[.int .i64 X1.rows,.int .i64 X1.cols,.slice pa pn pk,.int .i64 X2.rows,.int .i64 X2.cols,.slice qa qn qk] 30)).alloc (.cells #[.int .i64 X1.rows,.int .i64 X1.cols,.slice pa pn pk,.int .i64 X2.rows,.int .i64 X2.cols,.slice qa qn qk] 30)) (fun b=>u9.ownBlock=some b∨(W2.heap.size≤b∧b<W2.heap.size)) (gdS (X1,X2)) [.int .i64 X1.rows,.int .i64 X1.cols,.slice pa pn pk,.int .i64 X2.rows,.int .i64 X2.cols,.slice qa qn qk] from enc_gd (d:=(X1,X2)) ((HPR.out.1.u_ (o_ _ _)).u_ (o_ _ _)) ((HPR.out.2.u_ (o_ _ _)).u_ (o_ _ _)))
   have HNB:=h_ (show Box ((wa.alloc (.cells #[.int .i64 X1.rows,.int .i64 X1.cols,.slice pa pn pk,.int .i64 X2.rows,.int .i64 X2.cols,.slice qa qn qk] 30)).alloc (.cells #[.int .i64 X1.rows,.int .i64 X1.cols,.slice pa pn pk,.int .i64 X2.rows,.int .i64 X2.cols,.slice qa qn qk] 30)) (wa.heap.size+1) [.int .i64 X1.rows,.int .i64 X1.cols,.slice pa pn pk,.int .i64 X2.rows,.int .i64 X2.cols,.slice qa qn qk] from Box.new _ _ _ (World.size_alloc _ _))
   have HBS:=h_ (show W2.heap.size≤((wa.alloc (.cells #[.int .i64 X1.rows,.int .i64 X1.cols,.slice pa pn pk,.int .i64 X2.rows,.int .i64 X2.cols,.slice qa qn qk] 30)).alloc (.cells #[.int .i64 X1.rows,.int .i64 X1.cols,.slice pa pn pk,.int .i64 X2.rows,.int .i64 X2.cols,.slice qa qn qk] 30)).heap.size from Nat.le_trans HBA.out.size (o_ (wa.alloc (.cells #[.int .i64 X1.rows,.int .i64 X1.cols,.slice pa pn pk,.int .i64 X2.rows,.int .i64 X2.cols,.slice qa qn qk] 30)) (.cells #[.int .i64 X1.rows,.int .i64 X1.cols,.slice pa pn pk,.int .i64 X2.rows,.int .i64 X2.cols,.slice qa qn qk] 30)).size)
   clear hp hq hf1 hf2 hba d0 d1 d2 d3 d4 d5 HT HPR m0
   go_wp2_with (at_builtin;refine wpList_append_owns rfl _ _ 43 rfl W2.heap.size 30 e0 (.agg #[.int .i64 0,.int .i64 0,.slice none 0 0,.int .i64 0,.int .i64 0,.slice none 0 0]) 6 80 Tryz.underlying43 HEI.out.1 HEI.out.2.1 HEI.out.2.2.1 HEI.out.2.2.2 rfl (by decide) W2.heap.size _ _ _ rfl HOA.out ⟨wa.heap.size+1,0,none⟩ 1 1 [.int .i64 X1.rows,.int .i64 X1.cols,.slice pa pn pk,.int .i64 X2.rows,.int .i64 X2.cols,.slice qa qn qk] rfl rfl (fun q u hq=>by rw[addr_add];exact HNB.out q u hq) (gdS (X1,X2)) HEN.out ?d3 ?d4 HBS.out ?_)
   case d3=>unfold maxLen;omega
   case d4=>omega
   intro v9 w9 hown hgrow hwh
   have HB9:=h_ (show Below W2.heap.size W2 w9 from (a_ (o:=(.cells #[.int .i64 X1.rows,.int .i64 X1.cols,.slice pa pn pk,.int .i64 X2.rows,.int .i64 X2.cols,.slice qa qn qk] 30)) HBA.out).grown hgrow HBS.out (fun k hk=>(HO.out.lt k hk).1))
   rw[flat_snoc,←HPX.out,range_map_snoc]at hown
   have HOW:=h_ hown
   clear hown hgrow hwh
   go_wp2
   go_roundw
   case rel=>exact ⟨i+1,_,_,by omega,by have:=HXI.out;omega,rfl,rfl,HNX.out.symm,HOW.out,HB9.out⟩
   case measure=>have:=HXI.out;simp[intOf];omega
  ·have hin:i=zn:=by have:=HXI.out;omega
   have HM:=h_ (show IsBts wr u9 X by
    rw[HXE.out]
    show Reads _ _ ((List.range zn).map (partX b zn Q)).length _
    rw[List.length_map,List.length_range]
    have h:=HO.out.reads
    rw[hin]at h;exact h)
   clear hin
   go_wp2
   exact bodyPost_ret (v:=.tuple #[u9,.nilIface]) (by simp[results,Tryz.results8,go_sem]) rfl ⟨_,rfl,HM.out,b_ HW2.out HB.out⟩
end Go.Proofs.YtniloklglpchfakGreat
