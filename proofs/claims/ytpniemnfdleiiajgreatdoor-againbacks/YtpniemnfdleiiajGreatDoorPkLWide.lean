/- What Check and Wide of package layer come to, for every layer. -/
import Derived.Test.YtpniemnfdleiiajGreatDoorLAt
import Derived.Test.YtpniemnfdleiiajGreatDoorPkLBox
import Derived.Test.YtpniemnfdleiiajGreatDoorPkReg
import Derived.Test.YtpniemnfdleiiajGreatDoorPkLGoL
import Derived.RangeFuncNested
import Derived.RangeFuncCalls
import Derived.OrdersIn
import Derived.Deep.RegionHeld3
import Derived.Test.YtpniemnfdleiiajGreatDoorRows
import Derived.Test.YtpniemnfdleiiajGreatDoorPkNetBk
import Derived.Test.YtpniemnfdleiiajGreatDoorAgC3
namespace Go.Proofs.YtpniemnfdleiiajGreatDoor
open Go.RowKit
def rawCells (z:Value) (k:Nat):Array Value:=madeCells z.cells k
end Go.Proofs.YtpniemnfdleiiajGreatDoor
/- What Back of package net comes to: what goes back through a net, and its Grads, or what is wrong. -/
namespace Go.Proofs.YtpniemnfdleiiajGreatDoor
open Go.RowKit Go.Shelf
attribute [local go_sem] Oper.semAt_some
attribute [local go_sem] Oper.semAt_some
theorem raw_list(N:Nat):(rawCells (.agg #[.int .i64 0,.int .i64 0,.slice none 0 0,.int .i64 0,.int .i64 0,.slice none 0 0]) (N*6)).toList=(List.replicate N [Value.int .i64 0,.int .i64 0,.slice none 0 0,.int .i64 0,.int .i64 0,.slice none 0 0]).flatten:=by
 unfold rawCells madeCells
 simp only[Array.toList_map,Array.toList_range]
 induction N with
 |zero=>rfl
 |succ N ih=>
  rw[List.replicate_succ',List.flatten_append,←ih,Nat.succ_mul,show N*6+6=N*6+1+1+1+1+1+1 by omega]
  simp only[List.range_succ,List.map_append,List.append_assoc]
  congr 1
  have e:∀q,q<6→(N*6+q) % 6=q:=fun q hq=>by omega
  simp[Value.cells,e 1 (by omega),e 2 (by omega),e 3 (by omega),e 4 (by omega),e 5 (by omega)]
theorem run_mkG(N:Nat)(hN:N≤12)(W:World):(Instr.makeSlice 26 (.int .i64 (N:Int)) (.int .i64 (N:Int))).run Tryz.prog W=.ok (.slice (some ⟨W.heap.size,0,none⟩) N N) (W.alloc (.cells (rawCells (.agg #[.int .i64 0,.int .i64 0,.slice none 0 0,.int .i64 0,.int .i64 0,.slice none 0 0]) (N*6)) 65)):=by
 obtain ⟨i0,hi0,hz0,hz1,hz2⟩:=info_parts infoGd
 have hr:=run_make (P:=Tryz.prog) W 26 65 i0 _ Tryz.underlying26 hi0 hz0 .i64 .i64 (N:Int) (N:Int) (by omega) (by omega) (by rw[hz2];omega) (by omega)
 simpa [hz1,rawCells] using hr
end Go.Proofs.YtpniemnfdleiiajGreatDoor
/- What back of package again comes to: group by group. -/
namespace Go.Proofs.YtpniemnfdleiiajGreatDoor
open Go.RowKit
theorem keyK_len{e N f t:Nat}(hf:f % e=0)(h1:f<t)(h2:t≤f+e):(keyK e N f t).length=(hdK e t).length+1+(t - f - 1):=by
 unfold keyK
 rw[hdK_group hf h1 h2]
 simp only[List.length_append,btw_len,List.length_singleton]
 omega
theorem gds_of{A:Nat→Prop}{W:World}{D N:Nat}{gs:List (Mx×Mx)}{cs:List Value}(h1:Blk W D cs.toArray 65)(h2:Enc W A (gs.flatMap gdS) cs)(h3:gs.length=N)(h4:N≤12):D_ W (.slice (some ⟨D,0,none⟩) N N) gs:=by
 show Reads _ _ gs.length _
 rw[h3]
 refine ⟨_,_,rfl,Nat.le_refl _,by unfold maxLen;omega,.inr ⟨_,0,rfl,fun j p hp=>?_⟩⟩
 obtain ⟨u,hu,hp'⟩:=h2.2 j p hp
 exact ⟨u,h1.cell (j:=0+j) (by simpa using hu),hp'.mono (fun _ _ hf=>hf.elim)⟩
theorem grp{e t:Nat}(he:1≤e)(ht:0<t):((t - 1) / e*e) % e=0∧(t - 1) / e*e<t∧t≤(t - 1) / e*e+e:=by
 have h1:=Nat.div_add_mod (t - 1) e
 have h2:=Nat.mod_lt (t - 1) (show 0<e by omega)
 rw[Nat.mul_comm]at h1
 exact ⟨Nat.mul_mod_left _ _,by omega,by omega⟩
set_option maxHeartbeats 16000000 in
set_option maxRecDepth 100000 in
theorem agback_any(A:Nat→Prop)(S M e N q:Nat)(ls:List Ly)(ms:List Mx)(g0:Mx)(v vg:Value)(w:World)(hv:Hold A w (fun W=>Y_ W v ls))(hs:Shelf A w S M ms (hdK e N++[N]) q)(hr:RunOK ls ms)(hN:ls.length=N)(he:1≤e)(he2:e≤12)(hq:(hdK e N++[N]).length≤q)(hA:∀b,A b→b<w.heap.size)(hg:MxA A w vg g0):
  Calls Tryz.prog 16 #[.pointer (some ⟨S,0,none⟩),v,vg,.int .i64 (e:Int)] w fun x w'=>Kept (fun b=>b=S∨b=M) w w'∧
   ((∃vd,bkE ls.reverse (ms.take N).reverse g0=0∧x=.returned (.tuple #[vd,.nilIface])∧D_ w' vd (bkD ls.reverse (ms.take N).reverse g0)∧Blk w' S #[.map (some M),.int .i64 (backQ e N 13 N q:Int)] 54)∨
    (∃E:Int,E≠0∧bkE ls.reverse (ms.take N).reverse g0=E∧x=.returned (.tuple #[.slice none 0 0,.iface 31 (.int .i64 E)]))):=by
 obtain ⟨sT,rfl,hsT⟩:=hg
 obtain ⟨ua,un,uk,rfl⟩:=hsT.1.shape
 obtain ⟨xe,hxe⟩:∃x:Int,(e:Int)=x:=⟨_,rfl⟩
 have h13:=hs.lm
 have hml:=hr.1
 have h12:N≤12:=by omega
 obtain ⟨V,hV⟩:=gM (((w.alloc (.cells #[.int .i64 g0.rows,.int .i64 g0.cols,.slice ua un uk] 25)).alloc (.cells (rawCells (.agg #[.int .i64 0,.int .i64 0,.slice none 0 0,.int .i64 0,.int .i64 0,.slice none 0 0]) (N*6)) 65)))
 have HV:=h_ hV
 have HWV:Hid (Below w.heap.size w V):=by rw[hV];exact h_ (a_ (o_ _ _))
 obtain ⟨A',hA'⟩:∃A':Nat→Prop,A'=fun b=>A b∨b=w.heap.size∨b=w.heap.size+1:=⟨_,rfl⟩
 have hAA:∀b,b<w.heap.size→A' b→A b:=fun b hb h=>by rw[hA']at h;rcases h with h|h|h;exact h;omega;omega
 have hAi:∀b,A b→A' b:=fun b h=>by rw[hA'];exact .inl h
 have HAA:=h_ (And.intro hAA hAi)
 have HAB:=h_ (show A' w.heap.size from by rw[hA'];exact .inr (.inl rfl))
 have HAD:=h_ (show A' (w.heap.size+1) from by rw[hA'];exact .inr (.inr rfl))
 have HVL:=h_ ((hv.mono hAA).u_ HWV.out)
 have HLt:=h_ (show ∀b,A' b→b<V.heap.size from fun b hb=>by
  rw[hV,World.size_alloc,World.size_alloc]
  rw[hA']at hb
  rcases hb with hb|hb|hb
  ·have:=hA b hb;omega
  ·omega
  ·omega)
 have HSH:=h_ ((hs.more hAA (hAi _ hs.aS) (hAi _ hs.aM)).u_ HWV.out)
 have HBB:Hid (Blk V w.heap.size #[.int .i64 g0.rows,.int .i64 g0.cols,.slice ua un uk] 25):=by rw[hV];exact h_ ((Blk.new w _ _ rfl).alloc _)
 have HBD:Hid (Blk V (w.heap.size+1) (List.replicate N [Value.int .i64 0,.int .i64 0,.slice none 0 0,.int .i64 0,.int .i64 0,.slice none 0 0]).flatten.toArray 65):=by rw[hV,←raw_list,Array.toArray_toList];exact h_ (Blk.new _ _ _ (by simp))
 have HPT:=h_ ((hsT.mono hAA).u_ HWV.out)
 have HSM:=h_ (And.intro (hA _ hs.aS) (hA _ hs.aM))
 have hmk:=run_mkG N h12
 obtain ⟨va,vk,rfl,hlc,hcm⟩:=hv.now.shape
 rw[hN]at hlc HVL ⊢
 rw[hxe]
 obtain ⟨Q,hQ⟩:=gN (backQ e N 13 N q)
 have HQ:=h_ hQ
 rw[hQ]
 have HR:=h_ hr
 have HN:=h_ hN
 have HX:=h_ hxe
 have HLQ:=h_ hq
 have HEE:=h_ (And.intro he he2)
 have H12:=h_ h12
 obtain ⟨ur,hur⟩:=gN (g0.rows)
 obtain ⟨uc,huc⟩:=gN (g0.cols)
 have HUR:=h_ (And.intro hur huc)
 rw[hur,huc]at HV HBB ⊢
 have b0:1≤xe:=by omega
 have b1:xe≤12:=by omega
 clear hv hs hr hN hq hA hxe he he2 hlc hcm h13 hml hV hAA hAi hA' hsT hur huc h12 hQ
 go_enter Tryz.func16,Tryz.ntmps16
 go_wp2
 rw[←HV.out]
 clear hmk
 go_loopw [11,12,13,14] (fun tv _ _ _ wr=>∃(t:Nat) (xt:Int) (T:Mx) (ua:Option Addr) (un uk:Nat) (gs:List (Mx×Mx)) (cs:List Value) (qq fu:Nat),xt=(t:Int)∧tv=.int .i64 xt∧t≤N∧Shelf A' wr S M ms (hdK e t++[N]) qq∧(hdK e t++[N]).length≤qq∧t≤fu∧backQ e N fu t qq=Q∧Blk wr w.heap.size #[.int .i64 T.rows,.int .i64 T.cols,.slice ua un uk] 25∧P_ wr A' (.inr T.cells) (.slice ua un uk)∧Rel ls ms g0 N (N - t) T gs∧Blk wr (w.heap.size+1) cs.toArray 65∧Enc wr A' (gs.flatMap gdS) cs∧gs.length=N∧Kept (fun b=>b=S∨b=M∨b=w.heap.size∨b=w.heap.size+1) V wr∧Hold A' wr (fun W=>Y_ W (.slice va N vk) ls)) (fun tv _ _ _ _=>(intOf tv).toNat)
 case atStart=>exact ⟨N,(N:Int),g0,ua,un,uk,_,_,q,13,rfl,rfl,Nat.le_refl _,HSH.out,HLQ.out,by have:=H12.out;omega,HQ.out,by rw[HUR.out.1,HUR.out.2];exact HBB.out,HPT.out,by rw[Nat.sub_self];exact rel_start HN.out (by simp),HBD.out,enc_none _ _ _,by simp,Kept.refl _ _,HVL.out⟩
 case round=>
  obtain ⟨t,xt,T,ua,un,uk,gs,cs,qq,fu,hxt,rfl,htN,hsh,hlq,hfu,hbq,hbb,hpt,hrl,hbd,hen,hgl,hk,hvl⟩:=hrel
  have HXT:=h_ hxt
  have hxt0:0≤xt:=by omega
  have hxt1:xt≤12:=by have:=H12.out;omega
  by_cases hlt:0<xt
  ·obtain ⟨f,hf⟩:=gN ((t - 1) / e*e)
   obtain ⟨g1,g2,g3⟩:=grp (e:=e) (t:=t) HEE.out.1 (by omega)
   rw[hf]at g1 g2 g3
   obtain ⟨fv,rfl⟩:∃x,fu=x+1:=⟨fu - 1,by omega⟩
   have hkl:=keyK_len (N:=N) g1 g2 g3
   have hgp:=hdK_group g1 g2 g3
   have hbq':backQ e N fv f (max qq (keyK e N f t).length)=Q:=by
    rw[←hbq]
    show _=(if t=0 then qq else _)
    rw[if_neg (by omega),hf,hkl]
   have hK:hdK e t++[N]=keyK e N f (f+1):=by rw[keyK_one,hgp]
   have hlt':∀b,A' b→b<wr.heap.size:=fun b hb=>Nat.lt_of_lt_of_le (HLt.out b hb) hk.size
   have hB:=bgroup_any A' S M (w.heap.size+1) e f t N qq ls ms g0 T gs cs (.slice va N vk) (.agg #[.int .i64 T.rows,.int .i64 T.cols,.slice ua un uk]) wr hvl (by rw[←hK];exact hsh) HR.out HN.out g2 htN (by rw[←hK];exact hlq) hlt' HAD.out hbd hen hgl ⟨_,rfl,hpt⟩ hrl
   obtain ⟨xf,hxf⟩:∃x:Int,(f:Int)=x:=⟨_,rfl⟩
   have hdv:wrap64 ((xt - 1) / xe*xe)=xf:=by
    have e1:((xt - 1) / xe*xe)=((f:Nat):Int):=by
     rw[←hf,←HX.out,hxt]
     push_cast
     rw[show ((t:Int) - 1)=((t - 1:Nat):Int) by omega]
    rw[e1,←hxf]
    unfold wrap64;omega
   rw[hxf,←hxt]at hB
   have HB:=h_ hB
   have u0:wr.cell? ⟨w.heap.size,0,none⟩=some (.int .i64 T.rows):=hbb.cell (j:=0) rfl
   have u1:wr.cell? ⟨w.heap.size,1,none⟩=some (.int .i64 T.cols):=hbb.cell (j:=1) rfl
   have u2:wr.cell? ⟨w.heap.size,2,none⟩=some (.slice ua un uk):=hbb.cell (j:=2) rfl
   have HBW:=h_ hbb
   have HKP:=h_ hk
   have HVR:=h_ hvl
   have HGF:=h_ (And.intro g2 (And.intro hxf (And.intro hbq' (show (hdK e f++[N]).length≤max qq (keyK e N f t).length by rw[hgp]at hlq;simp at hlq ⊢;omega))))
   have HTN:=h_ (And.intro htN hfu)
   have hxf1:xf≤12:=by omega
   have hxf0:0≤xf:=by omega
   clear hxt htN hsh hlq hfu hbq hbb hpt hrl hbd hen hgl hk hvl g1 g2 g3 hf hkl hgp hbq' hK hlt' hB hxf
   go_wp2_with fail
   refine HB.out.mono ?_
   clear HB
   rintro x w2 ⟨hk2,h⟩
   have HK2:=h_ (HKP.out.trans hk2 (fun b _ e=>by rcases e with e|e|e;exact .inl e;exact .inr (.inl e);exact .inr (.inr (.inr e))))
   rcases h with ⟨T',D',cs',vT',rfl,hrl',⟨sT',rfl,hsT'⟩,hs',hbd',hen',hgl'⟩|⟨E,hE,hbE,rfl⟩
   ·obtain ⟨ja,jn,jk,rfl⟩:=hsT'.1.shape
    have hne:∀b,(b=S∨b=M∨b=w.heap.size+1)→A' b:=fun b e=>by rcases e with e|e|e;rw[e];exact hs'.aS;rw[e];exact hs'.aM;rw[e];exact HAD.out
    have hnB:¬(w.heap.size=S∨w.heap.size=M∨w.heap.size=w.heap.size+1):=by have:=HSM.out;omega
    have HBW2:=h_ (HBW.out.keep hk2 hnB)
    have HV2:=h_ (hold_on HVR.out hk2 hne)
    have HS2:=h_ hs'
    have HT2:=h_ hsT'
    have HD2:=h_ (And.intro hbd' (And.intro hen' (And.intro hgl' hrl')))
    clear hk2 hs' hsT' hbd' hen' hgl' hrl' hne u0 u1 u2
    obtain ⟨Tr,hTr⟩:=gN (T'.rows)
    obtain ⟨Tc,hTc⟩:=gN (T'.cols)
    rw[hTr,hTc]
    have HTR:=h_ (And.intro hTr hTc)
    obtain ⟨W2,hW2⟩:=gM (w2.alloc (.cells #[.int .i64 Tr,.int .i64 Tc,.slice ja jn jk] 25))
    have hb2:Below w2.heap.size w2 W2:=by rw[hW2];exact o_ _ _
    have HB2:=h_ hb2
    have u0:W2.cell? ⟨w.heap.size,0,none⟩=some (.int .i64 T.rows):=(HBW2.out.u_ hb2).cell (j:=0) rfl
    have u1:W2.cell? ⟨w.heap.size,1,none⟩=some (.int .i64 T.cols):=(HBW2.out.u_ hb2).cell (j:=1) rfl
    have u2:W2.cell? ⟨w.heap.size,2,none⟩=some (.slice ua un uk):=(HBW2.out.u_ hb2).cell (j:=2) rfl
    have v0:=(HBW2.out.u_ hb2).frozen 0
    have v1:=(HBW2.out.u_ hb2).frozen 1
    have v2:=(HBW2.out.u_ hb2).frozen 2
    have x0:W2.cell? ⟨w2.heap.size,0,none⟩=some (.int .i64 Tr):=by rw[hW2];exact (Box.new w2 [.int .i64 Tr,.int .i64 Tc,.slice ja jn jk] 25 rfl) 0 _ rfl
    have x1:W2.cell? ⟨w2.heap.size,1,none⟩=some (.int .i64 Tc):=by rw[hW2];exact (Box.new w2 [.int .i64 Tr,.int .i64 Tc,.slice ja jn jk] 25 rfl) 1 _ rfl
    have x2:W2.cell? ⟨w2.heap.size,2,none⟩=some (.slice ja jn jk):=by rw[hW2];exact (Box.new w2 [.int .i64 Tr,.int .i64 Tc,.slice ja jn jk] 25 rfl) 2 _ rfl
    have HW2:=h_ hW2
    have hAB:=HAB.out
    have hp3:=kept_put3 (X:=fun b=>b=w.heap.size) W2 rfl (.int .i64 Tr) (.int .i64 Tc) (.slice ja jn jk)
    have hx3:∀b,b=w.heap.size→A' b:=fun b e=>by rw[e];exact hAB
    obtain ⟨W3,hW3⟩:=gM (put3 W2 w.heap.size (.int .i64 Tr) (.int .i64 Tc) (.slice ja jn jk))
    rw[←hW3]at hp3
    have HS3:=h_ ((HS2.out.u_ hb2).kept hp3 hx3 (fun e=>by have:=HSM.out;omega) (fun e=>by have:=HSM.out;omega))
    have HB3:=h_ (show Blk W3 w.heap.size #[.int .i64 T'.rows,.int .i64 T'.cols,.slice ja jn jk] 25 by rw[hW3,hTr,hTc];exact ((((HBW2.out.u_ hb2).set 0 (.int .i64 Tr)).set 1 (.int .i64 Tc)).set 2 (.slice ja jn jk)))
    have HT3:=h_ ((HT2.out.u_ hb2).kept hp3 hx3)
    have HD3:=h_ (And.intro ((HD2.out.1.u_ hb2).keep hp3 (fun e=>by omega)) (Enc.kept (HD2.out.2.1.map (fun _ _ hp=>hp.u_ hb2)) hp3 hx3))
    have HK3:=h_ ((HK2.out.trans (Kept.of (X:=fun _=>False) hb2) (fun _ _ e=>e.elim)).trans hp3 (fun b _ e=>.inr (.inr (.inl e))))
    have HV3:=h_ (hold_on (hold_on HV2.out (Kept.of (X:=fun _=>False) hb2) (fun _ e=>e.elim)) hp3 hx3)
    unfold put3 at hW3
    rw[hW2]at hW3 u0 u1 u2 v0 v1 v2 x0 x1 x2
    have HW3:=h_ hW3
    clear hTr hTc hW2 hb2 hW3 hAB hp3 hx3 HW2 hnB
    go_wp2
    rw[←HW3.out]
    refine ⟨⟨f,xf,T',ja,jn,jk,D',cs',_,fv,HGF.out.2.1.symm,rfl,by have:=HGF.out.1;have:=HTN.out.1;omega,HS3.out,HGF.out.2.2.2,by have:=HGF.out.1;have:=HTN.out.2;omega,HGF.out.2.2.1,HB3.out,HT3.out,HD2.out.2.2.2,HD3.out.1,HD3.out.2,HD2.out.2.2.1,HK3.out,HV3.out⟩,?_⟩
    have:=HGF.out.1
    have:=HGF.out.2.1
    have:=HXT.out
    simp[intOf];omega
   ·have HE:=h_ (And.intro hE hbE)
    clear hE hbE hk2 u0 u1 u2
    go_wp2
    refine bodyPost_ret (v:=.tuple #[.slice none 0 0,.iface 31 (.int .i64 E)]) (by simp[results,Tryz.results16,go_sem]) rfl ⟨?_,.inr ⟨E,HE.out.1,HE.out.2,rfl⟩⟩
    exact (((Kept.of (X:=fun b=>b=S∨b=M∨b=w.heap.size∨b=w.heap.size+1) HWV.out).trans HK2.out (fun _ _ e=>e)).trans (Kept.of (X:=fun _=>False) (o_ _ _)) (fun _ _ e=>e.elim)).mono (fun b hb e=>by omega)
  ·obtain rfl:t=0:=by omega
   rw[Nat.sub_zero]at hrl
   obtain ⟨e1,_,e3⟩:=rel_end hrl
   have hqq:qq=Q:=by
    rw[←hbq]
    cases fu with
    |zero=>rfl
    |succ fu=>rfl
   have hst:=hsh.st
   rw[hqq]at hst
   have HE:=h_ (And.intro e1 (And.intro (show D_ wr (.slice (some ⟨w.heap.size+1,0,none⟩) N N) (bkD ls.reverse (ms.take N).reverse g0) by rw[e3];exact gds_of hbd hen hgl H12.out) (And.intro hst (((Kept.of (X:=fun b=>b=S∨b=M∨b=w.heap.size∨b=w.heap.size+1) HWV.out).trans hk (fun _ _ e=>e)).mono (Y:=fun b=>b=S∨b=M) (fun b hb e=>by omega)))))
   clear hxt htN hsh hlq hfu hbq hbb hpt hrl hbd hen hgl hk hvl e1 e3 hqq hst
   go_wp2
   exact bodyPost_ret (v:=.tuple #[.slice (some ⟨w.heap.size+1,0,none⟩) N N,.nilIface]) (by simp[results,Tryz.results16,go_sem]) rfl ⟨HE.out.2.2.2,.inl ⟨HE.out.1,_,rfl,HE.out.2.1,HE.out.2.2.1⟩⟩
end Go.Proofs.YtpniemnfdleiiajGreatDoor
