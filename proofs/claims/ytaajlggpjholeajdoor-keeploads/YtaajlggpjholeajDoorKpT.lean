/- What head and tail of package keep's reader do. -/
import Derived.Test.YtaajlggpjholeajDoorPkKpQ
namespace Go.Proofs.YtaajlggpjholeajDoor
open Go.RowKit
def hdS (l:List Int):Option (List Int):=if 2≤l.length∧l.take 2=[71,1] then some (l.drop 2) else none
set_option maxHeartbeats 8000000 in
set_option maxRecDepth 100000 in
theorem khead_any(v:Value)(l:List Int)(B:Nat)(w0 w:World)(hv:IsBys w0 v l)(h0:Below w0.heap.size w0 w)(h:WBk w B #[v,.int .i64 0,.nilIface] 63):Calls Tryd.prog 36 #[.pointer (some ⟨B,0,none⟩)] w fun e w'=>e=.returned (.tuple #[])∧KRd w' B v l (hdS l)∧w.grownBy w' (some B):=by
 obtain ⟨W2,hW2⟩:=gM (w.alloc (.cells #[.int .u8 71,.int .u8 1] 5 (2,3)))
 have HW2:=h_ hW2
 have hcv:=Lib.run_convert_bytes_const (P:=Tryd.prog) w 28 5 #[.int .u8 71,.int .u8 1] 2 2 (by kernel_rfl) (by kernel_rfl)
 have HBW:=h_ (show Below w.heap.size w W2 by rw[hW2];exact o_ _ _)
 have HG2:=h_ (show IsBys W2 (.slice (some ⟨w.heap.size,0,none⟩) 2 2) [71,1] from ⟨_,2,rfl,Nat.le_refl _,by unfold maxLen;omega,fun x hx=>by simp at hx;omega,.inr ⟨w.heap.size,0,rfl,fun i x hx=>by
  have hb:W2.heap[w.heap.size]?=some (.cells #[.int .u8 71,.int .u8 1] 5 (2,3)):=by rw[hW2];exact heap_alloc_new w _
  rw[Joins.cell_of_block hb]
  match i,hx with
  |0,hx=>obtain rfl:=Option.some.inj hx;rfl
  |1,hx=>obtain rfl:=Option.some.inj hx;rfl⟩⟩)
 have HHP:=h_ (hasprefix_any v (.slice (some ⟨w.heap.size,0,none⟩) 2 2) l [71,1] W2 (hv.u_ (bel_on h0 HBW.out)) HG2.out)
 obtain ⟨b,hb⟩:=gN (decide (([71,1]:List Int).length≤l.length∧l.take ([71,1]:List Int).length=[71,1]))
 rw[hb]at HHP
 have HHD:=h_ (show hdS l=dmS b (some (l.drop 2)) by
  rw[←hb]
  unfold hdS dmS
  simp)
 have HLB:=h_ (show b=true→2≤l.length by rw[←hb];intro h;have:=of_decide_eq_true h;exact this.1)
 have HK2:=h_ (show KRd W2 B v l (some l) from ⟨0,Nat.zero_le _,rfl,h.kept HBW.out⟩)
 have HDM:=h_ (kdemand_any v l B b (some l) W2 HK2.out)
 have HG:=h_ (show w.grownBy W2 (some B) by rw[hW2];exact World.grownBy_alloc _ _ _)
 obtain ⟨va,vn,vk,hva⟩:∃a n k,v=.slice a n k:=by obtain ⟨a,k,h⟩:=hv.shape;exact ⟨a,_,k,h⟩
 have c0:w.cell? ⟨B,0,none⟩=some (.slice va vn vk):=by rw[←hva];exact h.c rfl
 subst hva
 have HLT:=h_ h.lt
 rw[HHD.out]
 clear hv h0 h hb hW2
 go_enter Tryd.func36,Tryd.ntmps36
 go_wp2_with fail
 rw[←HW2.out]
 refine HHP.out.mono ?_
 rintro e w1 ⟨rfl,hw⟩
 rw[hw]
 clear hw w1 hcv
 go_wp2_with fail
 refine HDM.out.mono ?_
 rintro e w2 ⟨rfl,hk,hg⟩
 have HKK:=h_ hk
 have HGG:=h_ (grw_trans HG.out hg (fun k e=>.inr (Option.some.inj e).symm))
 have HST:=h_ (kstopped_any (.slice va vn vk) l B (dmS b (some l)) w2 hk)
 clear hk hg c0
 cases b with
 |false=>
  go_wp2_with (go_at_call 25;refine HST.out.mono ?_;rintro e w3 ⟨rfl,hw⟩;rw[hw];clear hw w3)
  go_end0
  exact ⟨rfl,HKK.out,HGG.out⟩
 |true=>
  obtain ⟨a,ha,hk,ht⟩:=HKK.out.cells
  have d1:w2.cell? ⟨B,1,none⟩=some (.int .i64 (a:Int)):=hk.c rfl
  have f1:=hk.f 1
  have HF:=h_ (show KRd (w2.setCell ⟨B,1,none⟩ (.int .i64 2)) B (.slice va vn vk) l (some (l.drop 2)) from KRd.of (a:=2) (HLB.out rfl) (hk.set 1 (.int .i64 2)) (fun t e=>by cases e;rfl))
  have HGF:=h_ (grw_trans HGG.out (grw_set w2 B 1 (.int .i64 2)) (fun k e=>.inr (Option.some.inj e).symm))
  clear ha hk ht
  go_wp2_with (go_at_call 25;refine HST.out.mono ?_;rintro e w3 ⟨rfl,hw⟩;rw[hw];clear hw w3)
  go_end0
  exact ⟨rfl,HF.out,HGF.out⟩
theorem bk_bys{w:World}{C:Nat}{s0 s1:Int}{t:TypeId}(h:WBk w C #[.int .u8 s0,.int .u8 s1] t)(h0:0≤s0)(h1:s0<255)(h2:0≤s1)(h3:s1<255):IsBys w (.slice (some ⟨C,0,none⟩) 2 2) [s0,s1]:=
 ⟨_,2,rfl,Nat.le_refl _,by unfold maxLen;omega,fun x hx=>by simp at hx;omega,.inr ⟨C,0,rfl,fun i x hx=>by
  rw[Nat.zero_add]
  match i,hx with
  |0,hx=>obtain rfl:=Option.some.inj hx;exact h.c rfl
  |1,hx=>obtain rfl:=Option.some.inj hx;exact h.c rfl⟩⟩
set_option maxHeartbeats 8000000 in
set_option maxRecDepth 100000 in
theorem ktail_any(v:Value)(l:List Int)(B a:Nat)(st:Option (List Int))(w0 w:World)(hv:IsBys w0 v l)(h0:Below w0.heap.size w0 w)(ha:a≤l.length)(h:WBk w B #[v,.int .i64 (a:Int),stV st] 63)(hst:∀t,st=some t→t=l.drop a):Calls Tryd.prog 40 #[.pointer (some ⟨B,0,none⟩)] w fun e w'=>e=.returned (.tuple #[])∧KRd w' B v l (dmS (decide (l.drop a=sumsG 0 0 (l.take a))) st)∧w.grownBy w' (some B):=by
 obtain ⟨va,vn,vk,rfl⟩:∃a n k,v=.slice a n k:=by obtain ⟨a,k,h⟩:=hv.shape;exact ⟨a,_,k,h⟩
 have hvw:=hv.u_ h0
 have hlen:=hv.len
 unfold maxLen at hlen
 obtain ⟨xa,hxa⟩:=gM ((a:Int))
 rw[←hxa]at h
 obtain ⟨pa,pn,pk,hsh,hpi⟩:=by_h hvw a xa hxa ha
 obtain ⟨ra,rn,rk,hsl,hri⟩:=by_l hvw a xa hxa ha
 have HK:=h_ h
 have HPI:=h_ hpi
 have HRI:=h_ hri
 have HXA:=h_ hxa
 have HA:=h_ (And.intro ha hst)
 have c0:w.cell? ⟨B,0,none⟩=some (.slice va vn vk):=h.c rfl
 have c1:w.cell? ⟨B,1,none⟩=some (.int .i64 xa):=h.c rfl
 have hx0:0≤xa:=by omega
 have HS:=h_ (fun W (hb:Below w.heap.size w W)=>wsums_any (.slice pa pn pk) (l.take a) W (HPI.out.u_ hb))
 have HCE:=h_ (show ∀W',Below w.heap.size w W'→W'.cell? ⟨B,0,none⟩=some (.slice va vn vk)∧W'.cell? ⟨B,1,none⟩=some (.int .i64 xa) from fun W' hb=>⟨HK.out.kept hb|>.c rfl,HK.out.kept hb|>.c rfl⟩)
 have HBE:=h_ (show Below w.heap.size w (w.alloc (.cells #[.int .u8 0,.int .u8 0] 74)).drew from r_ (o_ _ _))
 have HBD:=h_ (show Below w.heap.size w w.drew from r_ (Below.refl _ _))
 have HZE:=h_ (show WBk (w.alloc (.cells #[.int .u8 0,.int .u8 0] 74)).drew w.heap.size #[.int .u8 0,.int .u8 0] 74 from WBk.new w _ _)
 obtain ⟨b,hb⟩:=gN (decide (l.drop a=sumsG 0 0 (l.take a)))
 have HBQ:=h_ hb
 rw[hb]
 clear h hv h0 ha hst hri hpi hvw hlen hxa hb
 go_enter Tryd.func40,Tryd.ntmps40
 go_wp2
 go_cut [2] from 3 to 12 (fun x wx=>∃C s0 s1,x=.pointer (some ⟨C,0,none⟩)∧IsBys wx (.slice (some ⟨C,0,none⟩) 2 2) (sumsG 0 0 (l.take a))∧WBk wx C #[.int .u8 s0,.int .u8 s1] 74∧Below w.heap.size w wx)
 case first=>
  go_region_held3 (fun W'=>W'.cell? ⟨B,0,none⟩=some (.slice va vn vk)∧W'.cell? ⟨B,1,none⟩=some (.int .i64 xa))
   ((refine HCE.out _ ?_;repeat' (first|with_reducible exact Below.refl _ _|with_reducible refine d_ ?_|with_reducible refine a_ ?_|with_reducible exact HWZ.out|with_reducible refine below_sets ?_ (Nat.le_refl _) _ _)))
   ((first
    |(go_at_call 33;refine (HS.out _ HBE.out).mono ?_;rintro e wz ⟨s0,s1,rfl,hss,p0,p1,p2,p3,hbz⟩;have HWZ:=h_ (bel_on HBE.out hbz);have HP:=h_ (And.intro hss (And.intro p0 (And.intro p1 (And.intro p2 p3))));have HZZ:=h_ (HZE.out.kept hbz);have i0:=HZZ.out.c (i:=0) (x:=.int .u8 0) rfl;have i1:=HZZ.out.c (i:=1) (x:=.int .u8 0) rfl;have j0:=HZZ.out.f 0;have j1:=HZZ.out.f 1;clear hbz hss p0 p1 p2 p3)
    |(go_at_call 33;refine (HS.out _ HBD.out).mono ?_;rintro e wz ⟨s0,s1,rfl,hss,p0,p1,p2,p3,hbz⟩;have HWZ:=h_ (bel_on HBD.out hbz);have HP:=h_ (And.intro hss (And.intro p0 (And.intro p1 (And.intro p2 p3))));clear hbz hss p0 p1 p2 p3)))
  ·have HF:=h_ (WBk.new wz #[.int .u8 s0,.int .u8 s1] 74)
   have HW2:=h_ (show Below w.heap.size w (wz.alloc (.cells #[.int .u8 s0,.int .u8 s1] 74)) from a_ HWZ.out)
   go_wp2
   go_meet
   exact ⟨_,s0,s1,rfl,by rw[HP.out.1];exact bk_bys HF.out HP.out.2.1 HP.out.2.2.1 HP.out.2.2.2.1 HP.out.2.2.2.2,HF.out,HW2.out⟩
  ·have HF:=h_ (show WBk ((wz.setCell ⟨w.heap.size,0,none⟩ (.int .u8 s0)).setCell ⟨w.heap.size,1,none⟩ (.int .u8 s1)) w.heap.size #[.int .u8 s0,.int .u8 s1] 74 from (HZZ.out.set 0 _).set 1 _)
   have HW2:=h_ (below_sets (below_sets HWZ.out (Nat.le_refl _) 0 (.int .u8 s0)) (Nat.le_refl _) 1 (.int .u8 s1))
   go_wp2
   go_meet
   exact ⟨_,s0,s1,rfl,by rw[HP.out.1];exact bk_bys HF.out HP.out.2.1 HP.out.2.2.1 HP.out.2.2.2.1 HP.out.2.2.2.2,HF.out,HW2.out⟩
 case rest=>
  obtain ⟨C,s0,s1,rfl,hby,hbk,hbc⟩:=hcut
  have HB:=h_ hbc
  have HKC:=h_ (HK.out.kept hbc)
  have d0:wc.cell? ⟨B,0,none⟩=some (.slice va vn vk):=HKC.out.c rfl
  have d1:wc.cell? ⟨B,1,none⟩=some (.int .i64 xa):=HKC.out.c rfl
  have HEQ:=h_ (bequal_any (.slice ra rn rk) (.slice (some ⟨C,0,none⟩) 2 2) (l.drop a) (sumsG 0 0 (l.take a)) wc.drew (HRI.out.u_ (r_ hbc)) hby)
  have HKD:=h_ (show KRd wc.drew B (.slice va vn vk) l st from KRd.of HA.out.1 (by rw[←HXA.out];exact HKC.out) HA.out.2)
  rw[HBQ.out]at HEQ
  have HDM:=h_ (kdemand_any (.slice va vn vk) l B b st wc.drew HKD.out)
  have HG:=h_ (show w.grownBy wc.drew (some B) from ⟨HB.out.os,HB.out.tape,HB.out.output,HB.out.size,fun k hk _=>HB.out.block k hk⟩)
  clear hby hbk hbc
  go_wp2
  refine region_tail 12 (by kernel_rfl) (by kernel_rfl) ?_
  simp only[List.take_succ_cons,List.take_zero,List.drop_succ_cons,List.drop_zero]
  iterate 11 still_step
  still_call HEQ.out
  refine wpStill_nil ?_
  go_wp2_with (go_at_call 38;refine HDM.out.mono ?_;rintro e w3 ⟨rfl,hk,hg⟩;have HR:=h_ (And.intro hk (grw_trans HG.out hg (fun k e=>.inr (Option.some.inj e).symm)));clear hk hg)
  go_end0
  exact ⟨rfl,HR.out.1,HR.out.2⟩
end Go.Proofs.YtaajlggpjholeajDoor
