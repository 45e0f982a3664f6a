/- What Save of package keep comes to. -/
import Derived.Test.YtaajlggpjholeajDoorKpS2
namespace Go.Proofs.YtaajlggpjholeajDoor
open Go.RowKit
def stX (ls:List Ly) (ps:List (Mx×Mx)):List (Ly×(Mx×Mx)):=ls.zip ps
theorem stX_parts{ls:List Ly}{ps:List (Mx×Mx)}{n:Int}(h:stateE ls ps n=0):ls=(stX ls ps).map (·.1)∧ps=(stX ls ps).map (·.2)∧stF (n,stX ls ps)=0:=by
 have hl:ls.length=ps.length:=by
  unfold stateE at h
  by_cases a:12<ls.length
  ·rw[if_pos a]at h;cases h
  ·rw[if_neg a]at h
   by_cases b:ps.length≠ls.length
   ·rw[if_pos b]at h;cases h
   ·exact (Decidable.not_not.1 b).symm
 have h1:ls=(stX ls ps).map (·.1):=by
  unfold stX
  rw[show ((fun x=>x.1):Ly×(Mx×Mx)→Ly)=Prod.fst from rfl,List.map_fst_zip (Nat.le_of_eq hl)]
 have h2:ps=(stX ls ps).map (·.2):=by
  unfold stX
  rw[show ((fun x=>x.2):Ly×(Mx×Mx)→Mx×Mx)=Prod.snd from rfl,List.map_snd_zip (Nat.le_of_eq hl.symm)]
 refine ⟨h1,h2,?_⟩
 unfold stF
 dsimp only
 rw[←h1,←h2]
 exact h
def savX (ls:List Ly) (ps:List (Mx×Mx)) (n:Int):List Int:=if stateE ls ps n=0 then savB n (stX ls ps) else []
set_option maxHeartbeats 4000000 in
set_option maxRecDepth 100000 in
theorem kbounded_any(v:Value)(l:List Int)(w:World)(hv:IsBys w v l)(hl:l.length≤100000):Calls Tryd.prog 15 #[v] w fun e w'=>e=.returned (.tuple #[v,.nilIface])∧w'=w:=by
 obtain ⟨a,k,rfl⟩:=hv.shape
 have c:¬(100000:Int)<(l.length:Int):=by omega
 obtain ⟨n,hn⟩:=gN (l.length)
 rw[hn]at c ⊢
 clear hv hl hn
 go_enter Tryd.func15,Tryd.ntmps15
 go_wp2
 exact bodyPost_ret (v:=.tuple #[.slice a n k,.nilIface]) (by simp[results,Tryd.results15,go_sem]) rfl ⟨rfl,rfl⟩
set_option maxHeartbeats 8000000 in
set_option maxRecDepth 100000 in
theorem ksave_any(v v1:Value)(n:Int)(ls:List Ly)(ps:List (Mx×Mx))(w:World)(hv:Y_ w v ls)(hp:D_ w v1 ps):
  Calls Tryd.prog 6 #[.agg #[v,v1,.int .i64 n]] w fun e w'=>∃s,e=.returned (.tuple #[s,errV (stateE ls ps n)])∧IsBys w' s (savX ls ps n)∧NilOk s∧Below w.heap.size w w':=by
 obtain ⟨a,cap,hv1,_,_⟩:=hv.shape
 obtain ⟨a1,cap1,hp1,_,_⟩:=hp.shape
 obtain ⟨W1,hW1⟩:=gM (w.alloc (.cells #[v,v1,.int .i64 n] 26))
 have HW1:=h_ hW1
 have HB1:=h_ (show Below w.heap.size w W1 by rw[hW1];exact o_ _ _)
 have HX1:=h_ (show WBk W1 w.heap.size #[v,v1,.int .i64 n] 26 by rw[hW1];exact WBk.new _ _ _)
 have HCH:=h_ (trcheck_any v v1 ls ps n W1 (hv.u_ HB1.out) (hp.u_ HB1.out))
 have HV:=h_ hv
 have HP:=h_ hp
 obtain ⟨x0,x1,x2⟩:=HX1.out.c3
 clear hv hp hW1
 obtain ⟨vn,hvn⟩:=gN (ls.length)
 obtain ⟨pn,hpn⟩:=gN (ps.length)
 rw[hvn]at hv1
 rw[hpn]at hp1
 subst hv1 hp1
 clear hvn hpn
 by_cases hE:stateE ls ps n=0
 ·rw[hE,e_ rfl]at HCH
  rw[hE,e_ rfl]
  obtain ⟨h1,h2,h3⟩:=stX_parts hE
  have HSX:=h_ (show savX ls ps n=savB n (stX ls ps) by unfold savX;rw[if_pos hE])
  have HLB:=h_ (show (savB n (stX ls ps)).length≤100000 by rw[savB_len];have:=(stB_len h3).2;omega)
  have HWR:=h_ (fun W (hb:Below w.heap.size w W)=>kwritten_any _ _ n (stX ls ps) ls ps W h1 h2 (HV.out.u_ hb) (HP.out.u_ hb) h3)
  clear hE h1 h2 h3
  go_enter Tryd.func6,Tryd.ntmps6
  go_wp2_with fail
  rw[←HW1.out]
  refine HCH.out.mono ?_
  rintro e w2 ⟨rfl,hb2⟩
  have HX2:=h_ (HX1.out.kept hb2)
  have HB2:=h_ (b_ HB1.out hb2)
  have HC:=h_ (HWR.out w2 HB2.out)
  clear hb2 x0 x1 x2
  obtain ⟨x0,x1,x2⟩:=HX2.out.c3
  go_wp2_with fail
  refine HC.out.mono ?_
  rintro e w3 ⟨s,rfl,ho,hb3⟩
  have HO:=h_ ho
  have HB3:=h_ (b_ HB2.out hb3)
  have HBO:=h_ (kbounded_any s _ w3 ho.isBys HLB.out)
  clear ho hb3 x0 x1 x2
  go_wp2_with (go_at_call 15;refine HBO.out.mono ?_;rintro e w4 ⟨rfl,rfl⟩)
  exact bodyPost_ret (v:=.tuple #[s,.nilIface]) (by simp[results,Tryd.results6,go_sem]) rfl ⟨s,rfl,by rw[HSX.out];exact HO.out.isBys,HO.out.nilOk,HB3.out⟩
 ·have HSX:=h_ (show savX ls ps n=[] by unfold savX;rw[if_neg hE])
  have HEN:=h_ (n_ hE)
  obtain ⟨E,hEE⟩:=gN (stateE ls ps n)
  rw[hEE]at HEN
  have HE:=h_ hEE
  rw[hEE,HEN.out]at HCH
  clear hE hEE
  go_enter Tryd.func6,Tryd.ntmps6
  go_wp2_with (go_at_call 14;rw[←HW1.out];refine HCH.out.mono ?_;rintro e w2 ⟨rfl,hb2⟩;have HB2:=h_ (b_ HB1.out hb2);clear hb2)
  exact bodyPost_ret (v:=.tuple #[.slice none 0 0,.iface 33 (.int .i64 E)]) (by simp[results,Tryd.results6,go_sem]) rfl ⟨_,by rw[HE.out,HEN.out],by rw[HSX.out];exact IsBys.nil _,fun n k e=>by injection e with e1 e2 e3;exact ⟨e2.symm,e3.symm⟩,HB2.out⟩
end Go.Proofs.YtaajlggpjholeajDoor
