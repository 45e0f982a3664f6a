/- The walk of the law KeepSaves: Save of package keep answers what the document's answer does. Condition: the library's variable errors.errorType is as its text lays it. -/
import Derived.Test.YtaajlggpjholeajDoorKpR2
import Derived.Test.YtaajlggpjholeajDoorPkSameL
import Derived.Test.YtaajlggpjholeajDoorRState
import Derived.Test.YtaajlggpjholeajDoorErr
namespace Go.Proofs.YtaajlggpjholeajDoor
open Go.RowKit
theorem sameB_refl(l:List Int):sameB l l=true:=by unfold sameB;simp
set_option maxHeartbeats 16000000 in
set_option maxRecDepth 100000 in
theorem ksaves_walk(v v1:Value)(ls:List Ly)(ps:List (Mx×Mx))(n:Int)(w:World)(hv:Y_ w v ls)(hp:D_ w v1 ps)(hH:Handle w):Calls Tryd.prog 3 #[.agg #[v,v1,.int .i64 n]] w fun e w'=>e=.returned (.bool true)∧Below w.heap.size w w':=by
 obtain ⟨a,cap,hv1,_,_⟩:=hv.shape
 obtain ⟨a1,cap1,hp1,_,_⟩:=hp.shape
 obtain ⟨E,hE⟩:=gN (stateE ls ps n)
 have HE:=h_ hE
 obtain ⟨N,hN⟩:=gN (ls.length)
 obtain ⟨N1,hN1⟩:=gN (ps.length)
 rw[hN]at hv1
 rw[hN1]at hp1
 subst hv1 hp1
 have HV:=h_ hv
 have HP:=h_ hp
 have HH:=h_ hH
 obtain ⟨W0,hW0⟩:=gM (w.alloc (.cells #[.slice a N cap,.slice a1 N1 cap1,.int .i64 n] 25))
 have HW0:=h_ hW0
 have C0:=h_ (show Below w.heap.size w W0 by rw[hW0];exact o_ _ _)
 have HX0:=h_ (show WBk W0 w.heap.size #[.slice a N cap,.slice a1 N1 cap1,.int .i64 n] 25 by rw[hW0];exact WBk.new _ _ _)
 have HC:=h_ (l3state_any a N cap a1 N1 cap1 n W0)
 obtain ⟨x0,x1,x2⟩:=HX0.out.c3
 clear hv hp hH hE hN hN1 hW0
 go_enter Tryd.func3,Tryd.ntmps3
 go_wp2_with fail
 rw[←HW0.out]
 refine HC.out.mono ?_
 rintro e w1 ⟨rfl,hb⟩
 obtain ⟨W2,hW2⟩:=gM (w1.alloc (.cells #[.slice a N cap,.slice a1 N1 cap1,.int .i64 n] 26))
 have HW2:=h_ hW2
 have C2:=h_ (show Below w.heap.size w W2 by rw[hW2];exact bel_on (bel_on C0.out hb) (o_ _ _))
 have HX2:=h_ (show WBk W2 w.heap.size #[.slice a N cap,.slice a1 N1 cap1,.int .i64 n] 25 by rw[hW2];exact (HX0.out.kept hb).kept (o_ _ _))
 have HY2:=h_ (show WBk W2 w1.heap.size #[.slice a N cap,.slice a1 N1 cap1,.int .i64 n] 26 by rw[hW2];exact WBk.new _ _ _)
 have HC2:=h_ (ksave_any (.slice a N cap) (.slice a1 N1 cap1) n ls ps W2 (HV.out.u_ C2.out) (HP.out.u_ C2.out))
 rw[HE.out]at HC2
 obtain ⟨EV,hEV⟩:=gN (errV E)
 have HEV:=h_ hEV
 rw[hEV]at HC2
 clear hb hW2 hEV x0 x1 x2
 obtain ⟨y0,y1,y2⟩:=HY2.out.c3
 go_wp2_with fail
 rw[←HW2.out]
 refine HC2.out.mono ?_
 rintro e w3 ⟨s,rfl,hi,hn,hb⟩
 have HI:=h_ hi
 have HNL:=h_ hn
 have C3:=h_ (bel_on C2.out hb)
 have HX3:=h_ (HX2.out.kept hb)
 have HC3:=h_ (rstatefault_any (.slice a N cap) (.slice a1 N1 cap1) ls ps n w3 (HV.out.u_ C3.out) (HP.out.u_ C3.out))
 rw[HE.out]at HC3
 obtain ⟨sa,sk,hse⟩:=hi.shape
 obtain ⟨sn,hsn⟩:=gN ((savX ls ps n).length)
 rw[hsn]at hse
 subst hse
 clear hb hi hn hsn y0 y1 y2
 obtain ⟨x0,x1,x2⟩:=HX3.out.c3
 go_wp2_with fail
 refine HC3.out.mono ?_
 rintro e w4 ⟨rfl,hb⟩
 have C4:=h_ (bel_on C3.out hb)
 have HX4:=h_ (HX3.out.kept hb)
 replace HI:=h_ (HI.out.u_ hb)
 clear hb x0 x1 x2
 by_cases c:E=0
 ·subst c
  obtain ⟨h1,h2,h3⟩:=stX_parts HE.out
  have HSX:=h_ (show savX ls ps n=savB n (stX ls ps) by unfold savX;rw[if_pos HE.out])
  have HLB:=h_ (show (savB n (stX ls ps)).length≤100000 by rw[savB_len];have:=(stB_len h3).2;omega)
  have HC4:=h_ (rsaveof_any (.slice a N cap) (.slice a1 N1 cap1) n (stX ls ps) ls ps w4 h1 h2 (HV.out.u_ C4.out) (HP.out.u_ C4.out) h3)
  obtain ⟨x0,x1,x2⟩:=HX4.out.c3
  clear h1 h2 h3
  go_wp2_with fail
  refine HC4.out.mono ?_
  rintro e w5 ⟨t,rfl,ho,hb⟩
  have HO:=h_ ho.isBys
  have C5:=h_ (bel_on C4.out hb)
  replace HI:=h_ (HI.out.u_ hb)
  have HX:=h_ (error_same (k:=0) (n:=0) rfl w5 (HH.out.u_ C5.out))
  rw[HEV.out]at HX
  obtain ⟨ta,tk,hte⟩:=ho.isBys.shape
  obtain ⟨tn,htn⟩:=gN ((savB n (stX ls ps)).length)
  rw[htn]at hte
  subst hte
  have hbig:¬(100000:Int)<(tn:Int):=by have:=HLB.out;omega
  clear ho hb htn x0 x1 x2
  go_wp2_with fail
  refine HX.out.mono ?_
  rintro e w6 ⟨rfl,hb⟩
  have C6:=h_ (bel_on C5.out hb)
  have HQ:=h_ (octets_any _ _ _ _ w6 (HI.out.u_ hb) (HO.out.u_ hb))
  rw[HSX.out,sameB_refl]at HQ
  clear hb hbig
  go_wp2_with fail
  refine HQ.out.mono ?_
  rintro e w7 ⟨rfl,hb⟩
  have C7:=h_ (bel_on C6.out hb)
  clear hb
  go_wp2
  go_ret
  exact ⟨rfl,C7.out⟩
 ·have HSX:=h_ (show savX ls ps n=[] by unfold savX;rw[if_neg (by rw[HE.out];exact c)])
  have HX:=h_ (error_same (k:=E) (n:=E) rfl w4 (HH.out.u_ C4.out))
  rw[HEV.out]at HX
  have nE:(E==0)=false:=by simpa using c
  clear c
  go_wp2_with fail
  refine HX.out.mono ?_
  rintro e w6 ⟨rfl,hb⟩
  have C6:=h_ (bel_on C4.out hb)
  have HQ:=h_ (octets_any _ (.slice none 0 0) _ [] w6 (HI.out.u_ hb) (IsBys.nil _))
  rw[HSX.out,sameB_refl]at HQ
  clear hb
  go_wp2_with fail
  refine HQ.out.mono ?_
  rintro e w7 ⟨rfl,hb⟩
  have C7:=h_ (bel_on C6.out hb)
  clear hb
  go_wp2
  go_ret
  exact ⟨rfl,C7.out⟩
end Go.Proofs.YtaajlggpjholeajDoor
