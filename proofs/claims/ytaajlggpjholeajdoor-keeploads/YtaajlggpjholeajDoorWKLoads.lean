/- The walk of the law KeepLoads: Load of package keep answers what the document's answer does. Condition: the library's variable errors.errorType is as its text lays it. -/
import Derived.Test.YtaajlggpjholeajDoorKpZ
import Derived.Test.YtaajlggpjholeajDoorKpR4
import Derived.Test.YtaajlggpjholeajDoorPkBlk
import Derived.Test.YtaajlggpjholeajDoorPkTold
namespace Go.Proofs.YtaajlggpjholeajDoor
open Go.RowKit
theorem nil_lys(w:World):Y_ w (.slice none 0 0) []:=(LstX.nil 0 w).lys rfl
theorem nil_gds(w:World):D_ w (.slice none 0 0) []:=(LstX.nil 0 w).gds rfl
set_option maxHeartbeats 16000000 in
set_option maxRecDepth 100000 in
theorem kloads_walk(v:Value)(l:List Int)(w:World)(hv:IsBys w v l)(hH:Handle w):Calls Tryd.prog 4 #[v] w fun e w'=>e=.returned (.bool true)∧Below w.heap.size w w':=by
 have HV:=h_ hv
 have HH:=h_ hH
 have HRD:=h_ (rdD_eq (hv_bytes hv))
 have HL:=h_ (kload_any v l w hv)
 obtain ⟨va,vk,hva⟩:=hv.shape
 obtain ⟨vn,hvn⟩:=gN (l.length)
 rw[hvn]at hva
 subst hva
 obtain ⟨v,hvv⟩:=gM (Value.slice va vn vk)
 rw[←hvv]at HV HL
 clear hv hH hvn
 cases hr:rdK l with
 |none=>
  rw[hr]at HRD
  have HR:=h_ hr
  clear hr
  subst hvv
  go_enter Tryd.func4,Tryd.ntmps4
  go_wp2_with fail
  refine HL.out.mono ?_
  rintro e w1 ⟨hb1,he1⟩
  rw[HR.out]at he1
  subst he1
  have C1:=h_ hb1
  clear hb1
  obtain ⟨W2,hW2⟩:=gM (w1.alloc (.cells #[.slice none 0 0,.slice none 0 0,.int .i64 0] 26))
  have HW2:=h_ hW2
  have HX2:=h_ (show WBk W2 w1.heap.size #[.slice none 0 0,.slice none 0 0,.int .i64 0] 26 by rw[hW2];exact WBk.new _ _ _)
  have HB12:=h_ (show Below w1.heap.size w1 W2 by rw[hW2];exact o_ _ _)
  have C2:=h_ (bel_on C1.out HB12.out)
  have HLO:=h_ (rloadof_any _ l W2 (HV.out.u_ C2.out))
  clear hW2
  go_wp2_with fail
  rw[←HW2.out]
  refine HLO.out.mono ?_
  rintro e w3 ⟨hb3,he3⟩
  rw[HRD.out]at he3
  subst he3
  obtain ⟨W4,hW4⟩:=gM (w3.alloc (.cells #[.slice none 0 0,.slice none 0 0,.int .i64 0] 25))
  have HW4:=h_ hW4
  have HX4:=h_ (show WBk W4 w3.heap.size #[.slice none 0 0,.slice none 0 0,.int .i64 0] 25 by rw[hW4];exact WBk.new _ _ _)
  have HB34:=h_ (show Below w3.heap.size w3 W4 by rw[hW4];exact o_ _ _)
  have C4:=h_ (bel_on C2.out (bel_on hb3 HB34.out))
  have HB24:=h_ (bel_on hb3 HB34.out)
  have HST:=h_ (l3state_any none 0 0 none 0 0 0 W4)
  obtain ⟨x0,x1,x2⟩:=HX4.out.c3
  clear hW4 hb3
  go_wp2_with fail
  rw[←HW4.out]
  refine HST.out.mono ?_
  rintro e w5 ⟨rfl,hb5⟩
  obtain ⟨W6,hW6⟩:=gM (w5.alloc (.cells #[.slice none 0 0,.slice none 0 0,.int .i64 0] 26))
  have HW6:=h_ hW6
  have HX6:=h_ (show WBk W6 w5.heap.size #[.slice none 0 0,.slice none 0 0,.int .i64 0] 26 by rw[hW6];exact WBk.new _ _ _)
  have HB46:=h_ (show Below W4.heap.size W4 W6 by rw[hW6];exact bel_on hb5 (o_ _ _))
  have C6:=h_ (bel_on C4.out HB46.out)
  have HX2b:=h_ (HX2.out.kept (bel_on HB24.out HB46.out))
  have HSS:=h_ (l3states_any (.slice none 0 0) (.slice none 0 0) (.slice none 0 0) (.slice none 0 0) ([]) ([]) 0 W6 (nil_lys _) (nil_lys _) (nil_gds _) (nil_gds _))
  obtain ⟨y0,y1,y2⟩:=HX2b.out.c3
  rw[HW6.out]at y0 y1 y2
  clear hW6 hb5 x0 x1 x2
  go_wp2_with fail
  rw[←HW6.out]
  refine HSS.out.mono ?_
  rintro e w7 ⟨rfl,hb7⟩
  have C7:=h_ (bel_on C6.out hb7)
  clear hb7 y0 y1 y2
  have HX:=h_ (error_same (k:=7) (n:=7) rfl w7 (HH.out.u_ C7.out))
  rw[n_ (by decide)]at HX
  go_wp2_with fail
  refine HX.out.mono ?_
  rintro e w8 ⟨rfl,hb8⟩
  have C8:=h_ (bel_on C7.out hb8)
  clear hb8
  go_wp2
  go_ret
  exact ⟨rfl,C8.out⟩
 |some p=>
  obtain ⟨n,xs⟩:=p
  rw[hr]at HRD
  have HR:=h_ hr
  clear hr
  subst hvv
  go_enter Tryd.func4,Tryd.ntmps4
  go_wp2_with fail
  refine HL.out.mono ?_
  rintro e w1 ⟨hb1,he1⟩
  rw[HR.out]at he1
  obtain ⟨o,t,rfl,ho,ht⟩:=he1
  obtain ⟨oa,ok,rfl,_,_⟩:=id ho.shape
  obtain ⟨ta,tk,rfl,_,_⟩:=id ht.shape
  obtain ⟨on,hon⟩:=gN ((xs.map (·.1)).length)
  obtain ⟨tn,htn⟩:=gN ((xs.map (·.2)).length)
  have HLN:=h_ (And.intro hon htn)
  rw[hon]at ho ⊢
  rw[htn]at ht ⊢
  have HO:=h_ ho
  have HT:=h_ ht
  have C1:=h_ hb1
  clear hb1 ho ht hon htn
  obtain ⟨W2,hW2⟩:=gM (w1.alloc (.cells #[.slice oa on ok,.slice ta tn tk,.int .i64 n] 26))
  have HW2:=h_ hW2
  have HX2:=h_ (show WBk W2 w1.heap.size #[.slice oa on ok,.slice ta tn tk,.int .i64 n] 26 by rw[hW2];exact WBk.new _ _ _)
  have HB12:=h_ (show Below w1.heap.size w1 W2 by rw[hW2];exact o_ _ _)
  have C2:=h_ (bel_on C1.out HB12.out)
  have HLO:=h_ (rloadof_any _ l W2 (HV.out.u_ C2.out))
  clear hW2
  go_wp2_with fail
  rw[←HW2.out]
  refine HLO.out.mono ?_
  rintro e w3 ⟨hb3,he3⟩
  rw[HRD.out]at he3
  obtain ⟨o2,t2,rfl,ho2,ht2⟩:=he3
  obtain ⟨pa,pk,rfl,_,_⟩:=id ho2.shape
  obtain ⟨qa,qk,rfl,_,_⟩:=id ht2.shape
  rw[HLN.out.1]at ho2 ⊢
  rw[HLN.out.2]at ht2 ⊢
  have HO2:=h_ ho2
  have HT2:=h_ ht2
  clear ho2 ht2
  obtain ⟨W4,hW4⟩:=gM (w3.alloc (.cells #[.slice pa on pk,.slice qa tn qk,.int .i64 n] 25))
  have HW4:=h_ hW4
  have HX4:=h_ (show WBk W4 w3.heap.size #[.slice pa on pk,.slice qa tn qk,.int .i64 n] 25 by rw[hW4];exact WBk.new _ _ _)
  have HB34:=h_ (show Below w3.heap.size w3 W4 by rw[hW4];exact o_ _ _)
  have C4:=h_ (bel_on C2.out (bel_on hb3 HB34.out))
  have HB24:=h_ (bel_on hb3 HB34.out)
  have HST:=h_ (l3state_any pa on pk qa tn qk n W4)
  obtain ⟨x0,x1,x2⟩:=HX4.out.c3
  clear hW4 hb3
  go_wp2_with fail
  rw[←HW4.out]
  refine HST.out.mono ?_
  rintro e w5 ⟨rfl,hb5⟩
  obtain ⟨W6,hW6⟩:=gM (w5.alloc (.cells #[.slice pa on pk,.slice qa tn qk,.int .i64 n] 26))
  have HW6:=h_ hW6
  have HX6:=h_ (show WBk W6 w5.heap.size #[.slice pa on pk,.slice qa tn qk,.int .i64 n] 26 by rw[hW6];exact WBk.new _ _ _)
  have HB46:=h_ (show Below W4.heap.size W4 W6 by rw[hW6];exact bel_on hb5 (o_ _ _))
  have C6:=h_ (bel_on C4.out HB46.out)
  have HX2b:=h_ (HX2.out.kept (bel_on HB24.out HB46.out))
  have HSS:=h_ (l3states_any (.slice oa on ok) (.slice ta tn tk) (.slice pa on pk) (.slice qa tn qk) (xs.map (·.1)) (xs.map (·.2)) n W6 ((HO.out.u_ (bel_on HB12.out (bel_on HB24.out HB46.out)))) ((HO2.out.u_ (bel_on HB34.out HB46.out))) ((HT.out.u_ (bel_on HB12.out (bel_on HB24.out HB46.out)))) ((HT2.out.u_ (bel_on HB34.out HB46.out))))
  obtain ⟨y0,y1,y2⟩:=HX2b.out.c3
  rw[HW6.out]at y0 y1 y2
  clear hW6 hb5 x0 x1 x2
  go_wp2_with fail
  rw[←HW6.out]
  refine HSS.out.mono ?_
  rintro e w7 ⟨rfl,hb7⟩
  have C7:=h_ (bel_on C6.out hb7)
  clear hb7 y0 y1 y2
  go_wp2
  go_ret
  exact ⟨rfl,C7.out⟩
end Go.Proofs.YtaajlggpjholeajDoor
