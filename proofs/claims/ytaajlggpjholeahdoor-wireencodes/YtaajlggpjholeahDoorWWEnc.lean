/- The walk of the law WireEncodes: Encode of package wire answers what the document's answer does. Condition: the library's variable errors.errorType is as its text lays it. -/
import Derived.Test.YtaajlggpjholeahDoorWrC7
import Derived.Test.YtaajlggpjholeahDoorErr
namespace Go.Proofs.YtaajlggpjholeahDoor
open Go.RowKit
set_option maxHeartbeats 16000000 in
set_option maxRecDepth 100000 in
theorem encodes_walk(v:Value)(k mi:Int)(b:Mx)(w:World)(hv:IsMsg w v k mi b)(hH:Handle w):Calls Tryd.prog 3 #[v] w fun e w'=>e=.returned (.bool true)∧Below w.heap.size w w':=by
 have HH:=h_ hH
 have HV:=h_ hv
 obtain ⟨sa,sn,sc,rfl⟩:=hv.shape
 obtain ⟨r,hr⟩:=gN (b.rows)
 obtain ⟨c,hc⟩:=gN (b.cols)
 rw[hr,hc]at HV ⊢
 obtain ⟨E,hE⟩:=gN (msgF k mi b)
 have HE:=h_ hE
 have HB0:=h_ (o_ w (.cells #[.int .i64 k,.int .i64 mi,.int .i64 r,.int .i64 c,.slice sa sn sc] 26))
 have HBX:=h_ (Blk5.new w (.int .i64 k) (.int .i64 mi) (.int .i64 r) (.int .i64 c) (.slice sa sn sc))
 obtain ⟨W0,hW0⟩:=gM (w.alloc (.cells #[.int .i64 k,.int .i64 mi,.int .i64 r,.int .i64 c,.slice sa sn sc] 26))
 rw[←hW0]at HB0 HBX
 have HLT:=h_ HBX.out.lt
 have HX:=h_ (wenc_any _ k mi b W0 (HV.out.u_ HB0.out))
 unfold EncEnd at HX
 rw[hE]at HX
 obtain ⟨EV,hEV⟩:=gN (errV E)
 have HEV:=h_ hEV
 rw[hEV]at HX
 have HW0:=h_ hW0
 clear hv hH hr hc hE hEV hW0
 go_enter Tryd.func3,Tryd.ntmps3
 go_wp2_with (rw[←HW0.out];refine HX.out.mono ?_;rintro e u1 ⟨s1,rfl,hi,hn,hb⟩;have HI:=h_ hi;have C1:=h_ (bel_on HB0.out hb);obtain ⟨q0,q1,q2,q3,q4⟩:=(HBX.out.bel hb HLT.out).c;have HQ:=h_ (HBX.out.bel hb HLT.out);have HL1:=h_ hb.size;obtain ⟨ya,yc,rfl⟩:=hi.shape;clear hi hn hb)
 have HY:=h_ (rmsgf_any _ k mi b u1 (HV.out.u_ C1.out))
 rw[HE.out]at HY
 go_wp2_with fail
 refine HY.out.mono ?_
 rintro e u2 ⟨rfl,hb⟩
 have C2:=h_ (bel_on C1.out hb)
 have HQ2:=h_ (HQ.out.bel hb HQ.out.lt)
 replace HI:=h_ (HI.out.u_ hb)
 clear hb HY HX q0 q1 q2 q3 q4
 have HX:=h_ (error_same (k:=E) (n:=E) rfl u2 (HH.out.u_ C2.out))
 rw[HEV.out]at HX
 go_wp2_with fail
 refine HX.out.mono ?_
 rintro e u3 ⟨rfl,hb⟩
 have C3:=h_ (bel_on C2.out hb)
 have HQ3:=h_ (HQ2.out.bel hb HQ2.out.lt)
 replace HI:=h_ (HI.out.u_ hb)
 clear hb HX
 by_cases c:E=0
 ·subst c
  have HXB:=h_ (show encX k mi b=msgB k mi b by unfold encX;rw[if_pos HE.out])
  rw[HXB.out]at HI ⊢
  obtain ⟨q0,q1,q2,q3,q4⟩:=HQ3.out.c
  obtain ⟨yn,hyn⟩:=gN ((msgB k mi b).length)
  rw[hyn]at HI ⊢
  clear hyn
  have HX:=h_ (rmsgof_any _ k mi b u3 (HV.out.u_ C3.out) HE.out)
  go_wp2_with fail
  refine HX.out.mono ?_
  rintro e u4 ⟨s4,rfl,ho,hb⟩
  have C4:=h_ (bel_on C3.out hb)
  replace HI:=h_ (HI.out.u_ hb)
  have HO:=h_ ho.isBys
  clear hb HX ho
  have HX:=h_ (octets_any _ _ (msgB k mi b) (msgB k mi b) u4 HI.out HO.out)
  rw[←sameB_yes rfl]at HX
  go_wp2_with fail
  refine HX.out.mono ?_
  rintro e u5 ⟨rfl,hb⟩
  have C5:=h_ (bel_on C4.out hb)
  clear hb HX
  go_wp2
  go_ret
  exact ⟨rfl,C5.out⟩
 ·have hXB:encX k mi b=[]:=by unfold encX;rw[if_neg (by rw[HE.out];exact c)]
  have nE:(E !=0)=true:=by simpa using c
  rw[hXB]
  clear c hXB
  go_wp2
  go_ret
  exact ⟨rfl,C3.out⟩
end Go.Proofs.YtaajlggpjholeahDoor
