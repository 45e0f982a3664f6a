/- What Back of package net comes to: what goes back through a net, and its Grads, or what is wrong. -/
import Derived.Test.YtniloklglpchfafNetC2
import Derived.Test.YtniloklglpchfafPkNBSt
namespace Go.Proofs.Ytniloklglpchfaf
open Go.RowKit Go.Shelf
attribute [local go_sem] Oper.semAt_some
set_option maxHeartbeats 2000000 in
set_option maxRecDepth 100000 in
theorem nback_full(N:Nat)(a:Option Addr)(cap:Nat)(sa:Option Addr)(N' scap:Nat)(za:Option Addr)(zn zk:Nat)(r c:Int)(w:World)(hN:N≤maxLen)(h12:12<N):
  Calls Try.prog 60 #[.slice a N cap,.slice sa N' scap,.agg #[.int .i64 r,.int .i64 c,.slice za zn zk]] w fun e w'=>e=.returned (.tuple #[.agg #[.int .i64 0,.int .i64 0,.slice none 0 0],.slice none 0 0,.iface 65 (.int .i64 3)])∧Below w.heap.size w w':=by
 have HC:=h_ (fun W=>count_any a N cap W hN)
 unfold maxLen at hN
 rw[if_pos h12,n_ (by decide)]at HC
 clear h12
 go_enter Try.func60,Try.ntmps60
 go_wp2_with fail
 refine (HC.out _).mono ?_
 rintro e w1 ⟨rfl,rfl⟩
 go_wp2
 exact bodyPost_ret (v:=.tuple #[.agg #[.int .i64 0,.int .i64 0,.slice none 0 0],.slice none 0 0,.iface 65 (.int .i64 3)]) (by simp[results,Try.results60,go_sem]) rfl ⟨rfl,a_ (a_ (a_ (a_ (a_ (Below.refl _ _)))))⟩
set_option maxHeartbeats 2000000 in
set_option maxRecDepth 100000 in
theorem nback_shape(N:Nat)(a:Option Addr)(cap:Nat)(sa:Option Addr)(N' scap:Nat)(za:Option Addr)(zn zk:Nat)(r c:Int)(w:World)(hN:N≤maxLen)(h12:¬12<N)(hs:N'≠N+1):
  Calls Try.prog 60 #[.slice a N cap,.slice sa N' scap,.agg #[.int .i64 r,.int .i64 c,.slice za zn zk]] w fun e w'=>e=.returned (.tuple #[.agg #[.int .i64 0,.int .i64 0,.slice none 0 0],.slice none 0 0,.iface 65 (.int .i64 2)])∧Below w.heap.size w w':=by
 have HC:=h_ (fun W=>count_any a N cap W hN)
 unfold maxLen at hN
 have hq:((N':Int) !=(N:Int)+1)=true:=by simp;omega
 have h12':(N:Int)≤12:=by omega
 rw[if_neg h12,e_ rfl]at HC
 clear h12 hs
 go_enter Try.func60,Try.ntmps60
 go_wp2_with fail
 refine (HC.out _).mono ?_
 rintro e w1 ⟨rfl,rfl⟩
 go_wp2
 exact bodyPost_ret (v:=.tuple #[.agg #[.int .i64 0,.int .i64 0,.slice none 0 0],.slice none 0 0,.iface 65 (.int .i64 2)]) (by simp[results,Try.results60,go_sem]) rfl ⟨rfl,a_ (a_ (a_ (a_ (a_ (Below.refl _ _)))))⟩
set_option maxHeartbeats 4000000 in
set_option maxRecDepth 100000 in
theorem nback_none(a:Option Addr)(cap:Nat)(sa:Option Addr)(scap:Nat)(za:Option Addr)(zn zk:Nat)(r c:Int)(g:Mx)(hr:g.rows=r)(hc:g.cols=c)(w:World)(hg:I_ w (.slice za zn zk) g.cells):
  Calls Try.prog 60 #[.slice a 0 cap,.slice sa 1 scap,.agg #[.int .i64 r,.int .i64 c,.slice za zn zk]] w fun e w'=>∃vx,e=.returned (.tuple #[vx,.slice none 0 0,errV (q_ g)])∧M_ w' vx (keepX g)∧Below w.heap.size w w':=by
 have HC:=h_ (fun W=>count_any a 0 cap W (Nat.zero_le _))
 rw[if_neg (by decide),e_ rfl]at HC
 obtain ⟨V,hV⟩:=gM ((((((w.alloc (.cells #[.slice sa 1 scap] 32)).alloc (.cells #[.int .i64 r,.int .i64 c,.slice za zn zk] 28)).alloc (.cells #[.int .i64 0,.int .i64 0,.slice none 0 0] 28)).alloc (.cells #[.slice none 0 0] 23)).alloc (.cells #[.nilIface] 34)))
 have HV:=h_ hV
 have HWV:Hid (Below w.heap.size w V):=by rw[hV];exact h_ (a_ (a_ (a_ (a_ (a_ (Below.refl _ _))))))
 have HVS:Hid (V.heap.size=w.heap.size+5):=by rw[hV];exact h_ (by simp)
 have H0:Hid (Box V w.heap.size [.slice sa 1 scap]):=by rw[hV];exact h_ ((Box.new _ [.slice sa 1 scap] 32 rfl).u_ (a_ (a_ (a_ (a_ (Below.refl _ _))))))
 have H1:Hid (Box V (w.heap.size+1) [.int .i64 r,.int .i64 c,.slice za zn zk]):=by rw[hV];exact h_ ((Box.new _ [.int .i64 r,.int .i64 c,.slice za zn zk] 28 (by simp)).u_ (a_ (a_ (a_ (Below.refl _ _)))))
 have H2:Hid (Blk V (w.heap.size+1+1) #[.int .i64 0,.int .i64 0,.slice none 0 0] 28):=by rw[hV];exact h_ (((Blk.new _ _ _ (by simp)).alloc _).alloc _)
 have H3:Hid (Blk V (w.heap.size+1+1+1) #[.slice none 0 0] 23):=by rw[hV];exact h_ ((Blk.new _ _ _ (by simp)).alloc _)
 have H4:Hid (Blk V (w.heap.size+1+1+1+1) #[.nilIface] 34):=by rw[hV];exact h_ (Blk.new _ _ _ (by simp))
 have HCP:=h_ (copy_any (.agg #[.int .i64 g.rows,.int .i64 g.cols,.slice za zn zk]) g V ⟨_,rfl,hg.u_ HWV.out⟩)
 obtain ⟨X,hX⟩:=gN (keepX g)
 obtain ⟨E,hE⟩:=gN (q_ g)
 rw[hX,hE,hr,hc]at HCP
 rw[hX,hE]
 obtain ⟨d0,d1,d2⟩:=H1.out.c3
 have d3:=H0.out 0 _ rfl
 clear hg hr hc hX hE hV
 go_enter Try.func60,Try.ntmps60
 go_wp2_with fail
 rw[←HV.out]
 refine (HC.out _).mono ?_
 rintro e w0 ⟨rfl,rfl⟩
 go_wp2_with fail
 refine HCP.out.mono ?_
 rintro e w1 ⟨v',rfl,⟨sy,rfl,hsy⟩,hb1,hf⟩
 obtain ⟨pa,pn,pk,rfl⟩:=hsy.shape
 have HBA:=h_ (show Below w0.heap.size w0 (w1.alloc (.cells #[.int .i64 X.rows,.int .i64 X.cols,.slice pa pn pk] 28)) from a_ hb1)
 have HSY:=h_ (show M_ (w1.alloc (.cells #[.int .i64 X.rows,.int .i64 X.cols,.slice pa pn pk] 28)) (.agg #[.int .i64 X.rows,.int .i64 X.cols,.slice pa pn pk]) X from ⟨_,rfl,hsy.u_ (o_ _ _)⟩)
 have HF:=h_ hf
 have t0:=(H2.out.u_ HBA.out).cell (j:=0) rfl
 have t1:=(H2.out.u_ HBA.out).cell (j:=1) rfl
 have t2:=(H2.out.u_ HBA.out).cell (j:=2) rfl
 have t3:=(H3.out.u_ HBA.out).cell (j:=0) rfl
 have t4:=(H4.out.u_ HBA.out).cell (j:=0) rfl
 have f0:=(H2.out.u_ HBA.out).frozen 0
 have f1:=(H2.out.u_ HBA.out).frozen 1
 have f2:=(H2.out.u_ HBA.out).frozen 2
 have f3:=(H3.out.u_ HBA.out).frozen 0
 have f4:=(H4.out.u_ HBA.out).frozen 0
 clear hsy hb1 hf d0 d1 d2 d3 HC HCP
 by_cases hE0:E=0
 ·subst hE0
  rw[e_ rfl]
  have HM:=h_ (show M_ ((((((w1.alloc (.cells #[.int .i64 X.rows,.int .i64 X.cols,.slice pa pn pk] 28)).setCell ⟨w.heap.size+1+1,0,none⟩ (.int .i64 X.rows)).setCell ⟨w.heap.size+1+1,1,none⟩ (.int .i64 X.cols)).setCell ⟨w.heap.size+1+1,2,none⟩ (.slice pa pn pk)).setCell ⟨w.heap.size+1+1+1,0,none⟩ (.slice none 0 0)).setCell ⟨w.heap.size+1+1+1+1,0,none⟩ (.nilIface)) (.agg #[.int .i64 X.rows,.int .i64 X.cols,.slice pa pn pk]) X from ((((HSY.out.set HF.out (by have:=HVS.out;omega) _ _).set HF.out (by have:=HVS.out;omega) _ _).set HF.out (by have:=HVS.out;omega) _ _).set HF.out (by have:=HVS.out;omega) _ _).set HF.out (by have:=HVS.out;omega) _ _)
  have HB:=h_ (show Below w.heap.size w ((((((w1.alloc (.cells #[.int .i64 X.rows,.int .i64 X.cols,.slice pa pn pk] 28)).setCell ⟨w.heap.size+1+1,0,none⟩ (.int .i64 X.rows)).setCell ⟨w.heap.size+1+1,1,none⟩ (.int .i64 X.cols)).setCell ⟨w.heap.size+1+1,2,none⟩ (.slice pa pn pk)).setCell ⟨w.heap.size+1+1+1,0,none⟩ (.slice none 0 0)).setCell ⟨w.heap.size+1+1+1+1,0,none⟩ (.nilIface)) from t_ (t_ (t_ (t_ (t_ (b_ HWV.out HBA.out) (by omega)) (by omega)) (by omega)) (by omega)) (by omega))
  go_wp2
  exact bodyPost_ret (v:=.tuple #[.agg #[.int .i64 X.rows,.int .i64 X.cols,.slice pa pn pk],.slice none 0 0,.nilIface]) (by simp[results,Try.results60,go_sem,t0,t1,t2,t3,t4]) rfl ⟨_,rfl,HM.out,HB.out⟩
 ·have HE:=h_ hE0
  rw[n_ hE0]
  clear hE0
  have HM:=h_ (show M_ ((((((w1.alloc (.cells #[.int .i64 X.rows,.int .i64 X.cols,.slice pa pn pk] 28)).setCell ⟨w.heap.size+1+1,0,none⟩ (.int .i64 X.rows)).setCell ⟨w.heap.size+1+1,1,none⟩ (.int .i64 X.cols)).setCell ⟨w.heap.size+1+1,2,none⟩ (.slice pa pn pk)).setCell ⟨w.heap.size+1+1+1,0,none⟩ (.slice none 0 0)).setCell ⟨w.heap.size+1+1+1+1,0,none⟩ (.iface 65 (.int .i64 E))) (.agg #[.int .i64 X.rows,.int .i64 X.cols,.slice pa pn pk]) X from ((((HSY.out.set HF.out (by have:=HVS.out;omega) _ _).set HF.out (by have:=HVS.out;omega) _ _).set HF.out (by have:=HVS.out;omega) _ _).set HF.out (by have:=HVS.out;omega) _ _).set HF.out (by have:=HVS.out;omega) _ _)
  have HB:=h_ (show Below w.heap.size w ((((((w1.alloc (.cells #[.int .i64 X.rows,.int .i64 X.cols,.slice pa pn pk] 28)).setCell ⟨w.heap.size+1+1,0,none⟩ (.int .i64 X.rows)).setCell ⟨w.heap.size+1+1,1,none⟩ (.int .i64 X.cols)).setCell ⟨w.heap.size+1+1,2,none⟩ (.slice pa pn pk)).setCell ⟨w.heap.size+1+1+1,0,none⟩ (.slice none 0 0)).setCell ⟨w.heap.size+1+1+1+1,0,none⟩ (.iface 65 (.int .i64 E))) from t_ (t_ (t_ (t_ (t_ (b_ HWV.out HBA.out) (by omega)) (by omega)) (by omega)) (by omega)) (by omega))
  go_wp2
  exact bodyPost_ret (v:=.tuple #[.agg #[.int .i64 X.rows,.int .i64 X.cols,.slice pa pn pk],.slice none 0 0,.iface 65 (.int .i64 E)]) (by simp[results,Try.results60,go_sem,t0,t1,t2,t3,t4]) rfl ⟨_,by rw[n_ HE.out],HM.out,HB.out⟩
end Go.Proofs.Ytniloklglpchfaf
