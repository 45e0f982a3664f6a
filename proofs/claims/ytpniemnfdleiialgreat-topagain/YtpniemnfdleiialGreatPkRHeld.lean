/- A region whose order is drawn, in a round of a loop over a function: as anywhere else, at the wide fence. No program in sight. -/
import Derived.RangeFuncNested
import Derived.RangeFuncCalls
import Derived.OrdersIn
import Derived.Deep.RegionHeld3
import Derived.Test.YtpniemnfdleiialGreatRows
import Derived.Test.YtpniemnfdleiialGreatNetC2
import Derived.Test.YtpniemnfdleiialGreatPkNBackw
namespace Go.Proofs.YtpniemnfdleiialGreat
open Go.RowKit
theorem upon_in{l n:Nat}{P:Program}{o:Oper}{a:Act}{K:Act→World→Prop}{Q:Exit→Act→World→Prop}{r:Result Next}(h:o.upon P a K Q r):o.uponIn (Fence.wide.inRound l) n P a K Q r:=by
 cases r with
 |ok x w=>
  cases x with
  |value v=>exact h
  |skip=>exact h
  |defer d=>exact h
  |enter f args=>exact ⟨fun hd=>(by cases hd),CallsIn.inRound l (callsIn_wide.2 h)⟩
  |row row args=>exact ⟨fun hd=>(by cases hd),fun c cs _=>let ⟨v,w',r,s⟩:=h c cs;⟨v,w',r,stepsIn_wide.2 s⟩⟩
  |_=>exact (h:False).elim
 |halt x w=>cases x<;>exact h
def noDefer (ops:Array Oper):Bool:=ops.toList.all fun o=>match o.op with|.defer _=>false|_=>true
theorem noDefer_at{ops:Array Oper}(h:noDefer ops=true){i:Nat}{o:Oper}(ho:ops[i]?=some o):∀c,o.op≠.defer c:=by
 intro c e
 have:=List.all_eq_true.1 h o (List.mem_of_getElem? (i:=i) (by simpa using ho))
 rw[e]at this;cases this
theorem op_in{l n:Nat}{P:Program}{ops:Array Oper}{Q:Exit→Act→World→Prop}{i:Nat}{K:Act→World→Prop}{a:Act}{w:World}(hQ:¬LetsOut Q)(hnd:noDefer ops=true)(h:wpOp P ops Q i K a w):wpOpIn (Fence.wide.inRound l) n P ops Q i K a w:=by
 unfold wpOp at h
 unfold wpOpIn
 cases ho:ops[i]? with
 |none=>simp only[ho]at h ⊢;exact h
 |some o=>
  simp only[ho]at h ⊢
  split
  ·rename_i hw
   rw[if_pos hw]at h
   refine ⟨fun f _=>trivial,?_⟩
   rw[Oper.semAt_eq _ _ _ (noDefer_at hnd ho)]
   exact upon_in (h.resolve_right (fun h'=>hQ h'.2))
  ·rename_i hw
   rw[if_neg hw]at h
   exact ⟨fun f _=>trivial,h⟩
theorem any_in{l n:Nat}{P:Program}{md:Region.Mode}{ops:Array Oper}{Q:Exit→Act→World→Prop}(hQ:¬LetsOut Q)(hnd:noDefer ops=true):∀(fuel:Nat) (listed:Array Bool) (a:Act) (w:World),wpAny P md ops Q fuel listed a w→wpAnyIn (Fence.wide.inRound l) n P md ops Q fuel listed a w
 |0,_,_,_,h=>h
 |fuel+1,_,_,_,h=>⟨h.1,fun i hi=>op_in hQ hnd (wpOp_mono (fun a' w' h'=>any_in hQ hnd fuel _ a' w' h') (h.2 i hi))⟩
theorem region_round{l n:Nat}{P:Program}{ops:Array Oper}{Q:Exit→Act→World→Prop}{S:World→Prop}{id:Nat}{a:Act}{w:World}(hm:P.follows .mixedOrders=true)(hQ:¬LetsOut Q)(hnd:noDefer ops=true)(hS:S w.drew)
  (h:S w.drew→wpAnyH P .any ops Q S ops.size (Array.replicate ops.size false) a w.drew):(Code.region id ops true).wpIn (Fence.wide.inRound l) n P Q a w:=
 wpIn_region_any hm (any_in hQ hnd _ _ _ _ (wpAny_of_held _ _ _ _ (h hS)))
end Go.Proofs.YtpniemnfdleiialGreat
/- What Back of package net comes to: what goes back through a net, and its Grads, or what is wrong. -/
namespace Go.Proofs.YtpniemnfdleiialGreat
open Go.RowKit Go.Shelf
attribute [local go_sem] Oper.semAt_some
set_option maxHeartbeats 2000000 in
set_option maxRecDepth 100000 in
theorem nback_full(N:Nat)(a:Option Addr)(cap:Nat)(sa:Option Addr)(N' scap:Nat)(za:Option Addr)(zn zk:Nat)(r c:Int)(w:World)(hN:N≤maxLen)(h12:12<N):
  Calls Tryz.prog 82 #[.slice a N cap,.slice sa N' scap,.agg #[.int .i64 r,.int .i64 c,.slice za zn zk]] w fun e w'=>e=.returned (.tuple #[.agg #[.int .i64 0,.int .i64 0,.slice none 0 0],.slice none 0 0,.iface 66 (.int .i64 3)])∧Below w.heap.size w w':=by
 have HC:=h_ (fun W=>count_any a N cap W hN)
 unfold maxLen at hN
 rw[if_pos h12,n_ (by decide)]at HC
 clear h12
 go_enter Tryz.func82,Tryz.ntmps82
 go_wp2_with fail
 refine (HC.out _).mono ?_
 rintro e w1 ⟨rfl,rfl⟩
 go_wp2
 exact bodyPost_ret (v:=.tuple #[.agg #[.int .i64 0,.int .i64 0,.slice none 0 0],.slice none 0 0,.iface 66 (.int .i64 3)]) (by simp[results,Tryz.results82,go_sem]) rfl ⟨rfl,a_ (a_ (a_ (a_ (a_ (Below.refl _ _)))))⟩
set_option maxHeartbeats 2000000 in
set_option maxRecDepth 100000 in
theorem nback_shape(N:Nat)(a:Option Addr)(cap:Nat)(sa:Option Addr)(N' scap:Nat)(za:Option Addr)(zn zk:Nat)(r c:Int)(w:World)(hN:N≤maxLen)(h12:¬12<N)(hs:N'≠N+1):
  Calls Tryz.prog 82 #[.slice a N cap,.slice sa N' scap,.agg #[.int .i64 r,.int .i64 c,.slice za zn zk]] w fun e w'=>e=.returned (.tuple #[.agg #[.int .i64 0,.int .i64 0,.slice none 0 0],.slice none 0 0,.iface 66 (.int .i64 2)])∧Below w.heap.size w w':=by
 have HC:=h_ (fun W=>count_any a N cap W hN)
 unfold maxLen at hN
 have hq:((N':Int) !=(N:Int)+1)=true:=by simp;omega
 have h12':(N:Int)≤12:=by omega
 rw[if_neg h12,e_ rfl]at HC
 clear h12 hs
 go_enter Tryz.func82,Tryz.ntmps82
 go_wp2_with fail
 refine (HC.out _).mono ?_
 rintro e w1 ⟨rfl,rfl⟩
 go_wp2
 exact bodyPost_ret (v:=.tuple #[.agg #[.int .i64 0,.int .i64 0,.slice none 0 0],.slice none 0 0,.iface 66 (.int .i64 2)]) (by simp[results,Tryz.results82,go_sem]) rfl ⟨rfl,a_ (a_ (a_ (a_ (a_ (Below.refl _ _)))))⟩
set_option maxHeartbeats 4000000 in
set_option maxRecDepth 100000 in
theorem nback_none(a:Option Addr)(cap:Nat)(sa:Option Addr)(scap:Nat)(za:Option Addr)(zn zk:Nat)(r c:Int)(g:Mx)(hr:g.rows=r)(hc:g.cols=c)(w:World)(hg:I_ w (.slice za zn zk) g.cells):
  Calls Tryz.prog 82 #[.slice a 0 cap,.slice sa 1 scap,.agg #[.int .i64 r,.int .i64 c,.slice za zn zk]] w fun e w'=>∃vx,e=.returned (.tuple #[vx,.slice none 0 0,errV (q_ g)])∧M_ w' vx (keepX g)∧Below w.heap.size w w':=by
 have HC:=h_ (fun W=>count_any a 0 cap W (Nat.zero_le _))
 rw[if_neg (by decide),e_ rfl]at HC
 obtain ⟨V,hV⟩:=gM ((((((w.alloc (.cells #[.slice sa 1 scap] 144)).alloc (.cells #[.int .i64 r,.int .i64 c,.slice za zn zk] 28)).alloc (.cells #[.int .i64 0,.int .i64 0,.slice none 0 0] 28)).alloc (.cells #[.slice none 0 0] 23)).alloc (.cells #[.nilIface] 37)))
 have HV:=h_ hV
 have HWV:Hid (Below w.heap.size w V):=by rw[hV];exact h_ (a_ (a_ (a_ (a_ (a_ (Below.refl _ _))))))
 have HVS:Hid (V.heap.size=w.heap.size+5):=by rw[hV];exact h_ (by simp)
 have H0:Hid (Box V w.heap.size [.slice sa 1 scap]):=by rw[hV];exact h_ ((Box.new _ [.slice sa 1 scap] 144 rfl).u_ (a_ (a_ (a_ (a_ (Below.refl _ _))))))
 have H1:Hid (Box V (w.heap.size+1) [.int .i64 r,.int .i64 c,.slice za zn zk]):=by rw[hV];exact h_ ((Box.new _ [.int .i64 r,.int .i64 c,.slice za zn zk] 28 (by simp)).u_ (a_ (a_ (a_ (Below.refl _ _)))))
 have H2:Hid (Blk V (w.heap.size+1+1) #[.int .i64 0,.int .i64 0,.slice none 0 0] 28):=by rw[hV];exact h_ (((Blk.new _ _ _ (by simp)).alloc _).alloc _)
 have H3:Hid (Blk V (w.heap.size+1+1+1) #[.slice none 0 0] 23):=by rw[hV];exact h_ ((Blk.new _ _ _ (by simp)).alloc _)
 have H4:Hid (Blk V (w.heap.size+1+1+1+1) #[.nilIface] 37):=by rw[hV];exact h_ (Blk.new _ _ _ (by simp))
 have HCP:=h_ (copy_any (.agg #[.int .i64 g.rows,.int .i64 g.cols,.slice za zn zk]) g V ⟨_,rfl,hg.u_ HWV.out⟩)
 obtain ⟨X,hX⟩:=gN (keepX g)
 obtain ⟨E,hE⟩:=gN (q_ g)
 rw[hX,hE,hr,hc]at HCP
 rw[hX,hE]
 obtain ⟨d0,d1,d2⟩:=H1.out.c3
 have d3:=H0.out 0 _ rfl
 clear hg hr hc hX hE hV
 go_enter Tryz.func82,Tryz.ntmps82
 go_wp2_with fail
 rw[←HV.out]
 refine (HC.out _).mono ?_
 rintro e w0 ⟨rfl,rfl⟩
 go_wp2_with fail
 refine HCP.out.mono ?_
 rintro e w1 ⟨v',rfl,⟨sy,rfl,hsy⟩,hb1,hf⟩
 obtain ⟨pa,pn,pk,rfl⟩:=hsy.shape
 have HBA:=h_ (show Below w0.heap.size w0 (w1.alloc (.cells #[.int .i64 X.rows,.int .i64 X.cols,.slice pa pn pk] 28)) from a_ hb1)
 have HSY:=h_ (show M_ (w1.alloc (.cells #[.int .i64 X.rows,.int .i64 X.cols,.slice pa pn pk] 28)) (.agg #[.int .i64 X.rows,.int .i64 X.cols,.slice pa pn pk]) X from ⟨_,rfl,hsy.u_ (o_ _ _)⟩)
 have HF:=h_ hf
 have t0:=(H2.out.u_ HBA.out).cell (j:=0) rfl
 have t1:=(H2.out.u_ HBA.out).cell (j:=1) rfl
 have t2:=(H2.out.u_ HBA.out).cell (j:=2) rfl
 have t3:=(H3.out.u_ HBA.out).cell (j:=0) rfl
 have t4:=(H4.out.u_ HBA.out).cell (j:=0) rfl
 have f0:=(H2.out.u_ HBA.out).frozen 0
 have f1:=(H2.out.u_ HBA.out).frozen 1
 have f2:=(H2.out.u_ HBA.out).frozen 2
 have f3:=(H3.out.u_ HBA.out).frozen 0
 have f4:=(H4.out.u_ HBA.out).frozen 0
 clear hsy hb1 hf d0 d1 d2 d3 HC HCP
 by_cases hE0:E=0
 ·subst hE0
  rw[e_ rfl]
  have HM:=h_ (show M_ ((((((w1.alloc (.cells #[.int .i64 X.rows,.int .i64 X.cols,.slice pa pn pk] 28)).setCell ⟨w.heap.size+1+1,0,none⟩ (.int .i64 X.rows)).setCell ⟨w.heap.size+1+1,1,none⟩ (.int .i64 X.cols)).setCell ⟨w.heap.size+1+1,2,none⟩ (.slice pa pn pk)).setCell ⟨w.heap.size+1+1+1,0,none⟩ (.slice none 0 0)).setCell ⟨w.heap.size+1+1+1+1,0,none⟩ (.nilIface)) (.agg #[.int .i64 X.rows,.int .i64 X.cols,.slice pa pn pk]) X from ((((HSY.out.set HF.out (by have:=HVS.out;omega) _ _).set HF.out (by have:=HVS.out;omega) _ _).set HF.out (by have:=HVS.out;omega) _ _).set HF.out (by have:=HVS.out;omega) _ _).set HF.out (by have:=HVS.out;omega) _ _)
  have HB:=h_ (show Below w.heap.size w ((((((w1.alloc (.cells #[.int .i64 X.rows,.int .i64 X.cols,.slice pa pn pk] 28)).setCell ⟨w.heap.size+1+1,0,none⟩ (.int .i64 X.rows)).setCell ⟨w.heap.size+1+1,1,none⟩ (.int .i64 X.cols)).setCell ⟨w.heap.size+1+1,2,none⟩ (.slice pa pn pk)).setCell ⟨w.heap.size+1+1+1,0,none⟩ (.slice none 0 0)).setCell ⟨w.heap.size+1+1+1+1,0,none⟩ (.nilIface)) from t_ (t_ (t_ (t_ (t_ (b_ HWV.out HBA.out) (by omega)) (by omega)) (by omega)) (by omega)) (by omega))
  go_wp2
  exact bodyPost_ret (v:=.tuple #[.agg #[.int .i64 X.rows,.int .i64 X.cols,.slice pa pn pk],.slice none 0 0,.nilIface]) (by simp[results,Tryz.results82,go_sem,t0,t1,t2,t3,t4]) rfl ⟨_,rfl,HM.out,HB.out⟩
 ·have HE:=h_ hE0
  rw[n_ hE0]
  clear hE0
  have HM:=h_ (show M_ ((((((w1.alloc (.cells #[.int .i64 X.rows,.int .i64 X.cols,.slice pa pn pk] 28)).setCell ⟨w.heap.size+1+1,0,none⟩ (.int .i64 X.rows)).setCell ⟨w.heap.size+1+1,1,none⟩ (.int .i64 X.cols)).setCell ⟨w.heap.size+1+1,2,none⟩ (.slice pa pn pk)).setCell ⟨w.heap.size+1+1+1,0,none⟩ (.slice none 0 0)).setCell ⟨w.heap.size+1+1+1+1,0,none⟩ (.iface 66 (.int .i64 E))) (.agg #[.int .i64 X.rows,.int .i64 X.cols,.slice pa pn pk]) X from ((((HSY.out.set HF.out (by have:=HVS.out;omega) _ _).set HF.out (by have:=HVS.out;omega) _ _).set HF.out (by have:=HVS.out;omega) _ _).set HF.out (by have:=HVS.out;omega) _ _).set HF.out (by have:=HVS.out;omega) _ _)
  have HB:=h_ (show Below w.heap.size w ((((((w1.alloc (.cells #[.int .i64 X.rows,.int .i64 X.cols,.slice pa pn pk] 28)).setCell ⟨w.heap.size+1+1,0,none⟩ (.int .i64 X.rows)).setCell ⟨w.heap.size+1+1,1,none⟩ (.int .i64 X.cols)).setCell ⟨w.heap.size+1+1,2,none⟩ (.slice pa pn pk)).setCell ⟨w.heap.size+1+1+1,0,none⟩ (.slice none 0 0)).setCell ⟨w.heap.size+1+1+1+1,0,none⟩ (.iface 66 (.int .i64 E))) from t_ (t_ (t_ (t_ (t_ (b_ HWV.out HBA.out) (by omega)) (by omega)) (by omega)) (by omega)) (by omega))
  go_wp2
  exact bodyPost_ret (v:=.tuple #[.agg #[.int .i64 X.rows,.int .i64 X.cols,.slice pa pn pk],.slice none 0 0,.iface 66 (.int .i64 E)]) (by simp[results,Tryz.results82,go_sem,t0,t1,t2,t3,t4]) rfl ⟨_,by rw[n_ HE.out],HM.out,HB.out⟩
end Go.Proofs.YtpniemnfdleiialGreat
