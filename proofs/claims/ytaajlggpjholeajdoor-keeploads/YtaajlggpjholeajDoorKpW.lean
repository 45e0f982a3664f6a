/- What ReadNumber and ReadMatrix of package wire come to. -/
import Derived.Test.YtaajlggpjholeajDoorWrC5
import Derived.Deep.RegionHeld3
namespace Go.Proofs.YtaajlggpjholeajDoor
open Go.RowKit
def RnEnd (w w':World) (l:List Int) (e:Ending):Prop:=Below w.heap.size w w'∧((e=.returned (.tuple #[.int .i64 0,.int .i64 0,.iface 33 (.int .i64 7)])∧rd1 l=none)∨∃x c,e=.returned (.tuple #[.int .i64 x,.int .i64 ((c:Nat):Int),.nilIface])∧c≤l.length∧rd1 l=some (x,l.drop c))
def RmEnd (w w':World) (l:List Int) (e:Ending):Prop:=Below w.heap.size w w'∧((e=.returned (.tuple #[.agg #[.int .i64 0,.int .i64 0,.slice none 0 0],.int .i64 0,.iface 33 (.int .i64 7)])∧rdM l=none)∨∃m s c,e=.returned (.tuple #[.agg #[.int .i64 m.rows,.int .i64 m.cols,s],.int .i64 ((c:Nat):Int),.nilIface])∧OwnZ w' w.heap.size s m.cells∧c≤l.length∧rdM l=some (m,l.drop c))
set_option maxHeartbeats 8000000 in
set_option maxRecDepth 100000 in
theorem wreadnum_any(v:Value)(l:List Int)(w:World)(hv:IsBys w v l):Calls Tryd.prog 54 #[v] w (fun e w'=>RnEnd w w' l e):=by
 obtain ⟨va,vn,vk,rfl⟩:∃a n k,v=.slice a n k:=by obtain ⟨a,k,h⟩:=hv.shape;exact ⟨a,_,k,h⟩
 obtain ⟨W1,hW1⟩:=gM (w.alloc (.cells #[.slice va vn vk,.int .i64 0] 128))
 have HW1:=h_ hW1
 have HB1:=h_ (show Below w.heap.size w W1 by rw[hW1];exact o_ _ _)
 have HR1:=h_ (show WBk W1 w.heap.size #[.slice va vn vk,.int .i64 0] 128 by rw[hW1];exact WBk.new _ _ _)
 have HC:=h_ (wnumber_any (.slice va vn vk) l w.heap.size 0 0 W1 (hv.u_ HB1.out) HR1.out rfl (Nat.zero_le _))
 unfold NumEnd at HC
 rw[List.drop_zero]at HC
 clear hv hW1
 cases hr:rd1 l with
 |none=>
  rw[hr]at HC
  have HR:=h_ hr
  clear hr
  go_enter Tryd.func54,Tryd.ntmps54
  go_wp2_with (go_at_call 66;rw[←HW1.out];refine HC.out.mono ?_;rintro e w2 ⟨hg,x,rfl⟩;have HG:=h_ hg;clear hg)
  exact bodyPost_ret (v:=.tuple #[.int .i64 0,.int .i64 0,.iface 33 (.int .i64 7)]) (by simp[results,Tryd.results54,go_sem]) rfl ⟨HB1.out.grown HG.out HB1.out.size (fun k e=>by rw[←Option.some.inj e];exact Nat.le_refl _),.inl ⟨rfl,HR.out⟩⟩
 |some p=>
  obtain ⟨x,t⟩:=p
  rw[hr]at HC
  have HR:=h_ hr
  clear hr
  go_enter Tryd.func54,Tryd.ntmps54
  go_wp2_with (go_at_call 66;rw[←HW1.out];refine HC.out.mono ?_;rintro e w2 ⟨hg,rfl,c,hc,ht,hk⟩;have HG:=h_ hg;have HT:=h_ (And.intro hc ht);have HK:=h_ hk;have k1:=hk.c (i:=1) (x:=.int .i64 (c:Int)) rfl;clear hg hc ht hk)
  go_region
  go_wp2
  exact bodyPost_ret (v:=.tuple #[.int .i64 x,.int .i64 (c:Int),.nilIface]) (by simp[results,Tryd.results54,go_sem]) rfl ⟨r_ (HB1.out.grown HG.out HB1.out.size (fun k e=>by rw[←Option.some.inj e];exact Nat.le_refl _)),.inr ⟨x,c,rfl,HT.out.1,by rw[←HT.out.2];exact HR.out⟩⟩
set_option maxHeartbeats 16000000 in
set_option maxRecDepth 100000 in
theorem wreadmat_any(v:Value)(l:List Int)(w:World)(hv:IsBys w v l):Calls Tryd.prog 56 #[v] w (fun e w'=>RmEnd w w' l e):=by
 obtain ⟨va,vn,vk,rfl⟩:∃a n k,v=.slice a n k:=by obtain ⟨a,k,h⟩:=hv.shape;exact ⟨a,_,k,h⟩
 obtain ⟨W0,hW0⟩:=gM (w.alloc (.cells #[.int .i64 0,.int .i64 0,.slice none 0 0] 51))
 obtain ⟨W1,hW1⟩:=gM (W0.alloc (.cells #[.slice va vn vk,.int .i64 0] 128))
 have HS0:=h_ (show W0.heap.size=w.heap.size+1 by rw[hW0,World.size_alloc])
 have HS1:=h_ (show W1.heap.size=w.heap.size+2 by rw[hW1,World.size_alloc,HS0.out])
 have HW1:=h_ (show W1=(w.alloc (.cells #[.int .i64 0,.int .i64 0,.slice none 0 0] 51)).alloc (.cells #[.slice va vn vk,.int .i64 0] 128) by rw[hW1,hW0])
 have HB1:=h_ (show Below w.heap.size w W1 by rw[hW1,hW0];exact bel_on (o_ _ _) (o_ _ _))
 have HQ1:=h_ (show WBk W1 w.heap.size #[.int .i64 0,.int .i64 0,.slice none 0 0] 51 by rw[hW1,hW0];exact (WBk.new _ _ _).kept (o_ _ _))
 have HR1:=h_ (show WBk W1 (w.heap.size+1) #[.slice va vn vk,.int .i64 0] 128 by rw[←HS0.out,hW1];exact WBk.new _ _ _)
 have HC:=h_ (wmatrix_any (.slice va vn vk) l (w.heap.size+1) 0 0 w W1 hv HB1.out (Nat.le_succ _) HR1.out rfl (Nat.zero_le _))
 unfold MatEnd at HC
 rw[List.drop_zero]at HC
 clear hv hW1 hW0
 go_enter Tryd.func56,Tryd.ntmps56
 go_wp2_with fail
 rw[←HW1.out]
 refine HC.out.mono ?_
 rintro e w2 ⟨hg,he⟩
 have HG:=h_ hg
 have HB2:=h_ (show Below w.heap.size w w2 from HB1.out.grown hg HB1.out.size (fun k e=>by rw[←Option.some.inj e];exact Nat.le_succ _))
 have HQ2:=h_ (show WBk w2 w.heap.size #[.int .i64 0,.int .i64 0,.slice none 0 0] 51 from (hg.block _ HQ1.out.lt (fun e=>by have:=Option.some.inj e;omega)).trans HQ1.out)
 have HZ2:=h_ (show w.heap.size+2≤w2.heap.size by have:=hg.size;have:=HS1.out;omega)
 clear hg
 rcases he with ⟨rfl,hno⟩|⟨b,s,a',rfl,hs,ha,hk,hyes⟩
 ·have HNO:=h_ hno
  have HQ3:=h_ (HQ2.out.kept (o_ w2 (.cells #[.int .i64 0,.int .i64 0,.slice none 0 0] 51)))
  have HB3:=h_ (bel_on HB2.out (o_ w2 (.cells #[.int .i64 0,.int .i64 0,.slice none 0 0] 51)))
  obtain ⟨z0,z1,z2⟩:=HQ3.out.f3
  obtain ⟨y0,y1,y2⟩:=HQ3.out.q3
  have HF:=h_ (bk3 HQ3.out (.int .i64 0) (.int .i64 0) (.slice none 0 0))
  obtain ⟨q0,q1,q2⟩:=HF.out.q3
  clear hno
  go_wp2
  exact bodyPost_ret (v:=.tuple #[.agg #[.int .i64 0,.int .i64 0,.slice none 0 0],.int .i64 0,.iface 33 (.int .i64 7)]) (by simp[results,Tryd.results56,go_sem,q0,q1,q2]) rfl ⟨HB3.out.grown (grw3 _ _ _ _ _) HB3.out.size (fun k e=>by rw[←Option.some.inj e];exact Nat.le_refl _),.inl ⟨rfl,HNO.out⟩⟩
 ·have HYES:=h_ hyes
  have HA:=h_ ha
  obtain ⟨sa,sk,hse⟩:=hs.shape
  obtain ⟨sn,hsn⟩:=gN (b.cells.length)
  rw[hsn]at hse
  subst hse
  obtain ⟨r,hr⟩:=gN (b.rows)
  obtain ⟨c,hc⟩:=gN (b.cols)
  rw[hr,hc]
  have HRC:=h_ (And.intro hr hc)
  obtain ⟨j,hj⟩:=gN ((a':Int))
  have HJ:=h_ hj
  rw[hj]at hk
  obtain ⟨W3,hW3⟩:=gM (w2.alloc (.cells #[.int .i64 r,.int .i64 c,.slice sa sn sk] 51))
  have HW3:=h_ hW3
  have HB23:=h_ (show Below w2.heap.size w2 W3 by rw[hW3];exact o_ _ _)
  have HM3:=h_ (show WBk W3 w2.heap.size #[.int .i64 r,.int .i64 c,.slice sa sn sk] 51 by rw[hW3];exact WBk.new _ _ _)
  have HQ3:=h_ (HQ2.out.kept HB23.out)
  have HK3:=h_ (hk.kept HB23.out)
  have HB3:=h_ (bel_on HB2.out HB23.out)
  have HS3:=h_ (hs.u_ HB23.out)
  have HNEQ:=h_ (show w.heap.size<W1.heap.size by rw[HS1.out];omega)
  obtain ⟨z0,z1,z2⟩:=HQ3.out.f3
  obtain ⟨y0,y1,y2⟩:=HQ3.out.q3
  have HKP:=h_ (show ∀W',W3.grownBy W' (some w.heap.size)→W'.cell? ⟨w2.heap.size,0,none⟩=some (.int .i64 r)∧W'.cell? ⟨w2.heap.size,1,none⟩=some (.int .i64 c)∧W'.cell? ⟨w2.heap.size,2,none⟩=some (.slice sa sn sk)∧W'.cell? ⟨w.heap.size+1,1,none⟩=some (.int .i64 j) from fun W' hg=>by
   have h1:WBk W' w2.heap.size _ _:=(hg.block _ HM3.out.lt (fun e=>by have:=Option.some.inj e;have:=HZ2.out;omega)).trans HM3.out
   have h2:WBk W' (w.heap.size+1) _ _:=(hg.block _ HK3.out.lt (fun e=>by have:=Option.some.inj e;omega)).trans HK3.out
   exact ⟨h1.c rfl,h1.c rfl,h1.c rfl,h2.c rfl⟩)
  obtain ⟨m0,m1,m2,d0⟩:=HKP.out W3 ⟨rfl,rfl,rfl,Nat.le_refl _,fun _ _ _=>rfl⟩
  have HF:=h_ (bk3 HQ3.out (.int .i64 r) (.int .i64 c) (.slice sa sn sk))
  obtain ⟨q0,q1,q2⟩:=HF.out.q3
  have HGF:=h_ (grw3 W3 w.heap.size (.int .i64 r) (.int .i64 c) (.slice sa sn sk))
  have HG0:=h_ (show W3.grownBy W3.drew (some w.heap.size) from ⟨rfl,rfl,rfl,Nat.le_refl _,fun _ _ _=>rfl⟩)
  have HG1:=h_ (show W3.grownBy W3 (some w.heap.size) from ⟨rfl,rfl,rfl,Nat.le_refl _,fun _ _ _=>rfl⟩)
  clear hs ha hk hyes hr hc hj hsn hW3
  go_wp2
  rw[←HW3.out]
  go_region_held3 (fun W'=>W'.cell? ⟨w2.heap.size,0,none⟩=some (.int .i64 r)∧W'.cell? ⟨w2.heap.size,1,none⟩=some (.int .i64 c)∧W'.cell? ⟨w2.heap.size,2,none⟩=some (.slice sa sn sk)∧W'.cell? ⟨w.heap.size+1,1,none⟩=some (.int .i64 j))
   ((refine HKP.out _ ?_;first|with_reducible exact grown_drew HGF.out|with_reducible exact HGF.out|with_reducible exact HG0.out|with_reducible exact HG1.out))
   (fail)
  go_wp2
  refine bodyPost_ret (v:=.tuple #[.agg #[.int .i64 r,.int .i64 c,.slice sa sn sk],.int .i64 j,.nilIface]) (by simp[results,Tryd.results56,go_sem,q0,q1,q2]) rfl ⟨r_ (HB3.out.grown HGF.out HB3.out.size (fun k e=>by rw[←Option.some.inj e];exact Nat.le_refl _)),.inr ⟨b,.slice sa sn sk,a',by rw[HRC.out.1,HRC.out.2,HJ.out],?_,HA.out,HYES.out⟩⟩
  exact (HS3.out.keptB HGF.out HNEQ.out).base (Nat.le_of_lt HNEQ.out)
end Go.Proofs.YtaajlggpjholeajDoor
