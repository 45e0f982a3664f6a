/- What number and matrix of package keep's reader do. -/
import Derived.Test.YtaajlggpjholeajDoorPkKpM
import Derived.Test.YtaajlggpjholeajDoorPkLForth
import Derived.Deep.RegionHeld3
namespace Go.Proofs.YtaajlggpjholeajDoor
open Go.RowKit
def nxN:Option (List Int)→Int×Option (List Int)
 |none=>(0,none)
 |some t=>match rd1 t with
  |none=>(0,none)
  |some (x,t')=>(x,some t')
def nxM:Option (List Int)→Mx×Option (List Int)
 |none=>(⟨0,0,[]⟩,none)
 |some t=>match rdM t with
  |none=>(⟨0,0,[]⟩,none)
  |some (x,t')=>(x,some t')
theorem nxN_no{t:List Int}(h:rd1 t=none):nxN (some t)=(0,none):=by simp[nxN,h]
theorem nxN_yes{t t':List Int}{x:Int}(h:rd1 t=some (x,t')):nxN (some t)=(x,some t'):=by simp[nxN,h]
theorem nxM_no{t:List Int}(h:rdM t=none):nxM (some t)=(⟨0,0,[]⟩,none):=by simp[nxM,h]
theorem nxM_yes{t t':List Int}{x:Mx}(h:rdM t=some (x,t')):nxM (some t)=(x,some t'):=by simp[nxM,h]
theorem grow_two{w w1:World}{B:Nat}(h:Below w.heap.size w w1)(x y:Value):w.grownBy ((w1.setCell ⟨B,1,none⟩ x).setCell ⟨B,2,none⟩ y) (some B):=by
 have h0:w.grownBy w1 (some B):=⟨h.os,h.tape,h.output,h.size,fun k hk _=>h.block k hk⟩
 exact grw_trans (grw_trans h0 (grw_set w1 B 1 x) (fun k e=>.inr (Option.some.inj e).symm)) (grw_set _ B 2 y) (fun k e=>.inr (Option.some.inj e).symm)
theorem RnEnd.form{w w':World}{t:List Int}{e:Ending}(h:RnEnd w w' t e):Below w.heap.size w w'∧∃x y z,e=.returned (.tuple #[x,y,z])∧((x=.int .i64 0∧y=.int .i64 0∧z=.iface 33 (.int .i64 7)∧rd1 t=none)∨∃u c,x=.int .i64 u∧y=.int .i64 ((c:Nat):Int)∧z=.nilIface∧c≤t.length∧rd1 t=some (u,t.drop c)):=by
 refine ⟨h.1,?_⟩
 rcases h.2 with ⟨rfl,hno⟩|⟨u,c,rfl,hc,hyes⟩
 ·exact ⟨_,_,_,rfl,.inl ⟨rfl,rfl,rfl,hno⟩⟩
 ·exact ⟨_,_,_,rfl,.inr ⟨u,c,rfl,rfl,rfl,hc,hyes⟩⟩
set_option maxHeartbeats 8000000 in
set_option maxRecDepth 100000 in
theorem knextn_any(v:Value)(l:List Int)(B:Nat)(st:Option (List Int))(w0 w:World)(hv:IsBys w0 v l)(h0:Below w0.heap.size w0 w)(h:KRd w B v l st):Calls Tryd.prog 53 #[.pointer (some ⟨B,0,none⟩),.func (.func 54) #[] #[]] w fun e w'=>e=.returned (.int .i64 (nxN st).1)∧KRd w' B v l (nxN st).2∧w.grownBy w' (some B):=by
 have HST:=h_ (kstopped_any v l B st w h)
 cases st with
 |none=>
  have H:=h_ h
  clear h hv h0
  go_enter Tryd.func53,Tryd.ntmps53
  go_wp2_with (go_at_call 25;refine HST.out.mono ?_;rintro e w' ⟨rfl,rfl⟩)
  go_ret
  exact ⟨rfl,H.out,rfl,rfl,rfl,Nat.le_refl _,fun _ _ _=>rfl⟩
 |some t=>
  obtain ⟨a,ha,hk,ht⟩:=h.cells
  replace ht:=ht t rfl
  have hk:WBk w B #[v,.int .i64 (a:Int),.nilIface] 63:=hk
  have hvw:=hv.u_ h0
  obtain ⟨va,vn,vk,rfl⟩:∃a n k,v=.slice a n k:=by obtain ⟨a,k,h⟩:=hv.shape;exact ⟨a,_,k,h⟩
  have hlen:=hv.len
  unfold maxLen at hlen
  obtain ⟨xa,hxa⟩:=gM ((a:Int))
  obtain ⟨ra,rn,rk,hsl,hri⟩:=by_l hvw a xa hxa ha
  rw[←ht]at hri
  rw[←hxa]at hk
  have HK:=h_ hk
  have HC:=h_ (fun W (hb:Below w.heap.size w W)=>wreadnum_any (.slice ra rn rk) t W (hri.u_ hb))
  have c0:w.cell? ⟨B,0,none⟩=some (.slice va vn vk):=hk.c rfl
  have c1:w.cell? ⟨B,1,none⟩=some (.int .i64 xa):=hk.c rfl
  have hx0:0≤xa:=by omega
  have hx1:xa≤9223372036854775807:=by omega
  have HLX:=h_ (show (l.length:Int)≤9223372036854775807 by omega)
  have HA:=h_ (And.intro hxa (And.intro ha ht))
  have HLN:=h_ (show t.length=l.length - a by rw[ht,List.length_drop])
  clear h hv h0 hk ha hxa hri hvw hlen ht
  go_enter Tryd.func53,Tryd.ntmps53
  go_wp2_with (go_at_call 25;refine HST.out.mono ?_;rintro e w' ⟨rfl,rfl⟩)
  have HCE:=h_ (show ∀W',Below w'.heap.size w' W'→W'.cell? ⟨B,0,none⟩=some (.slice va vn vk)∧W'.cell? ⟨B,1,none⟩=some (.int .i64 xa) from fun W' hb=>⟨HK.out.kept hb|>.c rfl,HK.out.kept hb|>.c rfl⟩)
  go_cut [6,7,8] from 13 to 26 (fun x y z wx=>Below w'.heap.size w' wx∧((x=.int .i64 0∧y=.int .i64 0∧z=.iface 33 (.int .i64 7)∧rd1 t=none)∨∃u c,x=.int .i64 u∧y=.int .i64 ((c:Nat):Int)∧z=.nilIface∧c≤t.length∧rd1 t=some (u,t.drop c)))
  case first=>
   go_region_held3 (fun W'=>W'.cell? ⟨B,0,none⟩=some (.slice va vn vk)∧W'.cell? ⟨B,1,none⟩=some (.int .i64 xa))
    ((refine HCE.out _ ?_;repeat' (first|with_reducible exact Below.refl _ _|with_reducible refine d_ ?_|with_reducible refine bel_on ?_ hbz)))
    ((go_at_call 54;refine ((HC.out _ (by repeat' (first|with_reducible exact Below.refl _ _|with_reducible refine d_ ?_))).mono (fun e W h=>h.form)).mono ?_;rintro e wz ⟨hbz,x,y,z,rfl,hxyz⟩))
   all_goals
    have HZ:=h_ (show Below w'.heap.size w' wz from bel_on (by repeat' (first|with_reducible exact Below.refl _ _|with_reducible refine d_ ?_)) hbz)
    have HE:=h_ hxyz
    clear hbz hxyz
    go_wp2
    go_meet
    exact ⟨HZ.out,HE.out⟩
  case rest=>
   obtain ⟨hbc,hcut⟩:=hcut
   have HB:=h_ hbc
   have HK2:=h_ (HK.out.kept hbc)
   have d1:wc.cell? ⟨B,1,none⟩=some (.int .i64 xa):=HK2.out.c rfl
   have d2:wc.cell? ⟨B,2,none⟩=some .nilIface:=HK2.out.c rfl
   have f1:=HK2.out.f 1
   have f2:=HK2.out.f 2
   clear hbc
   rcases hcut with ⟨rfl,rfl,rfl,hno⟩|⟨u,c,rfl,rfl,rfl,hc,hyes⟩
   ·have HE:=h_ hno
    clear hno
    have HF:=h_ (show KRd ((wc.setCell ⟨B,1,none⟩ (.int .i64 xa)).setCell ⟨B,2,none⟩ (.iface 33 (.int .i64 7))) B (.slice va vn vk) l none from ⟨a,HA.out.2.1,by rw[←HA.out.1];exact (HK2.out.set 1 _).set 2 _⟩)
    go_wp2
    go_ret
    rw[nxN_no HE.out]
    exact ⟨rfl,HF.out,grow_two HB.out _ _⟩
   ·have HE:=h_ hyes
    have hcx:xa+(c:Int)≤9223372036854775807:=by have:=HLX.out;have:=HLN.out;have:=HA.out;omega
    have HF:=h_ (show KRd ((wc.setCell ⟨B,1,none⟩ (.int .i64 (xa+(c:Int)))).setCell ⟨B,2,none⟩ .nilIface) B (.slice va vn vk) l (some (t.drop c)) from ⟨a+c,by have:=HLN.out;have:=HA.out;omega,by rw[HA.out.2.2,List.drop_drop],by
     rw[show ((a+c:Nat):Int)=xa+(c:Int) by rw[HA.out.1];omega]
     exact (HK2.out.set 1 _).set 2 _⟩)
    clear hyes hc
    go_wp2
    go_ret
    rw[nxN_yes HE.out]
    exact ⟨rfl,HF.out,grow_two HB.out _ _⟩
end Go.Proofs.YtaajlggpjholeajDoor
