/- What package keep's reader does: stopped, demand, number, matrix. -/
import Derived.Test.YtaajlggpjholeajDoorKpW
import Derived.Test.YtaajlggpjholeajDoorKpI
import Derived.Test.YtaajlggpjholeajDoorKpP
import Derived.Shelf.Abstract
import Derived.Test.YtaajlggpjholeajDoorPkLBox
namespace Go.Proofs.YtaajlggpjholeajDoor
open Go.RowKit
def KRd (w:World) (B:Nat) (v:Value) (l:List Int) (st:Option (List Int)):Prop:=∃a:Nat,a≤l.length∧match st with
 |none=>WBk w B #[v,.int .i64 (a:Int),.iface 33 (.int .i64 7)] 63
 |some t=>t=l.drop a∧WBk w B #[v,.int .i64 (a:Int),.nilIface] 63
theorem KRd.lt{w:World}{B:Nat}{v:Value}{l:List Int}{st:Option (List Int)}(h:KRd w B v l st):B<w.heap.size:=by
 obtain ⟨a,_,h⟩:=h
 cases st with
 |none=>exact WBk.lt h
 |some t=>exact h.2.lt
theorem KRd.u_{w w':World}{B N:Nat}{v:Value}{l:List Int}{st:Option (List Int)}(h:KRd w B v l st)(hb:Below N w w')(hB:B<N):KRd w' B v l st:=by
 obtain ⟨a,ha,h⟩:=h
 refine ⟨a,ha,?_⟩
 cases st with
 |none=>exact WBk.bel h hb hB
 |some t=>exact ⟨h.1,h.2.bel hb hB⟩
theorem KRd.kept{w w':World}{B:Nat}{v:Value}{l:List Int}{st:Option (List Int)}(h:KRd w B v l st)(hb:Below w.heap.size w w'):KRd w' B v l st:=h.u_ hb h.lt
def stV:Option (List Int)→Value
 |none=>.iface 33 (.int .i64 7)
 |some _=>.nilIface
theorem KRd.cells{w:World}{B:Nat}{v:Value}{l:List Int}{st:Option (List Int)}(h:KRd w B v l st):∃a:Nat,a≤l.length∧WBk w B #[v,.int .i64 (a:Int),stV st] 63∧∀t,st=some t→t=l.drop a:=by
 obtain ⟨a,ha,h⟩:=h
 refine ⟨a,ha,?_⟩
 cases st with
 |none=>exact ⟨h,fun t e=>by cases e⟩
 |some t=>exact ⟨h.2,fun t' e=>by cases e;exact h.1⟩
theorem KRd.of{w:World}{B:Nat}{v:Value}{l:List Int}{st:Option (List Int)}{a:Nat}(ha:a≤l.length)(h:WBk w B #[v,.int .i64 (a:Int),stV st] 63)(ht:∀t,st=some t→t=l.drop a):KRd w B v l st:=by
 refine ⟨a,ha,?_⟩
 cases st with
 |none=>exact h
 |some t=>exact ⟨ht t rfl,h⟩
theorem KRd.stop{w:World}{B:Nat}{v:Value}{l:List Int}{st:Option (List Int)}(h:KRd w B v l st):KRd (w.setCell ⟨B,2,none⟩ (.iface 33 (.int .i64 7))) B v l none:=by
 obtain ⟨a,ha,h,_⟩:=h.cells
 exact ⟨a,ha,h.set 2 _⟩
set_option maxHeartbeats 4000000 in
set_option maxRecDepth 100000 in
theorem kstopped_any(v:Value)(l:List Int)(B:Nat)(st:Option (List Int))(w:World)(h:KRd w B v l st):Calls Tryd.prog 25 #[.pointer (some ⟨B,0,none⟩)] w fun e w'=>e=.returned (.bool st.isNone)∧w'=w:=by
 obtain ⟨a,ha,h,_⟩:=h.cells
 have c2:w.cell? ⟨B,2,none⟩=some (stV st):=h.c rfl
 clear h ha
 cases st with
 |none=>
  have c3:w.cell? ⟨B,2,none⟩=some (.iface 33 (.int .i64 7)):=c2
  clear c2
  have HS:=h_ (is_stop w)
  go_enter Tryd.func25,Tryd.ntmps25
  go_wp2_with (go_at_call 41;refine HS.out.mono ?_;rintro e w' ⟨rfl,rfl⟩)
  go_ret
  exact ⟨rfl,rfl⟩
 |some t=>
  have c3:w.cell? ⟨B,2,none⟩=some .nilIface:=c2
  clear c2
  have HS:=h_ (is_going w)
  go_enter Tryd.func25,Tryd.ntmps25
  go_wp2_with (go_at_call 41;refine HS.out.mono ?_;rintro e w' ⟨rfl,rfl⟩)
  go_ret
  exact ⟨rfl,rfl⟩
def dmS (b:Bool) (st:Option (List Int)):Option (List Int):=if b then st else none
set_option maxHeartbeats 4000000 in
set_option maxRecDepth 100000 in
theorem kdemand_any(v:Value)(l:List Int)(B:Nat)(b:Bool)(st:Option (List Int))(w:World)(h:KRd w B v l st):Calls Tryd.prog 38 #[.pointer (some ⟨B,0,none⟩),.bool b] w fun e w'=>e=.returned (.tuple #[])∧KRd w' B v l (dmS b st)∧w.grownBy w' (some B):=by
 cases b with
 |true=>
  have H:=h_ h
  clear h
  go_enter Tryd.func38,Tryd.ntmps38
  go_wp2
  go_end0
  exact ⟨rfl,H.out,rfl,rfl,rfl,Nat.le_refl _,fun _ _ _=>rfl⟩
 |false=>
  have H:=h_ h.stop
  have HG:=h_ (grw_set w B 2 (.iface 33 (.int .i64 7)))
  obtain ⟨a,ha,h,_⟩:=h.cells
  have f2:=h.f 2
  have c2:w.cell? ⟨B,2,none⟩=some (stV st):=h.c rfl
  clear h ha
  go_enter Tryd.func38,Tryd.ntmps38
  go_wp2
  go_end0
  exact ⟨rfl,H.out,HG.out⟩
end Go.Proofs.YtaajlggpjholeajDoor
