/- What StepFault of the document's answer comes to: what is wrong with a step. -/
import Derived.Test.YtaajlggpjholeajDoorPkLBox
import Derived.Test.YtaajlggpjholeajDoorRLFault
import Derived.Test.YtaajlggpjholeajDoorPkLForth
namespace Go.Proofs.YtaajlggpjholeajDoor
open Go.RowKit
theorem shaped_any(va vb:Value)(a b:Mx)(w:World)(hva:M_ w va a)(hvb:M_ w vb b):Calls Tryd.prog 19 #[va,vb] w fun e w'=>e=.returned (.bool (H_ a b))∧Below w.heap.size w w':=by
 obtain ⟨s,rfl,hs⟩:=hva
 obtain ⟨t,rfl,ht⟩:=hvb
 obtain ⟨sa,sn,sk,rfl⟩:=hs.shape
 obtain ⟨ta,tn,tk,rfl⟩:=ht.shape
 unfold H_
 by_cases h1:a.rows=b.rows
 ·by_cases h2:a.cols=b.cols
  ·rw[show decide (a.rows=b.rows∧a.cols=b.cols)=true from decide_eq_true ⟨h1,h2⟩]
   have h1':(a.rows==b.rows)=true:=by simpa using h1
   have h2':(a.cols==b.cols)=true:=by simpa using h2
   clear h1 h2 hs ht
   go_enter Tryd.func19,Tryd.ntmps19
   go_wp2
   go_ret
   exact ⟨rfl,a_ (o_ _ _)⟩
  ·rw[show decide (a.rows=b.rows∧a.cols=b.cols)=false from decide_eq_false (fun h=>h2 h.2)]
   have h1':(a.rows==b.rows)=true:=by simpa using h1
   have h2':(a.cols==b.cols)=false:=by simpa using h2
   clear h1 h2 hs ht
   go_enter Tryd.func19,Tryd.ntmps19
   go_wp2
   go_ret
   exact ⟨rfl,a_ (o_ _ _)⟩
 ·rw[show decide (a.rows=b.rows∧a.cols=b.cols)=false from decide_eq_false (fun h=>h1 h.1)]
  have h1':(a.rows==b.rows)=false:=by simpa using h1
  clear h1 hs ht
  go_enter Tryd.func19,Tryd.ntmps19
  go_wp2
  go_ret
  exact ⟨rfl,a_ (o_ _ _)⟩
end Go.Proofs.YtaajlggpjholeajDoor
