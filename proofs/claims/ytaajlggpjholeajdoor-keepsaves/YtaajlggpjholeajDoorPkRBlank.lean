/- What Blank of the document's answer comes to: a matrix of noughts in new memory. -/
import Derived.Test.YtaajlggpjholeajDoorRFault
import Derived.Test.YtaajlggpjholeajDoorPlain
import Derived.StillTailTactics
import Derived.Test.YtaajlggpjholeajDoorMCheckAll
import Derived.Laws.AppendOwn
import Derived.Shelf.Abstract
import Derived.Deep.RegionHeld3
namespace Go.Proofs.YtaajlggpjholeajDoor
open Go.RowKit
theorem region_tail{P:Program}{id:Nat}{Q:Exit→Act→World→Prop}{a:Act}{w:World}{l:List Oper}(n:Nat)(hm:P.follows .mixedOrders=true)(hB:Region.lexTailB .any l.toArray n=true)
  (h:wpStill P l.toArray w.drew (fun a'=>wpList P l.toArray Q (l.drop n) a' w.drew) (l.take n) a):(Code.region id l.toArray true).wp P Q a w:=wp_region_still_tail n hm hB h
def noMx:Mx:=⟨0,0,[]⟩
theorem box_new(V:World)(cs:Array Value)(t:TypeId){B j:Nat}{x:Value}(hB:V.heap.size=B)(h:cs[j]?=some x):(V.alloc (.cells cs t)).cell? ⟨B,j,none⟩=some x:=by
 subst hB;exact (World.cell?_alloc_at _ _ _ _ rfl).trans h
end Go.Proofs.YtaajlggpjholeajDoor
