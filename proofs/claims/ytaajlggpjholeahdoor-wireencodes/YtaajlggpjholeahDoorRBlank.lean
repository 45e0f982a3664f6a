/- What Blank of the document's answer comes to: a matrix of noughts in new memory. -/
import Derived.Test.YtaajlggpjholeahDoorRFault
import Derived.Test.YtaajlggpjholeahDoorPlain
import Derived.StillTailTactics
namespace Go.Proofs.YtaajlggpjholeahDoor
open Go.RowKit
theorem infoInt:(Tryd.prog.info? 3).map (fun i=>(i.zero,i.size,i.bytes))=some (some (.int .i64 0),1,8):=by kernel_rfl
def zeros (n:Nat):Array Value:=madeCells #[.int .i64 0] n
theorem region_tail{P:Program}{id:Nat}{Q:Exit→Act→World→Prop}{a:Act}{w:World}{l:List Oper}(n:Nat)(hm:P.follows .mixedOrders=true)(hB:Region.lexTailB .any l.toArray n=true)
  (h:wpStill P l.toArray w.drew (fun a'=>wpList P l.toArray Q (l.drop n) a' w.drew) (l.take n) a):(Code.region id l.toArray true).wp P Q a w:=wp_region_still_tail n hm hB h
end Go.Proofs.YtaajlggpjholeahDoor
