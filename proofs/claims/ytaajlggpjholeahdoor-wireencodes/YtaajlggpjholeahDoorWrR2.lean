/- What SevenAt of the document's answer comes to: a number is read at some place. -/
import Derived.Test.YtaajlggpjholeahDoorWrR1
import Derived.Test.YtaajlggpjholeahDoorWrQ
namespace Go.Proofs.YtaajlggpjholeahDoor
open Go.RowKit
theorem pow27(k:Nat):(2:Int) ^ (7*k)=128 ^ k:=by
 rw[show (128:Int)=2 ^ 7 by decide,Int.pow_mul]
theorem pow_le128{k:Nat}(h:k≤8):(128:Int) ^ (k+1)≤9223372036854775808:=by
 have:k=0∨k=1∨k=2∨k=3∨k=4∨k=5∨k=6∨k=7∨k=8:=by omega
 rcases this with rfl|rfl|rfl|rfl|rfl|rfl|rfl|rfl|rfl<;>decide
theorem rdB_nil(j:Nat)(f:Bool)(P acc:Int):rdB j f P acc []=none:=by cases j<;>rfl
end Go.Proofs.YtaajlggpjholeahDoor
