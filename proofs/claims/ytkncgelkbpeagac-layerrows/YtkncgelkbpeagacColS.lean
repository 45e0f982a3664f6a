/- The sum of a column. No program in sight. -/
import Derived.Test.YtkncgelkbpeagacNum
namespace Go.Proofs.Ytkncgelkbpeagac
/-- A column's sum behind so many rows. -/
def colS (cs : List Int) (C q : Nat) : Nat → Int
  | 0 => 0
  | k + 1 => ad (colS cs C q k) ((cs[k * C + q]?).getD 0)
end Go.Proofs.Ytkncgelkbpeagac
