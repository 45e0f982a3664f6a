/- From the rows' listed variables to what Itoa asks: the table of powers of ten is as its text lays it. -/
import Derived.Test.YtlfipljabbgocaaDoorText
import Derived.LaidMore
import Derived.Lib.LaidTab
import Derived.Stop.LaidErr
namespace Go.Proofs.YtlfipljabbgocaaDoor
open Go.RowKit
theorem pow_of_met {W : World} (h : laidMet Tryd.prog [("math/bits.deBruijn32tab", Rows.laid_math_bits_deBruijn32tab), ("math/bits.deBruijn64tab", Rows.laid_math_bits_deBruijn64tab), ("internal/strconv.uint64pow10", Rows.laid_internal_strconv_uint64pow10)] W) : Pow W :=
  Lib.tabIs_of_head (rest := []) (g := 2) (t := 84) (e := 62) (n := 20) (by kernel_rfl) (by kernel_rfl) Tryd.underlying84 Tryd.underlying62 (by kernel_rfl) (by kernel_rfl) h.tail.tail
theorem pow_of_laid {W : World} (h : laidMetH Tryd.prog [("math/bits.deBruijn32tab", Rows.laid_math_bits_deBruijn32tab), ("math/bits.deBruijn64tab", Rows.laid_math_bits_deBruijn64tab), ("internal/strconv.uint64pow10", Rows.laid_internal_strconv_uint64pow10)] W) : Pow W := by
  rw [MakeChecks.laidMetH_plain _ _ _ (by kernel_rfl)] at h
  exact pow_of_met h
end Go.Proofs.YtlfipljabbgocaaDoor
