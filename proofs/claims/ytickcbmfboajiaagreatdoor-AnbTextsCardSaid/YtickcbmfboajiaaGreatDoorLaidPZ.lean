/- What a row's list gives of the table of powers of ten. -/
import Derived.Test.YtickcbmfboajiaaGreatDoorAx5Z
import Derived.Test.YtickcbmfboajiaaGreatDoorFP
import Derived.Lib.LaidTab
import Derived.Test.YtickcbmfboajiaaGreatDoorRows
namespace Go.Proofs.YtickcbmfboajiaaGreatDoor
open Go.ChangeShapes Go.WideShapes Go.RowKit Go.Shelf Go.Lib

theorem pwW_of_laid {W : World} {a b : String × DataW Unit} {r : List (String × DataW Unit)}
    (h : laidMet Tryz.prog (a :: b :: ("internal/strconv.uint64pow10", Rows.laid_internal_strconv_uint64pow10) :: r) W) : PwW W := by
  have e : Rows.laid_internal_strconv_uint64pow10 (H := Unit) = tabData .u64 pow10Tab := by kernel_rfl
  have h2 := laidMet_tail (laidMet_tail h)
  rw [e] at h2
  exact tabIs_of_head (t := 166) (e := 153) (n := 20) Tryz.gPw (by kernel_rfl) (by kernel_rfl) (by kernel_rfl) (by kernel_rfl) (by kernel_rfl) h2
end Go.Proofs.YtickcbmfboajiaaGreatDoor
