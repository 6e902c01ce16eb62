/- What a row's list gives of the decoder's tables, and the world's shape of bytealg.MaxLen. -/
import Derived.Test.YtpccakalkcgdeaaDoorVi
import Derived.Test.YtpccakalkcgdeaaDoorShelfM
import Derived.Lib.LaidU8T
import Derived.PinnedBridge
namespace Go.Proofs.YtpccakalkcgdeaaDoor
open Go.ChangeShapes Go.WideShapes Go.RowKit Go.Shelf Go.Lib

theorem libW_of_laid {w : World} (h : laidMet Tryd.prog [("unicode/utf8.acceptRanges", Rows.laid_unicode_utf8_acceptRanges), ("unicode/utf8.first", Rows.laid_unicode_utf8_first)] w) (hs : w.ShapedOpen Tryd.prog) : LibW w := by
  have h1 : VarReads Tryd.prog w "unicode/utf8.acceptRanges" Rows.laid_unicode_utf8_acceptRanges := Lib.laidMet.reads h (.head _)
  have h2 : VarReads Tryd.prog w "unicode/utf8.first" Rows.laid_unicode_utf8_first := Lib.laidMet.reads h (.tail _ (.head _))
  have e1 : Rows.laid_unicode_utf8_acceptRanges (H := Unit) = acceptData := by kernel_rfl
  have e2 : Rows.laid_unicode_utf8_first = firstData := Pinned.utf8First_eq
  rw [e1] at h1
  rw [e2] at h2
  exact ⟨utf8Tabs_of_readsT (U8Types.of260 { Tryd.lays197 with }) ⟨by kernel_rfl, by kernel_rfl, by kernel_rfl, by kernel_rfl, by kernel_rfl, by kernel_rfl, by kernel_rfl⟩ h2 h1, Tryd.laysM144.s1_3 w hs⟩
end Go.Proofs.YtpccakalkcgdeaaDoor
