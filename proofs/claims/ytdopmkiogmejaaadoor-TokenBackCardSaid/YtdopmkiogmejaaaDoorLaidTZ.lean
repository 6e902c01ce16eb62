/- What a row's list gives of the tables that tokens ask for. -/
import Derived.Test.YtdopmkiogmejaaaDoorFA
import Derived.Test.YtdopmkiogmejaaaDoorShelfM
import Derived.Lib.LaidU8
import Derived.Lib.LaidTab
import Derived.Test.YtdopmkiogmejaaaDoorRows
namespace Go.Proofs.YtdopmkiogmejaaaDoor
open Go.ChangeShapes Go.WideShapes Go.RowKit Go.Shelf Go.Lib

theorem sgW_of_reads {w : World} (h : VarReads Tryd.prog w "wattle/token.signKinds" Rows.laid_wattle_token_signKinds) : SgW w := by
  have e : Rows.laid_wattle_token_signKinds (H := Unit) = tabData .i64 sgKinds := by kernel_rfl
  rw [e] at h
  obtain ⟨g, t, cs, fuel, p, h1, h2, h3, h4⟩ := h
  have hg : Tryd.prog.globalNamed "wattle/token.signKinds" = some 0 := by kernel_rfl
  have ht : (Tryd.prog.globals[0]?).map (·.type) = some 67 := by kernel_rfl
  obtain rfl := Option.some.inj (hg.symm.trans h1)
  obtain rfl := Option.some.inj (ht.symm.trans h2)
  have hc := cells_of_tab (k := .i64) (n := 9) (e := 3) (by kernel_rfl) Tryd.underlying3 (by kernel_rfl) (by kernel_rfl) h4
  have hI : TabIs Tryd.prog w "wattle/token.signKinds" .i64 sgKinds := by unfold TabIs; rw [h3, ← hc]
  intro p hp
  exact hI.cell hg p hp
theorem mxW_of_shaped {w : World} (hs : w.ShapedOpen Tryd.prog) : MxW w := Tryd.laysM155.s1_3 w hs
theorem tkW_of_laid {w : World} (h : VarReads Tryd.prog w "wattle/token.signKinds" Rows.laid_wattle_token_signKinds) (hs : w.ShapedOpen Tryd.prog) : TkW w := ⟨mxW_of_shaped hs, sgW_of_reads h⟩
end Go.Proofs.YtdopmkiogmejaaaDoor
