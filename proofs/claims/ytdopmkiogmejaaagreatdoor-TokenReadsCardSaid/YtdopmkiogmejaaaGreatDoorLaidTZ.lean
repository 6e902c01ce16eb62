/- What a row's list gives of the tables that tokens ask for. -/
import Derived.Test.YtdopmkiogmejaaaGreatDoorFA
import Derived.Test.YtdopmkiogmejaaaGreatDoorShelfM
import Derived.Lib.LaidU8
import Derived.Lib.LaidTab
import Derived.Test.YtdopmkiogmejaaaGreatDoorRows
namespace Go.Proofs.YtdopmkiogmejaaaGreatDoor
open Go.ChangeShapes Go.WideShapes Go.RowKit Go.Shelf Go.Lib

theorem sgW_of_reads {w : World} (h : VarReads Tryz.prog w "wattle/token.signKinds" Rows.laid_wattle_token_signKinds) : SgW w := by
  have e : Rows.laid_wattle_token_signKinds (H := Unit) = tabData .i64 sgKinds := by kernel_rfl
  rw [e] at h
  obtain ⟨g, t, cs, fuel, p, h1, h2, h3, h4⟩ := h
  have hg : Tryz.prog.globalNamed "wattle/token.signKinds" = some 2 := by kernel_rfl
  have ht : (Tryz.prog.globals[2]?).map (·.type) = some 145 := by kernel_rfl
  obtain rfl := Option.some.inj (hg.symm.trans h1)
  obtain rfl := Option.some.inj (ht.symm.trans h2)
  have hc := cells_of_tab (k := .i64) (n := 9) (e := 3) (by kernel_rfl) Tryz.underlying3 (by kernel_rfl) (by kernel_rfl) h4
  have hI : TabIs Tryz.prog w "wattle/token.signKinds" .i64 sgKinds := by unfold TabIs; rw [h3, ← hc]
  intro p hp
  exact hI.cell hg p hp
theorem mxW_of_shaped {w : World} (hs : w.ShapedOpen Tryz.prog) : MxW w := Tryz.laysM155.s1_3 w hs
theorem tkW_of_laid {w : World} (h : VarReads Tryz.prog w "wattle/token.signKinds" Rows.laid_wattle_token_signKinds) (hs : w.ShapedOpen Tryz.prog) : TkW w := ⟨mxW_of_shaped hs, sgW_of_reads h⟩
end Go.Proofs.YtdopmkiogmejaaaGreatDoor
