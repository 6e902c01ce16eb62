/- What a row's list gives of errors.errorType: the variable's one cell. -/
import Derived.Test.YtickcbmfboajiaaGreatDoorFF
import Derived.LaidLaws
import Derived.LaidHandle
import Derived.Stop.Joined
namespace Go.Proofs.YtickcbmfboajiaaGreatDoor
open Go.ChangeShapes Go.WideShapes Go.RowKit

theorem Tryz.et : Tryz.prog.globalNamed "errors.errorType" = some 1 := by kernel_rfl
theorem Tryz.rt : (Tryz.prog.cutTypes.find? (·.1 == "internal/reflectlite.rtype")).map (·.2) = some 121 := by kernel_rfl
theorem Tryz.oneRow : ((List.range 224).filter fun t => Tryz.prog.rowNamed t [101, 114, 114, 111, 114]) = [35] := by kernel_rfl
theorem Tryz.sizeTypes : Tryz.prog.types.size = 224 := by kernel_rfl

theorem hasET_of_handles {W : World} {d : DataW Unit} (hd : d.handleName? = some [101, 114, 114, 111, 114]) (hf : d.funcsIn? = none) (h : handlesMet Tryz.prog [("errors.errorType", d)] W) : HasET W := by
  have h1 := h _ (List.mem_singleton.2 rfl)
  simp only [hf] at h1
  obtain ⟨name, u, ty, e1, e2, e3, e4, e5⟩ := h1
  have en : name = [101, 114, 114, 111, 114] := (Option.some.inj (hd.symm.trans e1)).symm
  subst en
  obtain rfl := Option.some.inj (Tryz.rt.symm.trans e2)
  have hm : ty ∈ (List.range 224).filter fun t => Tryz.prog.rowNamed t [101, 114, 114, 111, 114] := List.mem_filter.2 ⟨List.mem_range.2 (by rw [← Tryz.sizeTypes]; exact e3), e4⟩
  rw [Tryz.oneRow] at hm
  obtain rfl := List.mem_singleton.1 hm
  have hh : typeHandle Tryz.prog 35 = .pointer (some ⟨10, 35, none⟩) := by kernel_rfl
  rw [hh] at e5
  unfold HasET
  simpa using World.var?_cell Tryz.et e5 0
end Go.Proofs.YtickcbmfboajiaaGreatDoor
