/- What a row's list gives of strconv.ErrRange: the variable holds an error. -/
import Derived.Test.YticlkjkombgchaaGreatDoorWhole4
import Derived.Stop.LaidErr
import Derived.MakeChecks
namespace Go.Proofs.YticlkjkombgchaaGreatDoor
open Go.ChangeShapes Go.WideShapes Go.RowKit

theorem Tryz.gER : Tryz.prog.globalNamed "strconv.ErrRange" = some 0 := by kernel_rfl
theorem Tryz.gERType : (Tryz.prog.globals[0]?).map (·.type) = some 35 := by kernel_rfl
theorem Tryz.cellsES : Tryz.prog.cellsOf 172 = 1 := by kernel_rfl
theorem Tryz.cellsStr : Tryz.prog.cellsOf 9 = 1 := by kernel_rfl
theorem Tryz.starES : "*" ++ "errors.errorString" = "*errors.errorString" := by decide
theorem Tryz.rowES (u : TypeId) (h : Tryz.prog.typeName? 3 u = some "*errors.errorString") : u = 170 :=
  typeName_ptr_named (nm := "errors.errorString") (by rw [Tryz.starES]; kernel_rfl) (by kernel_rfl) (by decide) u (by rw [Tryz.starES]; exact h)

theorem wf64 {zs : List Int} (h : ∀ n ∈ zs, (Lit.int .i64 n).wf = true) : I64 zs := fun z hz => by
  have := h z hz
  have e1 : IntKind.i64.min = -9223372036854775808 := rfl
  have e2 : IntKind.i64.max = 9223372036854775807 := rfl
  simp only [Lit.wf, Bool.and_eq_true, decide_eq_true_eq] at this
  omega

theorem laidMet_tail {P : Program} {x : String × DataW Unit} {r : List (String × DataW Unit)} {W : World} (h : laidMet P (x :: r) W) : laidMet P r W := by
  obtain ⟨ps, ⟨g, t, cs, fuel, p, q, _, _, _, _, hr, rfl⟩, hnd, hrows⟩ := h
  exact ⟨q, hr, (List.nodup_append.1 hnd).2.1, fun b off hm => hrows b off (List.mem_append_right _ hm)⟩

/-- .. where it stands fourth on the list. -/
theorem hasER_4 {W : World} {a b c : String × DataW Unit} {text : List UInt8} {r : List (String × DataW Unit)}
    (h : laidMet Tryz.prog (a :: b :: c :: ("strconv.ErrRange", .iface "*errors.errorString" (.ptr (.agg [.lit (.string text)]))) :: r) W) : HasER W := by
  obtain ⟨a1, s1, hv1, _, _, _⟩ := laid_sentinel (laidMet_tail (laidMet_tail (laidMet_tail h))) Tryz.gER Tryz.gERType Tryz.underlying35 Tryz.rowES Tryz.underlying170 Tryz.underlying172 rfl rfl Tryz.underlying9 Tryz.cellsES Tryz.cellsStr
  exact ⟨170, a1, by simpa using World.var?_cell Tryz.gER hv1 0⟩
end Go.Proofs.YticlkjkombgchaaGreatDoor
