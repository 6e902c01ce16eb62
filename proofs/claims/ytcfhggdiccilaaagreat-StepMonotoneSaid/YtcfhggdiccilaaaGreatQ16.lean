/- Texts of mine in one: Ec4. -/
import Derived.BigQuiet
import Derived.Test.YtcfhggdiccilaaaGreatQ15
namespace Go.Proofs.YtcfhggdiccilaaaGreat
section
open Go.RowKit
set_option linter.unusedVariables false
set_option linter.unusedSimpArgs false
def nsB (f : Flat) : Bool := (f.ns != 0) || !f.pre.toList.isEmpty
def condB (f : Flat) : Bool := (f.op != 0) || (!f.text.toList.isEmpty || (f.fold || (f.mark != 0)))
def abB (f : Flat) : Bool := (f.a != 0) || (f.b != 0)
set_option maxRecDepth 100000 in
set_option maxHeartbeats 4000000 in
theorem parts8_any (f : Flat) (a : Option Addr) (n c : Nat) (w : World) (hn : n ≤ 140737488351232) :
    Calls Tryz.prog 87 #[sval f a n c] w (Told (.tuple #[.bool (nsB f), .bool (!f.name.toList.isEmpty), .bool (condB f), .bool (abB f), .bool (decide (0 < n))]) w) := by
  obtain ⟨kind, ns, pre, name, op, text, fold, mark, fa, fb⟩ := f
  have HB1 := Lib.hid ((Below.refl w.heap.size w).alloc (Nat.le_refl _) (.cells #[.int .i64 kind, .int .i64 ns, .string pre, .string name, .int .i64 op, .string text, .bool fold, .int .i64 mark, .int .i64 fa, .int .i64 fb, .slice a n c] 118))
  have B1 := (Blk.alloc (w := w) [.int .i64 kind, .int .i64 ns, .string pre, .string name, .int .i64 op, .string text, .bool fold, .int .i64 mark, .int .i64 fa, .int .i64 fb, .slice a n c] 118)
  have s1 := B1.cell 1 _ rfl
  have s2 := B1.cell 2 _ rfl
  have s3 := B1.cell 3 _ rfl
  have s4 := B1.cell 4 _ rfl
  have s5 := B1.cell 5 _ rfl
  have s6 := B1.cell 6 _ rfl
  have s7 := B1.cell 7 _ rfl
  have s8 := B1.cell 8 _ rfl
  have s9 := B1.cell 9 _ rfl
  have s10 := B1.cell 10 _ rfl
  have qn : decide ((0 : Int) < (n : Int)) = decide (0 < n) := by by_cases h : 0 < n <;> simp [h]
  unfold nsB condB abB sval
  dsimp only
  clear B1
  generalize h2 : pre.toList.isEmpty = r2
  generalize h3 : name.toList.isEmpty = r3
  generalize h5 : text.toList.isEmpty = r5
  rcases h1 : (ns != 0) with _ | _
  · rcases h7 : (fa != 0) with _ | _
    · rcases h4 : (op != 0) with _ | _
      · rcases r5 with _ | _
        · go_enter Tryz.func87, Tryz.ntmps87
          go_wp2
          go_quiet (fail)
          go_wp2
          refine bodyPost_ret (v := .tuple #[.bool (!r2), .bool (!r3), .bool true, .bool (fb != 0), .bool (decide (0 < n))]) (by simp [results, Tryz.results87, go_sem]) rfl ⟨by simp, ⟨HB1.out.os, HB1.out.tape, HB1.out.output, HB1.out.size, HB1.out.block⟩⟩
        · rcases fold with _ | _
          · go_enter Tryz.func87, Tryz.ntmps87
            go_wp2
            go_quiet (fail)
            go_wp2
            refine bodyPost_ret (v := .tuple #[.bool (!r2), .bool (!r3), .bool (mark != 0), .bool (fb != 0), .bool (decide (0 < n))]) (by simp [results, Tryz.results87, go_sem]) rfl ⟨by simp, ⟨HB1.out.os, HB1.out.tape, HB1.out.output, HB1.out.size, HB1.out.block⟩⟩
          · go_enter Tryz.func87, Tryz.ntmps87
            go_wp2
            go_quiet (fail)
            go_wp2
            refine bodyPost_ret (v := .tuple #[.bool (!r2), .bool (!r3), .bool true, .bool (fb != 0), .bool (decide (0 < n))]) (by simp [results, Tryz.results87, go_sem]) rfl ⟨by simp, ⟨HB1.out.os, HB1.out.tape, HB1.out.output, HB1.out.size, HB1.out.block⟩⟩
      · go_enter Tryz.func87, Tryz.ntmps87
        go_wp2
        go_quiet (fail)
        go_wp2
        refine bodyPost_ret (v := .tuple #[.bool (!r2), .bool (!r3), .bool true, .bool (fb != 0), .bool (decide (0 < n))]) (by simp [results, Tryz.results87, go_sem]) rfl ⟨by simp, ⟨HB1.out.os, HB1.out.tape, HB1.out.output, HB1.out.size, HB1.out.block⟩⟩
    · rcases h4 : (op != 0) with _ | _
      · rcases r5 with _ | _
        · go_enter Tryz.func87, Tryz.ntmps87
          go_wp2
          go_quiet (fail)
          go_wp2
          refine bodyPost_ret (v := .tuple #[.bool (!r2), .bool (!r3), .bool true, .bool true, .bool (decide (0 < n))]) (by simp [results, Tryz.results87, go_sem]) rfl ⟨by simp, ⟨HB1.out.os, HB1.out.tape, HB1.out.output, HB1.out.size, HB1.out.block⟩⟩
        · rcases fold with _ | _
          · go_enter Tryz.func87, Tryz.ntmps87
            go_wp2
            go_quiet (fail)
            go_wp2
            refine bodyPost_ret (v := .tuple #[.bool (!r2), .bool (!r3), .bool (mark != 0), .bool true, .bool (decide (0 < n))]) (by simp [results, Tryz.results87, go_sem]) rfl ⟨by simp, ⟨HB1.out.os, HB1.out.tape, HB1.out.output, HB1.out.size, HB1.out.block⟩⟩
          · go_enter Tryz.func87, Tryz.ntmps87
            go_wp2
            go_quiet (fail)
            go_wp2
            refine bodyPost_ret (v := .tuple #[.bool (!r2), .bool (!r3), .bool true, .bool true, .bool (decide (0 < n))]) (by simp [results, Tryz.results87, go_sem]) rfl ⟨by simp, ⟨HB1.out.os, HB1.out.tape, HB1.out.output, HB1.out.size, HB1.out.block⟩⟩
      · go_enter Tryz.func87, Tryz.ntmps87
        go_wp2
        go_quiet (fail)
        go_wp2
        refine bodyPost_ret (v := .tuple #[.bool (!r2), .bool (!r3), .bool true, .bool true, .bool (decide (0 < n))]) (by simp [results, Tryz.results87, go_sem]) rfl ⟨by simp, ⟨HB1.out.os, HB1.out.tape, HB1.out.output, HB1.out.size, HB1.out.block⟩⟩
  · rcases h7 : (fa != 0) with _ | _
    · rcases h4 : (op != 0) with _ | _
      · rcases r5 with _ | _
        · go_enter Tryz.func87, Tryz.ntmps87
          go_wp2
          go_quiet (fail)
          go_wp2
          refine bodyPost_ret (v := .tuple #[.bool true, .bool (!r3), .bool true, .bool (fb != 0), .bool (decide (0 < n))]) (by simp [results, Tryz.results87, go_sem]) rfl ⟨by simp, ⟨HB1.out.os, HB1.out.tape, HB1.out.output, HB1.out.size, HB1.out.block⟩⟩
        · rcases fold with _ | _
          · go_enter Tryz.func87, Tryz.ntmps87
            go_wp2
            go_quiet (fail)
            go_wp2
            refine bodyPost_ret (v := .tuple #[.bool true, .bool (!r3), .bool (mark != 0), .bool (fb != 0), .bool (decide (0 < n))]) (by simp [results, Tryz.results87, go_sem]) rfl ⟨by simp, ⟨HB1.out.os, HB1.out.tape, HB1.out.output, HB1.out.size, HB1.out.block⟩⟩
          · go_enter Tryz.func87, Tryz.ntmps87
            go_wp2
            go_quiet (fail)
            go_wp2
            refine bodyPost_ret (v := .tuple #[.bool true, .bool (!r3), .bool true, .bool (fb != 0), .bool (decide (0 < n))]) (by simp [results, Tryz.results87, go_sem]) rfl ⟨by simp, ⟨HB1.out.os, HB1.out.tape, HB1.out.output, HB1.out.size, HB1.out.block⟩⟩
      · go_enter Tryz.func87, Tryz.ntmps87
        go_wp2
        go_quiet (fail)
        go_wp2
        refine bodyPost_ret (v := .tuple #[.bool true, .bool (!r3), .bool true, .bool (fb != 0), .bool (decide (0 < n))]) (by simp [results, Tryz.results87, go_sem]) rfl ⟨by simp, ⟨HB1.out.os, HB1.out.tape, HB1.out.output, HB1.out.size, HB1.out.block⟩⟩
    · rcases h4 : (op != 0) with _ | _
      · rcases r5 with _ | _
        · go_enter Tryz.func87, Tryz.ntmps87
          go_wp2
          go_quiet (fail)
          go_wp2
          refine bodyPost_ret (v := .tuple #[.bool true, .bool (!r3), .bool true, .bool true, .bool (decide (0 < n))]) (by simp [results, Tryz.results87, go_sem]) rfl ⟨by simp, ⟨HB1.out.os, HB1.out.tape, HB1.out.output, HB1.out.size, HB1.out.block⟩⟩
        · rcases fold with _ | _
          · go_enter Tryz.func87, Tryz.ntmps87
            go_wp2
            go_quiet (fail)
            go_wp2
            refine bodyPost_ret (v := .tuple #[.bool true, .bool (!r3), .bool (mark != 0), .bool true, .bool (decide (0 < n))]) (by simp [results, Tryz.results87, go_sem]) rfl ⟨by simp, ⟨HB1.out.os, HB1.out.tape, HB1.out.output, HB1.out.size, HB1.out.block⟩⟩
          · go_enter Tryz.func87, Tryz.ntmps87
            go_wp2
            go_quiet (fail)
            go_wp2
            refine bodyPost_ret (v := .tuple #[.bool true, .bool (!r3), .bool true, .bool true, .bool (decide (0 < n))]) (by simp [results, Tryz.results87, go_sem]) rfl ⟨by simp, ⟨HB1.out.os, HB1.out.tape, HB1.out.output, HB1.out.size, HB1.out.block⟩⟩
      · go_enter Tryz.func87, Tryz.ntmps87
        go_wp2
        go_quiet (fail)
        go_wp2
        refine bodyPost_ret (v := .tuple #[.bool true, .bool (!r3), .bool true, .bool true, .bool (decide (0 < n))]) (by simp [results, Tryz.results87, go_sem]) rfl ⟨by simp, ⟨HB1.out.os, HB1.out.tape, HB1.out.output, HB1.out.size, HB1.out.block⟩⟩
end
end Go.Proofs.YtcfhggdiccilaaaGreat
