/- A row of two places turned round: a walk. -/
import Derived.Test.YtfgnepbpfglepaaDn4
import Derived.Deep.RegionWith
namespace Go.Proofs.Ytfgnepbpfglepaa
open Go.RowKit
set_option linter.unusedVariables false
set_option linter.unusedSimpArgs false

set_option maxRecDepth 100000 in
set_option maxHeartbeats 4000000 in
theorem reverse_0 (q c : Nat) (rest : List Value) (w : World) (h : Blk w q (.int .i64 2 :: .int .i64 1 :: rest) 3) :
    Calls Try.prog 48 #[.slice (some ⟨q, 0, none⟩) 2 c] w fun e w' => e = .returned (.tuple #[]) ∧ Blk w' q (.int .i64 1 :: .int .i64 2 :: rest) 3 ∧ w.grownBy w' (some q) := by
  have x0 := h.cell 0 _ rfl
  have x1 := h.cell 1 _ rfl
  have f0 := h.frozen 0
  have f1 := h.frozen 1
  have H := Lib.hid h
  clear h
  go_enter Try.func48, Try.ntmps48
  go_wp2_with fail
  refine wp_loop_rounds 2 ?_
  rw [rounds_succ]
  go_wp2
  go_region
  go_wp2
  rw [rounds_succ]
  go_wp2
  go_end0
  refine ⟨rfl, ?_, ?_⟩
  · have B1 := (H.out.setCell 0 (.int .i64 1)).setCell 1 (.int .i64 2)
    exact B1
  · exact grown_trans (⟨rfl, rfl, rfl, Nat.le_refl _, fun _ _ _ => rfl⟩ : w.grownBy w.drew (some q)) (grown_trans (grown_setCell _ q 0 (.int .i64 1)) (grown_setCell _ q 1 (.int .i64 2)))
end Go.Proofs.Ytfgnepbpfglepaa
