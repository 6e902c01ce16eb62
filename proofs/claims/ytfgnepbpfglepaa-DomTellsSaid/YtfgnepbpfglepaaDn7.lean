/- Two rows of places are the same, the reference's side: a walk. -/
import Derived.Test.YtfgnepbpfglepaaDn6
import Derived.Deep.RegionWith
namespace Go.Proofs.Ytfgnepbpfglepaa
open Go.RowKit
set_option linter.unusedVariables false
set_option linter.unusedSimpArgs false

set_option maxRecDepth 100000 in
set_option maxHeartbeats 4000000 in
theorem same_0 (q p c d : Nat) (w : World) (a0 : w.cell? ⟨q, 0, none⟩ = some (.int .i64 1)) (a1 : w.cell? ⟨q, 1, none⟩ = some (.int .i64 2)) (b0 : w.cell? ⟨p, 0, none⟩ = some (.int .i64 1)) (b1 : w.cell? ⟨p, 1, none⟩ = some (.int .i64 2)) :
    Calls Try.prog 16 #[.slice (some ⟨q, 0, none⟩) 2 c, .slice (some ⟨p, 0, none⟩) 2 d] w (Told (.bool true) w) := by
  go_enter Try.func16, Try.ntmps16
  go_wp2_with fail
  refine wp_loop_rounds 3 ?_
  rw [rounds_succ]
  go_wp2
  go_region
  go_wp2
  rw [rounds_succ]
  go_wp2
  go_region
  go_wp2
  rw [rounds_succ]
  go_wp2
  go_ret
  exact ⟨rfl, ((Below.refl _ _).drew).drew⟩
set_option maxRecDepth 100000 in
set_option maxHeartbeats 4000000 in
theorem multiply_0 (w : World) : Calls Try.prog 66 #[.int .u64 1, .int .u64 3] w (Told (.tuple #[.int .u64 0, .int .u64 3]) w) := by
  go_enter Try.func66, Try.ntmps66
  go_wp2
  refine bodyPost_ret (v := .tuple #[.int .u64 0, .int .u64 3]) (by simp [results, Try.results66, go_sem]; decide +kernel) rfl ⟨rfl, Below.refl _ _⟩
end Go.Proofs.Ytfgnepbpfglepaa
