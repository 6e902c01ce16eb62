/- The document's answer on single characters: whether a number is one, its bytes, what bytes tell: walks. -/
import Derived.Test.YtfgnepbpfglepaaSpeaks
namespace Go.Proofs.Ytfgnepbpfglepaa
open Go.RowKit

/-- Is a number a character? -/
def rightB (n : Int) : Bool := decide (0 ≤ n ∧ n < 1114112 ∧ (n < 55296 ∨ 57343 < n))

set_option maxRecDepth 100000 in
set_option maxHeartbeats 400000 in
theorem refRight_any (n : Int) (w : World) :
    Calls Try.prog 100 #[.int .i64 n] w fun e w' => e = .returned (.bool (rightB n)) ∧ w = w' := by
  go_enter Try.func100, Try.ntmps100
  go_wp2
  all_goals
    go_ret
    refine ⟨ret_bool ?_, rfl⟩
  · show (decide (n < 55296) || decide (57343 < n)) = _
    unfold rightB
    rw [Bool.eq_iff_iff]; simp; omega
  · show true = _
    unfold rightB
    rw [eq_comm, decide_eq_true_iff]; omega
  · show false = _
    unfold rightB
    rw [eq_comm, decide_eq_false_iff_not]; omega
  · show false = _
    unfold rightB
    rw [eq_comm, decide_eq_false_iff_not]; omega

/-- A character's bytes. -/
def putF (n : Int) : List Int :=
  if n < 128 then [n]
  else if n < 2048 then [192 + n / 64, 128 + n % 64]
  else if n < 65536 then [224 + n / 4096, 128 + n / 64 % 64, 128 + n % 64]
  else [240 + n / 262144, 128 + n / 4096 % 64, 128 + n / 64 % 64, 128 + n % 64]

def BytesPost (zs : List Int) (w : World) (e : Ending) (w' : World) : Prop :=
  ∃ a cap, e = .returned (.slice a zs.length cap) ∧ Reads w' .u8 a cap zs ∧ Below w.heap.size w w'

theorem bytes_new (w : World) (zs : List Int) (T : TypeId) (n : Nat) (hn : zs.length = n) (hm : n ≤ 100) :
    BytesPost zs w (.returned (.slice (some ⟨w.heap.size, 0, none⟩) n n)) (w.alloc (.cells (zs.map (Value.int .u8)).toArray T)) :=
  ⟨_, n, by rw [hn], reads_new w .u8 zs T n hn (by unfold maxLen; omega), (Below.refl _ _).alloc (Nat.le_refl _) _⟩

set_option maxRecDepth 100000 in
set_option maxHeartbeats 1000000 in
theorem put_any (n : Int) (w : World) (h0 : 0 ≤ n) (h1 : n < 1114112) :
    Calls Try.prog 101 #[.int .i64 n] w (BytesPost (putF n) w) := by
  have key : n < 128 ∨ (128 ≤ n ∧ n < 2048) ∨ (2048 ≤ n ∧ n < 65536) ∨ 65536 ≤ n := by omega
  rcases key with h | ⟨h, h'⟩ | ⟨h, h'⟩ | h
  all_goals
    go_enter Try.func101, Try.ntmps101
    go_wp2
    go_ret
  · rw [show putF n = [n] from by unfold putF; rw [if_pos h]]
    exact bytes_new w [n] 5 1 rfl (by omega)
  · rw [show putF n = [192 + n / 64, 128 + n % 64] from by unfold putF; rw [if_neg (by omega), if_pos h']]
    exact bytes_new w [192 + n / 64, 128 + n % 64] 5 2 rfl (by omega)
  · rw [show putF n = [224 + n / 4096, 128 + n / 64 % 64, 128 + n % 64] from by unfold putF; rw [if_neg (by omega), if_neg (by omega), if_pos h']]
    exact bytes_new w [224 + n / 4096, 128 + n / 64 % 64, 128 + n % 64] 5 3 rfl (by omega)
  · rw [show putF n = [240 + n / 262144, 128 + n / 4096 % 64, 128 + n / 64 % 64, 128 + n % 64] from by unfold putF; rw [if_neg (by omega), if_neg (by omega), if_neg (by omega)]]
    exact bytes_new w [240 + n / 262144, 128 + n / 4096 % 64, 128 + n / 64 % 64, 128 + n % 64] 5 4 rfl (by omega)
end Go.Proofs.Ytfgnepbpfglepaa
