/- The kinds of characters: the program's and the document's walks. -/
import Derived.Test.YtdopmkiogmejaaaDoorRaw
namespace Go.Proofs.YtdopmkiogmejaaaDoor
open Go.RowKit

def Ch (c : Int) : Prop := 0 ≤ c ∧ c < 1114112
def smallF (c : Int) : Int := if 65 ≤ c ∧ c ≤ 90 then c + 32 else c
def digitB (c : Int) : Bool := decide (48 ≤ c ∧ c ≤ 57)
def startB (c : Int) : Bool := decide ((97 ≤ smallF c ∧ smallF c ≤ 122) ∨ c = 95 ∨ 128 ≤ c)
def nameB (c : Int) : Bool := startB c || digitB c || decide (c = 45)
def controlB (c : Int) : Bool := decide ((1 ≤ c ∧ c ≤ 31) ∨ c = 127)
def spaceB (c : Int) : Bool := decide (c = 32 ∨ c = 9 ∨ c = 10)
theorem smallF_ch {c : Int} (h : Ch c) : Ch (smallF c) := by unfold Ch at *; unfold smallF; split <;> omega

set_option maxRecDepth 100000 in
set_option maxHeartbeats 1000000 in
theorem small_any (c : Int) (w : World) (hc : Ch c) : Calls Tryd.prog 64 #[.int .i64 c] w (Tells (.int .i64 (smallF c)) w) := by
  have hs := smallF_ch hc
  obtain ⟨h0, h1⟩ := hc
  obtain ⟨s0, s1⟩ := hs
  have e1 : c - 65 + 97 = c + 32 := by omega
  rcases (show (¬ 65 ≤ c) ∨ (65 ≤ c ∧ c ≤ 90) ∨ (65 ≤ c ∧ ¬ c ≤ 90) from by omega) with ⟨q0⟩ | ⟨q0, q1⟩ | ⟨q0, q1⟩
  · rw [show smallF c = c from by unfold smallF; rw [if_neg (by omega)]]
    go_enter Tryd.func64, Tryd.ntmps64
    go_wp2
    go_ret
    exact ⟨rfl, rfl⟩
  · rw [show smallF c = c + 32 from by unfold smallF; rw [if_pos (by omega)]]
    go_enter Tryd.func64, Tryd.ntmps64
    go_wp2
    go_ret
    exact ⟨rfl, rfl⟩
  · rw [show smallF c = c from by unfold smallF; rw [if_neg (by omega)]]
    go_enter Tryd.func64, Tryd.ntmps64
    go_wp2
    go_ret
    exact ⟨rfl, rfl⟩

set_option maxRecDepth 100000 in
set_option maxHeartbeats 1000000 in
theorem digit_any (c : Int) (w : World) (hc : Ch c) : Calls Tryd.prog 51 #[.int .i64 c] w (Tells (.bool (digitB c)) w) := by
  have hs := smallF_ch hc
  obtain ⟨h0, h1⟩ := hc
  obtain ⟨s0, s1⟩ := hs
  have e1 : c - 65 + 97 = c + 32 := by omega
  rcases (show (¬ 48 ≤ c) ∨ (48 ≤ c ∧ c ≤ 57) ∨ (48 ≤ c ∧ ¬ c ≤ 57) from by omega) with ⟨q0⟩ | ⟨q0, q1⟩ | ⟨q0, q1⟩
  · rw [show digitB c = false from by exact decide_eq_false (by omega)]
    go_enter Tryd.func51, Tryd.ntmps51
    go_wp2
    go_ret
    exact ⟨rfl, rfl⟩
  · rw [show digitB c = true from by exact decide_eq_true (by omega)]
    go_enter Tryd.func51, Tryd.ntmps51
    go_wp2
    go_ret
    exact ⟨rfl, rfl⟩
  · rw [show digitB c = false from by exact decide_eq_false (by omega)]
    go_enter Tryd.func51, Tryd.ntmps51
    go_wp2
    go_ret
    exact ⟨rfl, rfl⟩

set_option maxRecDepth 100000 in
set_option maxHeartbeats 1000000 in
theorem rsmall_any (c : Int) (w : World) (hc : Ch c) : Calls Tryd.prog 33 #[.int .i64 c] w (Tells (.int .i64 (smallF c)) w) := by
  have hs := smallF_ch hc
  obtain ⟨h0, h1⟩ := hc
  obtain ⟨s0, s1⟩ := hs
  have e1 : c - 65 + 97 = c + 32 := by omega
  rcases (show (¬ 65 ≤ c) ∨ (65 ≤ c ∧ c ≤ 90) ∨ (65 ≤ c ∧ ¬ c ≤ 90) from by omega) with ⟨q0⟩ | ⟨q0, q1⟩ | ⟨q0, q1⟩
  · rw [show smallF c = c from by unfold smallF; rw [if_neg (by omega)]]
    go_enter Tryd.func33, Tryd.ntmps33
    go_wp2
    go_ret
    exact ⟨rfl, rfl⟩
  · rw [show smallF c = c + 32 from by unfold smallF; rw [if_pos (by omega)]]
    go_enter Tryd.func33, Tryd.ntmps33
    go_wp2
    go_ret
    exact ⟨rfl, rfl⟩
  · rw [show smallF c = c from by unfold smallF; rw [if_neg (by omega)]]
    go_enter Tryd.func33, Tryd.ntmps33
    go_wp2
    go_ret
    exact ⟨rfl, rfl⟩

set_option maxRecDepth 100000 in
set_option maxHeartbeats 1000000 in
theorem rdigit_any (c : Int) (w : World) (hc : Ch c) : Calls Tryd.prog 17 #[.int .i64 c] w (Tells (.bool (digitB c)) w) := by
  have hs := smallF_ch hc
  obtain ⟨h0, h1⟩ := hc
  obtain ⟨s0, s1⟩ := hs
  have e1 : c - 65 + 97 = c + 32 := by omega
  rcases (show (¬ 48 ≤ c) ∨ (48 ≤ c ∧ c ≤ 57) ∨ (48 ≤ c ∧ ¬ c ≤ 57) from by omega) with ⟨q0⟩ | ⟨q0, q1⟩ | ⟨q0, q1⟩
  · rw [show digitB c = false from by exact decide_eq_false (by omega)]
    go_enter Tryd.func17, Tryd.ntmps17
    go_wp2
    go_ret
    exact ⟨rfl, rfl⟩
  · rw [show digitB c = true from by exact decide_eq_true (by omega)]
    go_enter Tryd.func17, Tryd.ntmps17
    go_wp2
    go_ret
    exact ⟨rfl, rfl⟩
  · rw [show digitB c = false from by exact decide_eq_false (by omega)]
    go_enter Tryd.func17, Tryd.ntmps17
    go_wp2
    go_ret
    exact ⟨rfl, rfl⟩

end Go.Proofs.YtdopmkiogmejaaaDoor
