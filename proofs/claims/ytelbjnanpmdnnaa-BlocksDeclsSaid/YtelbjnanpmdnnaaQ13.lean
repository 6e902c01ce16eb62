/- Texts of mine in one: Raw Kinds Start. -/
import Derived.Test.YtelbjnanpmdnnaaQ08
import Derived.Test.YtelbjnanpmdnnaaQ06
import Derived.Test.YtelbjnanpmdnnaaQ12
namespace Go.Proofs.Ytelbjnanpmdnnaa
section
open Go.RowKit
def Ch (c : Int) : Prop := 0 ≤ c ∧ c < 1114112
def smallF (c : Int) : Int := if 65 ≤ c ∧ c ≤ 90 then c + 32 else c
def digitB (c : Int) : Bool := decide (48 ≤ c ∧ c ≤ 57)
def startB (c : Int) : Bool := decide ((97 ≤ smallF c ∧ smallF c ≤ 122) ∨ c = 95 ∨ 128 ≤ c)
def nameB (c : Int) : Bool := startB c || digitB c || decide (c = 45)
def spaceB (c : Int) : Bool := decide (c = 32 ∨ c = 9 ∨ c = 10)
theorem smallF_ch {c : Int} (h : Ch c) : Ch (smallF c) := by unfold Ch at *; unfold smallF; split <;> omega
set_option maxRecDepth 100000 in
set_option maxHeartbeats 1000000 in
theorem small_any (c : Int) (w : World) (hc : Ch c) : Calls Try.prog 65 #[.int .i64 c] w (Tells (.int .i64 (smallF c)) w) := by
  have hs := smallF_ch hc
  obtain ⟨h0, h1⟩ := hc
  obtain ⟨s0, s1⟩ := hs
  have e1 : c - 65 + 97 = c + 32 := by omega
  rcases (show (¬ 65 ≤ c) ∨ (65 ≤ c ∧ c ≤ 90) ∨ (65 ≤ c ∧ ¬ c ≤ 90) from by omega) with ⟨q0⟩ | ⟨q0, q1⟩ | ⟨q0, q1⟩
  · rw [show smallF c = c from by unfold smallF; rw [if_neg (by omega)]]
    go_enter Try.func65, Try.ntmps65
    go_wp2
    go_ret
    exact ⟨rfl, rfl⟩
  · rw [show smallF c = c + 32 from by unfold smallF; rw [if_pos (by omega)]]
    go_enter Try.func65, Try.ntmps65
    go_wp2
    go_ret
    exact ⟨rfl, rfl⟩
  · rw [show smallF c = c from by unfold smallF; rw [if_neg (by omega)]]
    go_enter Try.func65, Try.ntmps65
    go_wp2
    go_ret
    exact ⟨rfl, rfl⟩
set_option maxRecDepth 100000 in
set_option maxHeartbeats 1000000 in
theorem rsmall_any (c : Int) (w : World) (hc : Ch c) : Calls Try.prog 63 #[.int .i64 c] w (Tells (.int .i64 (smallF c)) w) := by
  have hs := smallF_ch hc
  obtain ⟨h0, h1⟩ := hc
  obtain ⟨s0, s1⟩ := hs
  have e1 : c - 65 + 97 = c + 32 := by omega
  rcases (show (¬ 65 ≤ c) ∨ (65 ≤ c ∧ c ≤ 90) ∨ (65 ≤ c ∧ ¬ c ≤ 90) from by omega) with ⟨q0⟩ | ⟨q0, q1⟩ | ⟨q0, q1⟩
  · rw [show smallF c = c from by unfold smallF; rw [if_neg (by omega)]]
    go_enter Try.func63, Try.ntmps63
    go_wp2
    go_ret
    exact ⟨rfl, rfl⟩
  · rw [show smallF c = c + 32 from by unfold smallF; rw [if_pos (by omega)]]
    go_enter Try.func63, Try.ntmps63
    go_wp2
    go_ret
    exact ⟨rfl, rfl⟩
  · rw [show smallF c = c from by unfold smallF; rw [if_neg (by omega)]]
    go_enter Try.func63, Try.ntmps63
    go_wp2
    go_ret
    exact ⟨rfl, rfl⟩
set_option maxRecDepth 100000 in
set_option maxHeartbeats 1000000 in
theorem rdigit_any (c : Int) (w : World) (hc : Ch c) : Calls Try.prog 84 #[.int .i64 c] w (Tells (.bool (digitB c)) w) := by
  have hs := smallF_ch hc
  obtain ⟨h0, h1⟩ := hc
  obtain ⟨s0, s1⟩ := hs
  have e1 : c - 65 + 97 = c + 32 := by omega
  rcases (show (¬ 48 ≤ c) ∨ (48 ≤ c ∧ c ≤ 57) ∨ (48 ≤ c ∧ ¬ c ≤ 57) from by omega) with ⟨q0⟩ | ⟨q0, q1⟩ | ⟨q0, q1⟩
  · rw [show digitB c = false from by exact decide_eq_false (by omega)]
    go_enter Try.func84, Try.ntmps84
    go_wp2
    go_ret
    exact ⟨rfl, rfl⟩
  · rw [show digitB c = true from by exact decide_eq_true (by omega)]
    go_enter Try.func84, Try.ntmps84
    go_wp2
    go_ret
    exact ⟨rfl, rfl⟩
  · rw [show digitB c = false from by exact decide_eq_false (by omega)]
    go_enter Try.func84, Try.ntmps84
    go_wp2
    go_ret
    exact ⟨rfl, rfl⟩
end

section
open Go.RowKit
set_option maxRecDepth 100000 in
set_option maxHeartbeats 1000000 in
theorem rstart_any (c : Int) (w : World) (hc : Ch c) : Calls Try.prog 85 #[.int .i64 c] w (Tells (.bool (startB c)) w) := by
  have hs := smallF_ch hc
  obtain ⟨h0, h1⟩ := hc
  obtain ⟨s0, s1⟩ := hs
  have e1 : c - 65 + 97 = c + 32 := by omega
  rcases (show (97 ≤ smallF c ∧ smallF c ≤ 122) ∨ (¬ 97 ≤ smallF c ∧ c = 95) ∨ (¬ 97 ≤ smallF c ∧ c ≠ 95 ∧ 128 ≤ c) ∨ (¬ 97 ≤ smallF c ∧ c ≠ 95 ∧ ¬ 128 ≤ c) ∨ (97 ≤ smallF c ∧ ¬ smallF c ≤ 122 ∧ c = 95) ∨ (97 ≤ smallF c ∧ ¬ smallF c ≤ 122 ∧ c ≠ 95 ∧ 128 ≤ c) ∨ (97 ≤ smallF c ∧ ¬ smallF c ≤ 122 ∧ c ≠ 95 ∧ ¬ 128 ≤ c) from by omega) with ⟨q0, q1⟩ | ⟨q0, rfl⟩ | ⟨q0, q1, q2⟩ | ⟨q0, q1, q2⟩ | ⟨q0, q1, rfl⟩ | ⟨q0, q1, q2, q3⟩ | ⟨q0, q1, q2, q3⟩
  · rw [show startB c = true from by exact decide_eq_true (by omega)]
    have hk := fun w => rsmall_any c w ⟨h0, h1⟩
    generalize smallF c = s at *
    go_enter Try.func85, Try.ntmps85
    go_wp2_with fail
    refine (hk _).mono ?_
    rintro e w1 ⟨rfl, rfl⟩
    go_wp2
    go_ret
    exact ⟨rfl, rfl⟩
  · rw [show startB 95 = true from by exact decide_eq_true (by omega)]
    have hk := fun w => rsmall_any 95 w ⟨h0, h1⟩
    generalize smallF 95 = s at *
    go_enter Try.func85, Try.ntmps85
    go_wp2_with fail
    refine (hk _).mono ?_
    rintro e w1 ⟨rfl, rfl⟩
    go_wp2
    go_ret
    exact ⟨rfl, rfl⟩
  · rw [show startB c = true from by exact decide_eq_true (by omega)]
    have n95 : (c == 95) = false := beq_eq_false_iff_ne.2 (by omega)
    have hk := fun w => rsmall_any c w ⟨h0, h1⟩
    generalize smallF c = s at *
    go_enter Try.func85, Try.ntmps85
    go_wp2_with fail
    refine (hk _).mono ?_
    rintro e w1 ⟨rfl, rfl⟩
    go_wp2
    go_ret
    exact ⟨rfl, rfl⟩
  · rw [show startB c = false from by exact decide_eq_false (by omega)]
    have n95 : (c == 95) = false := beq_eq_false_iff_ne.2 (by omega)
    have d128 : decide (128 ≤ c) = false := decide_eq_false q2
    have hk := fun w => rsmall_any c w ⟨h0, h1⟩
    generalize smallF c = s at *
    go_enter Try.func85, Try.ntmps85
    go_wp2_with fail
    refine (hk _).mono ?_
    rintro e w1 ⟨rfl, rfl⟩
    go_wp2
    go_ret
    exact ⟨rfl, rfl⟩
  · rw [show startB 95 = true from by exact decide_eq_true (by omega)]
    have hk := fun w => rsmall_any 95 w ⟨h0, h1⟩
    generalize smallF 95 = s at *
    go_enter Try.func85, Try.ntmps85
    go_wp2_with fail
    refine (hk _).mono ?_
    rintro e w1 ⟨rfl, rfl⟩
    go_wp2
    go_ret
    exact ⟨rfl, rfl⟩
  · rw [show startB c = true from by exact decide_eq_true (by omega)]
    have n95 : (c == 95) = false := beq_eq_false_iff_ne.2 (by omega)
    have d122 : decide (smallF c ≤ 122) = false := decide_eq_false q1
    have hk := fun w => rsmall_any c w ⟨h0, h1⟩
    generalize smallF c = s at *
    go_enter Try.func85, Try.ntmps85
    go_wp2_with fail
    refine (hk _).mono ?_
    rintro e w1 ⟨rfl, rfl⟩
    go_wp2
    go_ret
    exact ⟨rfl, rfl⟩
  · rw [show startB c = false from by exact decide_eq_false (by omega)]
    have n95 : (c == 95) = false := beq_eq_false_iff_ne.2 (by omega)
    have d128 : decide (128 ≤ c) = false := decide_eq_false q3
    have d122 : decide (smallF c ≤ 122) = false := decide_eq_false q1
    have hk := fun w => rsmall_any c w ⟨h0, h1⟩
    generalize smallF c = s at *
    go_enter Try.func85, Try.ntmps85
    go_wp2_with fail
    refine (hk _).mono ?_
    rintro e w1 ⟨rfl, rfl⟩
    go_wp2
    go_ret
    exact ⟨rfl, rfl⟩
end
end Go.Proofs.Ytelbjnanpmdnnaa
