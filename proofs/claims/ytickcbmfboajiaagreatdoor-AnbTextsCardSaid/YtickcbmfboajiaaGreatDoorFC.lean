/- Several texts of mine in one. -/
import Derived.Test.YtickcbmfboajiaaGreatDoorFB
namespace Go.Proofs.YtickcbmfboajiaaGreatDoor
section
open Go.RowKit

def Ch (c : Int) : Prop := 0 ≤ c ∧ c < 1114112
def smallF (c : Int) : Int := if 65 ≤ c ∧ c ≤ 90 then c + 32 else c
def digitB (c : Int) : Bool := decide (48 ≤ c ∧ c ≤ 57)
def startB (c : Int) : Bool := decide ((97 ≤ smallF c ∧ smallF c ≤ 122) ∨ c = 95 ∨ 128 ≤ c)
def nameB (c : Int) : Bool := startB c || digitB c || decide (c = 45)
def controlB (c : Int) : Bool := decide ((1 ≤ c ∧ c ≤ 31) ∨ c = 127)
def spaceB (c : Int) : Bool := decide (c = 32 ∨ c = 9 ∨ c = 10)
theorem smallF_ch {c : Int} (h : Ch c) : Ch (smallF c) := by unfold Ch at *; unfold smallF; split <;> omega

set_option maxRecDepth 100000 in
set_option maxHeartbeats 1000000 in
theorem small_any (c : Int) (w : World) (hc : Ch c) : Calls Tryz.prog 96 #[.int .i64 c] w (Tells (.int .i64 (smallF c)) w) := by
  have hs := smallF_ch hc
  obtain ⟨h0, h1⟩ := hc
  obtain ⟨s0, s1⟩ := hs
  have e1 : c - 65 + 97 = c + 32 := by omega
  rcases (show (¬ 65 ≤ c) ∨ (65 ≤ c ∧ c ≤ 90) ∨ (65 ≤ c ∧ ¬ c ≤ 90) from by omega) with ⟨q0⟩ | ⟨q0, q1⟩ | ⟨q0, q1⟩
  · rw [show smallF c = c from by unfold smallF; rw [if_neg (by omega)]]
    go_enter Tryz.func96, Tryz.ntmps96
    go_wp2
    go_ret
    exact ⟨rfl, rfl⟩
  · rw [show smallF c = c + 32 from by unfold smallF; rw [if_pos (by omega)]]
    go_enter Tryz.func96, Tryz.ntmps96
    go_wp2
    go_ret
    exact ⟨rfl, rfl⟩
  · rw [show smallF c = c from by unfold smallF; rw [if_neg (by omega)]]
    go_enter Tryz.func96, Tryz.ntmps96
    go_wp2
    go_ret
    exact ⟨rfl, rfl⟩

set_option maxRecDepth 100000 in
set_option maxHeartbeats 1000000 in
theorem digit_any (c : Int) (w : World) (hc : Ch c) : Calls Tryz.prog 104 #[.int .i64 c] w (Tells (.bool (digitB c)) w) := by
  have hs := smallF_ch hc
  obtain ⟨h0, h1⟩ := hc
  obtain ⟨s0, s1⟩ := hs
  have e1 : c - 65 + 97 = c + 32 := by omega
  rcases (show (¬ 48 ≤ c) ∨ (48 ≤ c ∧ c ≤ 57) ∨ (48 ≤ c ∧ ¬ c ≤ 57) from by omega) with ⟨q0⟩ | ⟨q0, q1⟩ | ⟨q0, q1⟩
  · rw [show digitB c = false from by exact decide_eq_false (by omega)]
    go_enter Tryz.func104, Tryz.ntmps104
    go_wp2
    go_ret
    exact ⟨rfl, rfl⟩
  · rw [show digitB c = true from by exact decide_eq_true (by omega)]
    go_enter Tryz.func104, Tryz.ntmps104
    go_wp2
    go_ret
    exact ⟨rfl, rfl⟩
  · rw [show digitB c = false from by exact decide_eq_false (by omega)]
    go_enter Tryz.func104, Tryz.ntmps104
    go_wp2
    go_ret
    exact ⟨rfl, rfl⟩

set_option maxRecDepth 100000 in
set_option maxHeartbeats 1000000 in
theorem rsmall_any (c : Int) (w : World) (hc : Ch c) : Calls Tryz.prog 107 #[.int .i64 c] w (Tells (.int .i64 (smallF c)) w) := by
  have hs := smallF_ch hc
  obtain ⟨h0, h1⟩ := hc
  obtain ⟨s0, s1⟩ := hs
  have e1 : c - 65 + 97 = c + 32 := by omega
  rcases (show (¬ 65 ≤ c) ∨ (65 ≤ c ∧ c ≤ 90) ∨ (65 ≤ c ∧ ¬ c ≤ 90) from by omega) with ⟨q0⟩ | ⟨q0, q1⟩ | ⟨q0, q1⟩
  · rw [show smallF c = c from by unfold smallF; rw [if_neg (by omega)]]
    go_enter Tryz.func107, Tryz.ntmps107
    go_wp2
    go_ret
    exact ⟨rfl, rfl⟩
  · rw [show smallF c = c + 32 from by unfold smallF; rw [if_pos (by omega)]]
    go_enter Tryz.func107, Tryz.ntmps107
    go_wp2
    go_ret
    exact ⟨rfl, rfl⟩
  · rw [show smallF c = c from by unfold smallF; rw [if_neg (by omega)]]
    go_enter Tryz.func107, Tryz.ntmps107
    go_wp2
    go_ret
    exact ⟨rfl, rfl⟩

set_option maxRecDepth 100000 in
set_option maxHeartbeats 1000000 in
theorem rdigit_any (c : Int) (w : World) (hc : Ch c) : Calls Tryz.prog 61 #[.int .i64 c] w (Tells (.bool (digitB c)) w) := by
  have hs := smallF_ch hc
  obtain ⟨h0, h1⟩ := hc
  obtain ⟨s0, s1⟩ := hs
  have e1 : c - 65 + 97 = c + 32 := by omega
  rcases (show (¬ 48 ≤ c) ∨ (48 ≤ c ∧ c ≤ 57) ∨ (48 ≤ c ∧ ¬ c ≤ 57) from by omega) with ⟨q0⟩ | ⟨q0, q1⟩ | ⟨q0, q1⟩
  · rw [show digitB c = false from by exact decide_eq_false (by omega)]
    go_enter Tryz.func61, Tryz.ntmps61
    go_wp2
    go_ret
    exact ⟨rfl, rfl⟩
  · rw [show digitB c = true from by exact decide_eq_true (by omega)]
    go_enter Tryz.func61, Tryz.ntmps61
    go_wp2
    go_ret
    exact ⟨rfl, rfl⟩
  · rw [show digitB c = false from by exact decide_eq_false (by omega)]
    go_enter Tryz.func61, Tryz.ntmps61
    go_wp2
    go_ret
    exact ⟨rfl, rfl⟩
end

section
open Go.RowKit

set_option maxRecDepth 100000 in
set_option maxHeartbeats 1000000 in
theorem start_any (c : Int) (w : World) (hc : Ch c) : Calls Tryz.prog 127 #[.int .i64 c] w (Tells (.bool (startB c)) w) := by
  have hs := smallF_ch hc
  obtain ⟨h0, h1⟩ := hc
  obtain ⟨s0, s1⟩ := hs
  have e1 : c - 65 + 97 = c + 32 := by omega
  rcases (show (97 ≤ smallF c ∧ smallF c ≤ 122) ∨ (¬ 97 ≤ smallF c ∧ c = 95) ∨ (¬ 97 ≤ smallF c ∧ c ≠ 95 ∧ 128 ≤ c) ∨ (¬ 97 ≤ smallF c ∧ c ≠ 95 ∧ ¬ 128 ≤ c) ∨ (97 ≤ smallF c ∧ ¬ smallF c ≤ 122 ∧ c = 95) ∨ (97 ≤ smallF c ∧ ¬ smallF c ≤ 122 ∧ c ≠ 95 ∧ 128 ≤ c) ∨ (97 ≤ smallF c ∧ ¬ smallF c ≤ 122 ∧ c ≠ 95 ∧ ¬ 128 ≤ c) from by omega) with ⟨q0, q1⟩ | ⟨q0, rfl⟩ | ⟨q0, q1, q2⟩ | ⟨q0, q1, q2⟩ | ⟨q0, q1, rfl⟩ | ⟨q0, q1, q2, q3⟩ | ⟨q0, q1, q2, q3⟩
  · rw [show startB c = true from by exact decide_eq_true (by omega)]
    have hk := fun w => small_any c w ⟨h0, h1⟩
    generalize smallF c = s at *
    go_enter Tryz.func127, Tryz.ntmps127
    go_wp2_with fail
    refine (hk _).mono ?_
    rintro e w1 ⟨rfl, rfl⟩
    go_wp2
    go_ret
    exact ⟨rfl, rfl⟩
  · rw [show startB 95 = true from by exact decide_eq_true (by omega)]
    have hk := fun w => small_any 95 w ⟨h0, h1⟩
    generalize smallF 95 = s at *
    go_enter Tryz.func127, Tryz.ntmps127
    go_wp2_with fail
    refine (hk _).mono ?_
    rintro e w1 ⟨rfl, rfl⟩
    go_wp2
    go_ret
    exact ⟨rfl, rfl⟩
  · rw [show startB c = true from by exact decide_eq_true (by omega)]
    have n95 : (c == 95) = false := beq_eq_false_iff_ne.2 (by omega)
    have hk := fun w => small_any c w ⟨h0, h1⟩
    generalize smallF c = s at *
    go_enter Tryz.func127, Tryz.ntmps127
    go_wp2_with fail
    refine (hk _).mono ?_
    rintro e w1 ⟨rfl, rfl⟩
    go_wp2
    go_ret
    exact ⟨rfl, rfl⟩
  · rw [show startB c = false from by exact decide_eq_false (by omega)]
    have n95 : (c == 95) = false := beq_eq_false_iff_ne.2 (by omega)
    have d128 : decide (128 ≤ c) = false := decide_eq_false q2
    have hk := fun w => small_any c w ⟨h0, h1⟩
    generalize smallF c = s at *
    go_enter Tryz.func127, Tryz.ntmps127
    go_wp2_with fail
    refine (hk _).mono ?_
    rintro e w1 ⟨rfl, rfl⟩
    go_wp2
    go_ret
    exact ⟨rfl, rfl⟩
  · rw [show startB 95 = true from by exact decide_eq_true (by omega)]
    have hk := fun w => small_any 95 w ⟨h0, h1⟩
    generalize smallF 95 = s at *
    go_enter Tryz.func127, Tryz.ntmps127
    go_wp2_with fail
    refine (hk _).mono ?_
    rintro e w1 ⟨rfl, rfl⟩
    go_wp2
    go_ret
    exact ⟨rfl, rfl⟩
  · rw [show startB c = true from by exact decide_eq_true (by omega)]
    have n95 : (c == 95) = false := beq_eq_false_iff_ne.2 (by omega)
    have d122 : decide (smallF c ≤ 122) = false := decide_eq_false q1
    have hk := fun w => small_any c w ⟨h0, h1⟩
    generalize smallF c = s at *
    go_enter Tryz.func127, Tryz.ntmps127
    go_wp2_with fail
    refine (hk _).mono ?_
    rintro e w1 ⟨rfl, rfl⟩
    go_wp2
    go_ret
    exact ⟨rfl, rfl⟩
  · rw [show startB c = false from by exact decide_eq_false (by omega)]
    have n95 : (c == 95) = false := beq_eq_false_iff_ne.2 (by omega)
    have d128 : decide (128 ≤ c) = false := decide_eq_false q3
    have d122 : decide (smallF c ≤ 122) = false := decide_eq_false q1
    have hk := fun w => small_any c w ⟨h0, h1⟩
    generalize smallF c = s at *
    go_enter Tryz.func127, Tryz.ntmps127
    go_wp2_with fail
    refine (hk _).mono ?_
    rintro e w1 ⟨rfl, rfl⟩
    go_wp2
    go_ret
    exact ⟨rfl, rfl⟩

set_option maxRecDepth 100000 in
set_option maxHeartbeats 1000000 in
theorem rstart_any (c : Int) (w : World) (hc : Ch c) : Calls Tryz.prog 142 #[.int .i64 c] w (Tells (.bool (startB c)) w) := by
  have hs := smallF_ch hc
  obtain ⟨h0, h1⟩ := hc
  obtain ⟨s0, s1⟩ := hs
  have e1 : c - 65 + 97 = c + 32 := by omega
  rcases (show (97 ≤ smallF c ∧ smallF c ≤ 122) ∨ (¬ 97 ≤ smallF c ∧ c = 95) ∨ (¬ 97 ≤ smallF c ∧ c ≠ 95 ∧ 128 ≤ c) ∨ (¬ 97 ≤ smallF c ∧ c ≠ 95 ∧ ¬ 128 ≤ c) ∨ (97 ≤ smallF c ∧ ¬ smallF c ≤ 122 ∧ c = 95) ∨ (97 ≤ smallF c ∧ ¬ smallF c ≤ 122 ∧ c ≠ 95 ∧ 128 ≤ c) ∨ (97 ≤ smallF c ∧ ¬ smallF c ≤ 122 ∧ c ≠ 95 ∧ ¬ 128 ≤ c) from by omega) with ⟨q0, q1⟩ | ⟨q0, rfl⟩ | ⟨q0, q1, q2⟩ | ⟨q0, q1, q2⟩ | ⟨q0, q1, rfl⟩ | ⟨q0, q1, q2, q3⟩ | ⟨q0, q1, q2, q3⟩
  · rw [show startB c = true from by exact decide_eq_true (by omega)]
    have hk := fun w => rsmall_any c w ⟨h0, h1⟩
    generalize smallF c = s at *
    go_enter Tryz.func142, Tryz.ntmps142
    go_wp2_with fail
    refine (hk _).mono ?_
    rintro e w1 ⟨rfl, rfl⟩
    go_wp2
    go_ret
    exact ⟨rfl, rfl⟩
  · rw [show startB 95 = true from by exact decide_eq_true (by omega)]
    have hk := fun w => rsmall_any 95 w ⟨h0, h1⟩
    generalize smallF 95 = s at *
    go_enter Tryz.func142, Tryz.ntmps142
    go_wp2_with fail
    refine (hk _).mono ?_
    rintro e w1 ⟨rfl, rfl⟩
    go_wp2
    go_ret
    exact ⟨rfl, rfl⟩
  · rw [show startB c = true from by exact decide_eq_true (by omega)]
    have n95 : (c == 95) = false := beq_eq_false_iff_ne.2 (by omega)
    have hk := fun w => rsmall_any c w ⟨h0, h1⟩
    generalize smallF c = s at *
    go_enter Tryz.func142, Tryz.ntmps142
    go_wp2_with fail
    refine (hk _).mono ?_
    rintro e w1 ⟨rfl, rfl⟩
    go_wp2
    go_ret
    exact ⟨rfl, rfl⟩
  · rw [show startB c = false from by exact decide_eq_false (by omega)]
    have n95 : (c == 95) = false := beq_eq_false_iff_ne.2 (by omega)
    have d128 : decide (128 ≤ c) = false := decide_eq_false q2
    have hk := fun w => rsmall_any c w ⟨h0, h1⟩
    generalize smallF c = s at *
    go_enter Tryz.func142, Tryz.ntmps142
    go_wp2_with fail
    refine (hk _).mono ?_
    rintro e w1 ⟨rfl, rfl⟩
    go_wp2
    go_ret
    exact ⟨rfl, rfl⟩
  · rw [show startB 95 = true from by exact decide_eq_true (by omega)]
    have hk := fun w => rsmall_any 95 w ⟨h0, h1⟩
    generalize smallF 95 = s at *
    go_enter Tryz.func142, Tryz.ntmps142
    go_wp2_with fail
    refine (hk _).mono ?_
    rintro e w1 ⟨rfl, rfl⟩
    go_wp2
    go_ret
    exact ⟨rfl, rfl⟩
  · rw [show startB c = true from by exact decide_eq_true (by omega)]
    have n95 : (c == 95) = false := beq_eq_false_iff_ne.2 (by omega)
    have d122 : decide (smallF c ≤ 122) = false := decide_eq_false q1
    have hk := fun w => rsmall_any c w ⟨h0, h1⟩
    generalize smallF c = s at *
    go_enter Tryz.func142, Tryz.ntmps142
    go_wp2_with fail
    refine (hk _).mono ?_
    rintro e w1 ⟨rfl, rfl⟩
    go_wp2
    go_ret
    exact ⟨rfl, rfl⟩
  · rw [show startB c = false from by exact decide_eq_false (by omega)]
    have n95 : (c == 95) = false := beq_eq_false_iff_ne.2 (by omega)
    have d128 : decide (128 ≤ c) = false := decide_eq_false q3
    have d122 : decide (smallF c ≤ 122) = false := decide_eq_false q1
    have hk := fun w => rsmall_any c w ⟨h0, h1⟩
    generalize smallF c = s at *
    go_enter Tryz.func142, Tryz.ntmps142
    go_wp2_with fail
    refine (hk _).mono ?_
    rintro e w1 ⟨rfl, rfl⟩
    go_wp2
    go_ret
    exact ⟨rfl, rfl⟩
end

section
open Go.RowKit

def hexV (c : Int) : Int := if 48 ≤ c ∧ c ≤ 57 then c - 48 else if 97 ≤ smallF c ∧ smallF c ≤ 102 then smallF c - 87 else -1

set_option maxRecDepth 100000 in
set_option maxHeartbeats 1000000 in
theorem space_any (c : Int) (w : World) (hc : Ch c) : Calls Tryz.prog 84 #[.int .i64 c] w (Tells (.bool (spaceB c)) w) := by
  obtain ⟨h0, h1⟩ := hc
  rcases (show (c = 32) ∨ (c = 9) ∨ (c = 10) ∨ (c ≠ 32 ∧ c ≠ 9 ∧ c ≠ 10) from by omega) with rfl | rfl | rfl | ⟨q0, q1, q2⟩
  · go_enter Tryz.func84, Tryz.ntmps84
    go_wp2
    go_ret
    exact ⟨rfl, rfl⟩
  · go_enter Tryz.func84, Tryz.ntmps84
    go_wp2
    go_ret
    exact ⟨rfl, rfl⟩
  · go_enter Tryz.func84, Tryz.ntmps84
    go_wp2
    go_ret
    exact ⟨rfl, rfl⟩
  · rw [show spaceB c = false from decide_eq_false (by omega)]
    have n0 : (c == 32) = false := beq_eq_false_iff_ne.2 q0
    have n1 : (c == 9) = false := beq_eq_false_iff_ne.2 q1
    have n2 : (c == 10) = false := beq_eq_false_iff_ne.2 q2
    go_enter Tryz.func84, Tryz.ntmps84
    go_wp2
    go_ret
    exact ⟨rfl, rfl⟩

set_option maxRecDepth 100000 in
set_option maxHeartbeats 1000000 in
theorem rspace_any (c : Int) (w : World) (hc : Ch c) : Calls Tryz.prog 71 #[.int .i64 c] w (Tells (.bool (spaceB c)) w) := by
  obtain ⟨h0, h1⟩ := hc
  rcases (show (c = 32) ∨ (c = 9) ∨ (c = 10) ∨ (c ≠ 32 ∧ c ≠ 9 ∧ c ≠ 10) from by omega) with rfl | rfl | rfl | ⟨q0, q1, q2⟩
  · go_enter Tryz.func71, Tryz.ntmps71
    go_wp2
    go_ret
    exact ⟨rfl, rfl⟩
  · go_enter Tryz.func71, Tryz.ntmps71
    go_wp2
    go_ret
    exact ⟨rfl, rfl⟩
  · go_enter Tryz.func71, Tryz.ntmps71
    go_wp2
    go_ret
    exact ⟨rfl, rfl⟩
  · rw [show spaceB c = false from decide_eq_false (by omega)]
    have n0 : (c == 32) = false := beq_eq_false_iff_ne.2 q0
    have n1 : (c == 9) = false := beq_eq_false_iff_ne.2 q1
    have n2 : (c == 10) = false := beq_eq_false_iff_ne.2 q2
    go_enter Tryz.func71, Tryz.ntmps71
    go_wp2
    go_ret
    exact ⟨rfl, rfl⟩

set_option maxRecDepth 100000 in
set_option maxHeartbeats 1000000 in
theorem rname_any (c : Int) (w : World) (hc : Ch c) : Calls Tryz.prog 116 #[.int .i64 c] w (Tells (.bool (nameB c)) w) := by
  have hs := fun w => rstart_any c w hc
  have hd := fun w => rdigit_any c w hc
  unfold nameB
  obtain ⟨h0, h1⟩ := hc
  by_cases h : c = 45
  · rw [show decide (c = 45) = true from decide_eq_true h]
    have n0 : (c == 45) = true := beq_iff_eq.2 h
    clear h
    generalize startB c = s at *
    generalize digitB c = d at *
    cases s <;> cases d
    all_goals
      go_enter Tryz.func116, Tryz.ntmps116
      go_wp2_with (first | (go_at_call 142; refine (hs _).mono ?_; rintro e w1 ⟨rfl, rfl⟩) | (go_at_call 61; refine (hd _).mono ?_; rintro e w1 ⟨rfl, rfl⟩))
      go_ret
      exact ⟨rfl, rfl⟩
  · rw [show decide (c = 45) = false from decide_eq_false h]
    have n0 : (c == 45) = false := beq_eq_false_iff_ne.2 h
    generalize startB c = s at *
    generalize digitB c = d at *
    cases s <;> cases d
    all_goals
      go_enter Tryz.func116, Tryz.ntmps116
      go_wp2_with (first | (go_at_call 142; refine (hs _).mono ?_; rintro e w1 ⟨rfl, rfl⟩) | (go_at_call 61; refine (hd _).mono ?_; rintro e w1 ⟨rfl, rfl⟩))
      go_ret
      exact ⟨rfl, rfl⟩

set_option maxRecDepth 100000 in
set_option maxHeartbeats 1000000 in
theorem name_any (c : Int) (w : World) (hc : Ch c) : Calls Tryz.prog 129 #[.int .i64 c] w (Tells (.bool (nameB c)) w) := by
  have hs := fun w => start_any c w hc
  have hd := fun w => digit_any c w hc
  unfold nameB
  obtain ⟨h0, h1⟩ := hc
  by_cases h : c = 45
  · rw [show decide (c = 45) = true from decide_eq_true h]
    have n0 : (c == 45) = true := beq_iff_eq.2 h
    clear h
    generalize startB c = s at *
    generalize digitB c = d at *
    cases s <;> cases d
    all_goals
      go_enter Tryz.func129, Tryz.ntmps129
      go_wp2_with (first | (go_at_call 127; refine (hs _).mono ?_; rintro e w1 ⟨rfl, rfl⟩) | (go_at_call 104; refine (hd _).mono ?_; rintro e w1 ⟨rfl, rfl⟩))
      go_ret
      exact ⟨rfl, rfl⟩
  · rw [show decide (c = 45) = false from decide_eq_false h]
    have n0 : (c == 45) = false := beq_eq_false_iff_ne.2 h
    generalize startB c = s at *
    generalize digitB c = d at *
    cases s <;> cases d
    all_goals
      go_enter Tryz.func129, Tryz.ntmps129
      go_wp2_with (first | (go_at_call 127; refine (hs _).mono ?_; rintro e w1 ⟨rfl, rfl⟩) | (go_at_call 104; refine (hd _).mono ?_; rintro e w1 ⟨rfl, rfl⟩))
      go_ret
      exact ⟨rfl, rfl⟩
end

section
open Go.RowKit

/-- What Prepare makes of the number at a place. -/
def prepAt (zs : List Int) (k : Nat) : List Int :=
  if zs[k]?.getD 0 = 13 ∧ k + 1 < zs.length ∧ zs[k + 1]?.getD 0 = 10 then []
  else if zs[k]?.getD 0 = 13 ∨ zs[k]?.getD 0 = 12 then [10]
  else if zs[k]?.getD 0 = 0 then [65533] else [charOf (zs[k]?.getD 0)]
def prepTo (zs : List Int) : Nat → List Int
  | 0 => []
  | k + 1 => prepTo zs k ++ prepAt zs k
def prepF (zs : List Int) : List Int := prepTo zs zs.length
theorem prepTo_len (zs : List Int) (k : Nat) : (prepTo zs k).length ≤ k := by
  induction k with
  | zero => simp [prepTo]
  | succ k ih =>
    rw [prepTo, List.length_append]
    have : (prepAt zs k).length ≤ 1 := by unfold prepAt; (repeat' split) <;> simp
    omega

theorem prep_cases (zs : List Int) (k : Nat) : (zs[k]?.getD 0 = 13 ∧ k + 1 < zs.length ∧ zs[k + 1]?.getD 0 = 10 ∧ prepAt zs k = []) ∨
    (zs[k]?.getD 0 = 13 ∧ zs.length ≤ k + 1 ∧ prepAt zs k = [10]) ∨ (zs[k]?.getD 0 = 13 ∧ k + 1 < zs.length ∧ zs[k + 1]?.getD 0 ≠ 10 ∧ prepAt zs k = [10]) ∨
    (zs[k]?.getD 0 = 12 ∧ prepAt zs k = [10]) ∨ (zs[k]?.getD 0 = 0 ∧ prepAt zs k = [65533]) ∨
    (zs[k]?.getD 0 ≠ 13 ∧ zs[k]?.getD 0 ≠ 12 ∧ zs[k]?.getD 0 ≠ 0 ∧ prepAt zs k = [charOf (zs[k]?.getD 0)]) := by
  unfold prepAt
  by_cases h1 : zs[k]?.getD 0 = 13
  · by_cases h2 : k + 1 < zs.length
    · by_cases h3 : zs[k + 1]?.getD 0 = 10
      · left; exact ⟨h1, h2, h3, by rw [if_pos ⟨h1, h2, h3⟩]⟩
      · right; right; left; exact ⟨h1, h2, h3, by rw [if_neg (fun h => h3 h.2.2), if_pos (.inl h1)]⟩
    · right; left; exact ⟨h1, by omega, by rw [if_neg (fun h => h2 h.2.1), if_pos (.inl h1)]⟩
  · by_cases h4 : zs[k]?.getD 0 = 12
    · right; right; right; left; exact ⟨h4, by rw [if_neg (fun h => h1 h.1), if_pos (.inr h4)]⟩
    · by_cases h5 : zs[k]?.getD 0 = 0
      · right; right; right; right; left; exact ⟨h5, by rw [if_neg (fun h => h1 h.1), if_neg (by omega), if_pos h5]⟩
      · right; right; right; right; right; exact ⟨h1, h4, h5, by rw [if_neg (fun h => h1 h.1), if_neg (by omega), if_neg h5]⟩

set_option maxRecDepth 100000 in
set_option maxHeartbeats 2000000 in
theorem prepare_some (b off len cap : Nat) (zs : List Int) (w : World) (hlen : zs.length = len) (h1 : 1 ≤ len) (hl : len ≤ cap) (hcap : cap ≤ maxLen) (hat : At w .i64 b off zs) (hz : I64 zs) (hsm : len ≤ 100000) :
    Calls Tryz.prog 22 #[.slice (some ⟨b, off, none⟩) len cap] w (NewPost .i64 (prepF zs) w) := by
  obtain ⟨i0, hi, hz0, hz1, hz2⟩ := info_parts Tryz.info3
  unfold maxLen at hcap
  have H0 := Lib.hid hlen; clear hlen
  go_enter Tryz.func22, Tryz.ntmps22
  go_wp2_with (refine wpList_make_own _ rfl _ _ 28 rfl w.heap.size 3 i0 (.int .i64 0) 1 Tryz.underlying28 hi hz0 hz1 .i64 .i64 _ len rfl rfl rfl (by rw [hz2]; omega) (by unfold maxLen; omega) (Nat.le_refl _) ?_; intro w1 hown1 hgrow1)
  go_loopw [3, 11] (fun v i wr => ∃ k : Nat, k ≤ len ∧ i = .int .i64 k ∧ wr.ownsRow w.heap.size 3 1 v (prepTo zs k).length ((prepTo zs k).map (Value.int .i64)) ∧ Below w.heap.size w wr)
    (fun _ i _ => len - (intOf i).toNat)
  case atStart => exact ⟨0, by omega, rfl, hown1, Below.of_grown hgrow1 (Nat.le_refl _) (by rintro _ ⟨⟩)⟩
  case round =>
    obtain ⟨k, hk, rfl, hown, hbl⟩ := hrel
    by_cases hlt : k < len
    · have hkz : k < zs.length := by rw [H0.out]; exact hlt
      have HT : Hid (prepTo zs (k + 1) = prepTo zs k ++ prepAt zs k) := Lib.hid rfl
      have hll := prepTo_len zs k
      have hc := (hat.later hbl hat.1).2 k hkz
      have hc1 := (hat.later hbl hat.1).2 (k + 1)
      have hcz := hz.at k
      have hlt' : (k : Int) < (len : Int) := by omega
      clear hkz
      have key := prep_cases zs k
      rw [H0.out] at key hc1
      generalize prepTo zs k = acc at *
      rcases key with ⟨e1, e2, e3, HP⟩ | ⟨e1, e2, HP⟩ | ⟨e1, e2, e3, HP⟩ | ⟨e1, HP⟩ | ⟨e1, HP⟩ | ⟨e1, e2, e3, HP⟩
      · have hd := hc1 e2
        have e2' : (k : Int) + 1 < (len : Int) := by omega
        rw [e1] at hc
        rw [e3] at hd
        have HP := Lib.hid HP
        clear e1 e3 hcz hc1
        go_wp2
        go_roundw
        case rel => exact ⟨k + 1, by omega, by go_num, by rw [HT.out, HP.out, List.append_nil]; exact hown, hbl⟩
        case measure => simp [intOf]; omega
      · have HP := Lib.hid HP
        have e2' : (len : Int) ≤ (k : Int) + 1 := by omega
        rw [e1] at hc
        clear e1 hcz hc1
        · go_wp2_with (at_builtin; refine wpList_append_reads rfl _ _ 28 rfl w.heap.size 3 i0 .i64 8 Tryz.underlying28 hi hz0 hz1 hz2 _ acc.length acc rfl (hown.alloc _) rfl (some ⟨wr.heap.size, 0, none⟩) 1 1 [10] rfl rfl (reads_new wr .i64 _ 3 1 rfl (by unfold maxLen; omega)) (fun h => by cases h) (by unfold maxLen; omega) (by omega) (by have := hbl.size; simp; omega) ?_; intro v' w4 hown4 hgrow4)
          have hbl4 : Below w.heap.size w w4 := (hbl.alloc hbl.size _).grown hgrow4 (by have := hbl.size; simp; omega) (fun j hj => (hown.lt j hj).1)
          go_roundw
          case rel => exact ⟨k + 1, by omega, by go_num, by rw [HT.out, HP.out]; exact hown4, hbl4⟩
          case measure => simp [intOf]; omega
      · have hd := hc1 e2
        have e2' : (k : Int) + 1 < (len : Int) := by omega
        have e3' : (zs[k + 1]?.getD 0 == 10) = false := by rw [beq_eq_false_iff_ne]; exact e3
        generalize zs[k + 1]?.getD 0 = d at hd e3'
        rw [e1] at hc
        have HP := Lib.hid HP
        clear e1 e3 hcz hc1
        · go_wp2_with (at_builtin; refine wpList_append_reads rfl _ _ 28 rfl w.heap.size 3 i0 .i64 8 Tryz.underlying28 hi hz0 hz1 hz2 _ acc.length acc rfl (hown.alloc _) rfl (some ⟨wr.heap.size, 0, none⟩) 1 1 [10] rfl rfl (reads_new wr .i64 _ 3 1 rfl (by unfold maxLen; omega)) (fun h => by cases h) (by unfold maxLen; omega) (by omega) (by have := hbl.size; simp; omega) ?_; intro v' w4 hown4 hgrow4)
          have hbl4 : Below w.heap.size w w4 := (hbl.alloc hbl.size _).grown hgrow4 (by have := hbl.size; simp; omega) (fun j hj => (hown.lt j hj).1)
          go_roundw
          case rel => exact ⟨k + 1, by omega, by go_num, by rw [HT.out, HP.out]; exact hown4, hbl4⟩
          case measure => simp [intOf]; omega
      · have HP := Lib.hid HP
        rw [e1] at hc
        clear e1 hcz hc1
        · go_wp2_with (at_builtin; refine wpList_append_reads rfl _ _ 28 rfl w.heap.size 3 i0 .i64 8 Tryz.underlying28 hi hz0 hz1 hz2 _ acc.length acc rfl (hown.alloc _) rfl (some ⟨wr.heap.size, 0, none⟩) 1 1 [10] rfl rfl (reads_new wr .i64 _ 3 1 rfl (by unfold maxLen; omega)) (fun h => by cases h) (by unfold maxLen; omega) (by omega) (by have := hbl.size; simp; omega) ?_; intro v' w4 hown4 hgrow4)
          have hbl4 : Below w.heap.size w w4 := (hbl.alloc hbl.size _).grown hgrow4 (by have := hbl.size; simp; omega) (fun j hj => (hown.lt j hj).1)
          go_roundw
          case rel => exact ⟨k + 1, by omega, by go_num, by rw [HT.out, HP.out]; exact hown4, hbl4⟩
          case measure => simp [intOf]; omega
      · have HP := Lib.hid HP
        rw [e1] at hc
        clear e1 hcz hc1
        · go_wp2_with (at_builtin; refine wpList_append_reads rfl _ _ 28 rfl w.heap.size 3 i0 .i64 8 Tryz.underlying28 hi hz0 hz1 hz2 _ acc.length acc rfl (hown.alloc _) rfl (some ⟨wr.heap.size, 0, none⟩) 1 1 [65533] rfl rfl (reads_new wr .i64 _ 3 1 rfl (by unfold maxLen; omega)) (fun h => by cases h) (by unfold maxLen; omega) (by omega) (by have := hbl.size; simp; omega) ?_; intro v' w4 hown4 hgrow4)
          have hbl4 : Below w.heap.size w w4 := (hbl.alloc hbl.size _).grown hgrow4 (by have := hbl.size; simp; omega) (fun j hj => (hown.lt j hj).1)
          go_roundw
          case rel => exact ⟨k + 1, by omega, by go_num, by rw [HT.out, HP.out]; exact hown4, hbl4⟩
          case measure => simp [intOf]; omega
      · have HP := Lib.hid HP
        have q1 : (zs[k]?.getD 0 == 13) = false := by rw [beq_eq_false_iff_ne]; exact e1
        have q2 : (zs[k]?.getD 0 == 12) = false := by rw [beq_eq_false_iff_ne]; exact e2
        have q3 : (zs[k]?.getD 0 == 0) = false := by rw [beq_eq_false_iff_ne]; exact e3
        generalize zs[k]?.getD 0 = c at hc q1 q2 q3 HP
        clear e1 e2 e3 hcz hc1
        have hbd := right_bd (charOf_right c)
        go_wp2_with fail
        refine (character_any c wr).mono ?_
        rintro e w2 ⟨rfl, rfl⟩
        · go_wp2_with (at_builtin; refine wpList_append_reads rfl _ _ 28 rfl w.heap.size 3 i0 .i64 8 Tryz.underlying28 hi hz0 hz1 hz2 _ acc.length acc rfl (hown.alloc _) rfl (some ⟨wr.heap.size, 0, none⟩) 1 1 [charOf c] rfl rfl (reads_new wr .i64 _ 3 1 rfl (by unfold maxLen; omega)) (fun h => by cases h) (by unfold maxLen; omega) (by omega) (by have := hbl.size; simp; omega) ?_; intro v' w4 hown4 hgrow4)
          have hbl4 : Below w.heap.size w w4 := (hbl.alloc hbl.size _).grown hgrow4 (by have := hbl.size; simp; omega) (fun j hj => (hown.lt j hj).1)
          go_roundw
          case rel => exact ⟨k + 1, by omega, by go_num, by rw [HT.out, HP.out]; exact hown4, hbl4⟩
          case measure => simp [intOf]; omega
    · have hkl : k = len := by omega
      go_wp2
      go_ret
      have he : prepTo zs k = prepF zs := by unfold prepF; rw [H0.out, hkl]
      rw [he] at hown
      exact newPost_of_owns hown hbl

set_option maxRecDepth 100000 in
set_option maxHeartbeats 2000000 in
theorem refPrepare_some (b off len cap : Nat) (zs : List Int) (w : World) (hlen : zs.length = len) (h1 : 1 ≤ len) (hl : len ≤ cap) (hcap : cap ≤ maxLen) (hat : At w .i64 b off zs) (hz : I64 zs) (hsm : len ≤ 100000) :
    Calls Tryz.prog 12 #[.slice (some ⟨b, off, none⟩) len cap] w (NewPost .i64 (prepF zs) w) := by
  obtain ⟨i0, hi, hz0, hz1, hz2⟩ := info_parts Tryz.info3
  unfold maxLen at hcap
  have H0 := Lib.hid hlen; clear hlen
  have own0 := World.ownsRow_made (base := w.heap.size) (e := 3) (size := 1) w #[] 0 (Nat.le_refl _) (by simp [maxLen]) (by simp)
  go_enter Tryz.func12, Tryz.ntmps12
  go_wp2
  go_loopw [3, 4] (fun v i wr => ∃ k : Nat, k ≤ len ∧ i = .int .i64 k ∧ wr.ownsRow w.heap.size 3 1 v (prepTo zs k).length ((prepTo zs k).map (Value.int .i64)) ∧ Below w.heap.size w wr)
    (fun _ i _ => len - (intOf i).toNat)
  case atStart => exact ⟨0, by omega, rfl, own0, (Below.refl _ w).alloc (Nat.le_refl _) _⟩
  case round =>
    obtain ⟨k, hk, rfl, hown, hbl⟩ := hrel
    by_cases hlt : k < len
    · have hkz : k < zs.length := by rw [H0.out]; exact hlt
      have HT : Hid (prepTo zs (k + 1) = prepTo zs k ++ prepAt zs k) := Lib.hid rfl
      have hll := prepTo_len zs k
      have hc := (hat.later hbl hat.1).2 k hkz
      have hc1 := (hat.later hbl hat.1).2 (k + 1)
      have hcz := hz.at k
      have hlt' : (k : Int) < (len : Int) := by omega
      clear hkz
      have key := prep_cases zs k
      rw [H0.out] at key hc1
      generalize prepTo zs k = acc at *
      rcases key with ⟨e1, e2, e3, HP⟩ | ⟨e1, e2, HP⟩ | ⟨e1, e2, e3, HP⟩ | ⟨e1, HP⟩ | ⟨e1, HP⟩ | ⟨e1, e2, e3, HP⟩
      · have hd := hc1 e2
        have e2' : (k : Int) + 1 < (len : Int) := by omega
        rw [e1] at hc
        rw [e3] at hd
        have HP := Lib.hid HP
        clear e1 e3 hcz hc1
        go_wp2
        go_roundw
        case rel => exact ⟨k + 1, by omega, by go_num, by rw [HT.out, HP.out, List.append_nil]; exact hown, hbl⟩
        case measure => simp [intOf]; omega
      · have HP := Lib.hid HP
        have e2' : (len : Int) ≤ (k : Int) + 1 := by omega
        rw [e1] at hc
        clear e1 hcz hc1
        · go_wp2_with fail
          refine (refRight_any 10 wr).mono ?_
          rintro e w2 ⟨he, rfl⟩
          rw [show rightB 10 = true from by decide] at he
          subst he
          go_wp2_with (at_builtin; refine wpList_append_reads rfl _ _ 28 rfl w.heap.size 3 i0 .i64 8 Tryz.underlying28 hi hz0 hz1 hz2 _ acc.length acc rfl (hown.alloc _) rfl (some ⟨wr.heap.size, 0, none⟩) 1 1 [10] rfl rfl (reads_new wr .i64 _ 3 1 rfl (by unfold maxLen; omega)) (fun h => by cases h) (by unfold maxLen; omega) (by omega) (by have := hbl.size; simp; omega) ?_; intro v' w4 hown4 hgrow4)
          have hbl4 : Below w.heap.size w w4 := (hbl.alloc hbl.size _).grown hgrow4 (by have := hbl.size; simp; omega) (fun j hj => (hown.lt j hj).1)
          go_roundw
          case rel => exact ⟨k + 1, by omega, by go_num, by rw [HT.out, HP.out]; exact hown4, hbl4⟩
          case measure => simp [intOf]; omega
      · have hd := hc1 e2
        have e2' : (k : Int) + 1 < (len : Int) := by omega
        have e3' : (zs[k + 1]?.getD 0 == 10) = false := by rw [beq_eq_false_iff_ne]; exact e3
        generalize zs[k + 1]?.getD 0 = d at hd e3'
        rw [e1] at hc
        have HP := Lib.hid HP
        clear e1 e3 hcz hc1
        · go_wp2_with fail
          refine (refRight_any 10 wr).mono ?_
          rintro e w2 ⟨he, rfl⟩
          rw [show rightB 10 = true from by decide] at he
          subst he
          go_wp2_with (at_builtin; refine wpList_append_reads rfl _ _ 28 rfl w.heap.size 3 i0 .i64 8 Tryz.underlying28 hi hz0 hz1 hz2 _ acc.length acc rfl (hown.alloc _) rfl (some ⟨wr.heap.size, 0, none⟩) 1 1 [10] rfl rfl (reads_new wr .i64 _ 3 1 rfl (by unfold maxLen; omega)) (fun h => by cases h) (by unfold maxLen; omega) (by omega) (by have := hbl.size; simp; omega) ?_; intro v' w4 hown4 hgrow4)
          have hbl4 : Below w.heap.size w w4 := (hbl.alloc hbl.size _).grown hgrow4 (by have := hbl.size; simp; omega) (fun j hj => (hown.lt j hj).1)
          go_roundw
          case rel => exact ⟨k + 1, by omega, by go_num, by rw [HT.out, HP.out]; exact hown4, hbl4⟩
          case measure => simp [intOf]; omega
      · have HP := Lib.hid HP
        rw [e1] at hc
        clear e1 hcz hc1
        · go_wp2_with fail
          refine (refRight_any 10 wr).mono ?_
          rintro e w2 ⟨he, rfl⟩
          rw [show rightB 10 = true from by decide] at he
          subst he
          go_wp2_with (at_builtin; refine wpList_append_reads rfl _ _ 28 rfl w.heap.size 3 i0 .i64 8 Tryz.underlying28 hi hz0 hz1 hz2 _ acc.length acc rfl (hown.alloc _) rfl (some ⟨wr.heap.size, 0, none⟩) 1 1 [10] rfl rfl (reads_new wr .i64 _ 3 1 rfl (by unfold maxLen; omega)) (fun h => by cases h) (by unfold maxLen; omega) (by omega) (by have := hbl.size; simp; omega) ?_; intro v' w4 hown4 hgrow4)
          have hbl4 : Below w.heap.size w w4 := (hbl.alloc hbl.size _).grown hgrow4 (by have := hbl.size; simp; omega) (fun j hj => (hown.lt j hj).1)
          go_roundw
          case rel => exact ⟨k + 1, by omega, by go_num, by rw [HT.out, HP.out]; exact hown4, hbl4⟩
          case measure => simp [intOf]; omega
      · have HP := Lib.hid HP
        rw [e1] at hc
        clear e1 hcz hc1
        · go_wp2_with (at_builtin; refine wpList_append_reads rfl _ _ 28 rfl w.heap.size 3 i0 .i64 8 Tryz.underlying28 hi hz0 hz1 hz2 _ acc.length acc rfl (hown.alloc _) rfl (some ⟨wr.heap.size, 0, none⟩) 1 1 [65533] rfl rfl (reads_new wr .i64 _ 3 1 rfl (by unfold maxLen; omega)) (fun h => by cases h) (by unfold maxLen; omega) (by omega) (by have := hbl.size; simp; omega) ?_; intro v' w4 hown4 hgrow4)
          have hbl4 : Below w.heap.size w w4 := (hbl.alloc hbl.size _).grown hgrow4 (by have := hbl.size; simp; omega) (fun j hj => (hown.lt j hj).1)
          go_roundw
          case rel => exact ⟨k + 1, by omega, by go_num, by rw [HT.out, HP.out]; exact hown4, hbl4⟩
          case measure => simp [intOf]; omega
      · have HP := Lib.hid HP
        have q1 : (zs[k]?.getD 0 == 13) = false := by rw [beq_eq_false_iff_ne]; exact e1
        have q2 : (zs[k]?.getD 0 == 12) = false := by rw [beq_eq_false_iff_ne]; exact e2
        have q3 : (zs[k]?.getD 0 == 0) = false := by rw [beq_eq_false_iff_ne]; exact e3
        generalize zs[k]?.getD 0 = c at hc q1 q2 q3 HP
        clear e1 e2 e3 hcz hc1
        by_cases hrc : rightB c = true
        · have HC : Hid (charOf c = c) := Lib.hid (by unfold charOf; rw [if_pos hrc])
          go_wp2_with fail
          refine (refRight_any c wr).mono ?_
          rintro e w2 ⟨he, rfl⟩
          rw [hrc] at he
          subst he
          clear hrc
          go_wp2_with (at_builtin; refine wpList_append_reads rfl _ _ 28 rfl w.heap.size 3 i0 .i64 8 Tryz.underlying28 hi hz0 hz1 hz2 _ acc.length acc rfl (hown.alloc _) rfl (some ⟨wr.heap.size, 0, none⟩) 1 1 [c] rfl rfl (reads_new wr .i64 _ 3 1 rfl (by unfold maxLen; omega)) (fun h => by cases h) (by unfold maxLen; omega) (by omega) (by have := hbl.size; simp; omega) ?_; intro v' w4 hown4 hgrow4)
          have hbl4 : Below w.heap.size w w4 := (hbl.alloc hbl.size _).grown hgrow4 (by have := hbl.size; simp; omega) (fun j hj => (hown.lt j hj).1)
          go_roundw
          case rel => exact ⟨k + 1, by omega, by go_num, by rw [HT.out, HP.out, HC.out]; exact hown4, hbl4⟩
          case measure => simp [intOf]; omega
        · have hrf : rightB c = false := by simpa using hrc
          have HC : Hid (charOf c = 65533) := Lib.hid (by unfold charOf; rw [if_neg hrc])
          go_wp2_with fail
          refine (refRight_any c wr).mono ?_
          rintro e w2 ⟨he, rfl⟩
          rw [hrf] at he
          subst he
          clear hrc hrf
          go_wp2_with (at_builtin; refine wpList_append_reads rfl _ _ 28 rfl w.heap.size 3 i0 .i64 8 Tryz.underlying28 hi hz0 hz1 hz2 _ acc.length acc rfl (hown.alloc _) rfl (some ⟨wr.heap.size, 0, none⟩) 1 1 [65533] rfl rfl (reads_new wr .i64 _ 3 1 rfl (by unfold maxLen; omega)) (fun h => by cases h) (by unfold maxLen; omega) (by omega) (by have := hbl.size; simp; omega) ?_; intro v' w4 hown4 hgrow4)
          have hbl4 : Below w.heap.size w w4 := (hbl.alloc hbl.size _).grown hgrow4 (by have := hbl.size; simp; omega) (fun j hj => (hown.lt j hj).1)
          go_roundw
          case rel => exact ⟨k + 1, by omega, by go_num, by rw [HT.out, HP.out, HC.out]; exact hown4, hbl4⟩
          case measure => simp [intOf]; omega
    · have hkl : k = len := by omega
      go_wp2
      go_ret
      have he : prepTo zs k = prepF zs := by unfold prepF; rw [H0.out, hkl]
      rw [he] at hown
      exact newPost_of_owns hown hbl

set_option maxRecDepth 100000 in
set_option maxHeartbeats 400000 in
theorem prepare_none (a : Option Addr) (cap : Nat) (w : World) : Calls Tryz.prog 22 #[.slice a 0 cap] w (NewPost .i64 (prepF []) w) := by
  obtain ⟨i0, hi, hz0, hz1, hz2⟩ := info_parts Tryz.info3
  go_enter Tryz.func22, Tryz.ntmps22
  go_wp2_with (refine wpList_make_own _ rfl _ _ 28 rfl w.heap.size 3 i0 (.int .i64 0) 1 Tryz.underlying28 hi hz0 hz1 .i64 .i64 _ 0 rfl rfl rfl (by rw [hz2]; omega) (by unfold maxLen; omega) (Nat.le_refl _) ?_; intro w1 hown1 hgrow1)
  refine wp_loop_rounds 1 ?_; rw [rounds_succ]
  go_wp2
  go_ret
  exact newPost_of_owns (zs := prepF []) hown1 (Below.of_grown hgrow1 (Nat.le_refl _) (by rintro _ ⟨⟩))

theorem refPrepare_none (a : Option Addr) (cap : Nat) (w : World) : Calls Tryz.prog 12 #[.slice a 0 cap] w (NewPost .i64 (prepF []) w) := by
  have own0 := World.ownsRow_made (base := w.heap.size) (e := 3) (size := 1) w #[] 0 (Nat.le_refl _) (by simp [maxLen]) (by simp)
  go_enter Tryz.func12, Tryz.ntmps12
  go_wp2
  refine wp_loop_rounds 1 ?_; rw [rounds_succ]
  go_wp2
  go_ret
  exact newPost_of_owns (zs := prepF []) own0 ((Below.refl _ w).alloc (Nat.le_refl _) _)

theorem prepare_any (a : Option Addr) (cap n : Nat) (zs : List Int) (w : World) (hn : zs.length = n) (hr : Reads w .i64 a cap zs) (hz : I64 zs) (hsm : n ≤ 100000) :
    Calls Tryz.prog 22 #[.slice a n cap] w (NewPost .i64 (prepF zs) w) := by
  obtain ⟨h1, h2, h3⟩ := hr
  by_cases h0 : zs = []
  · subst h0; subst hn; exact prepare_none _ cap w
  · obtain ⟨b, off, rfl, hat⟩ := h3.resolve_left h0
    exact prepare_some b off n cap zs w hn (by rw [← hn]; exact List.length_pos_iff.2 h0) (by omega) h2 hat hz hsm

theorem refPrepare_any (a : Option Addr) (cap n : Nat) (zs : List Int) (w : World) (hn : zs.length = n) (hr : Reads w .i64 a cap zs) (hz : I64 zs) (hsm : n ≤ 100000) :
    Calls Tryz.prog 12 #[.slice a n cap] w (NewPost .i64 (prepF zs) w) := by
  obtain ⟨h1, h2, h3⟩ := hr
  by_cases h0 : zs = []
  · subst h0; subst hn; exact refPrepare_none _ cap w
  · obtain ⟨b, off, rfl, hat⟩ := h3.resolve_left h0
    exact refPrepare_some b off n cap zs w hn (by rw [← hn]; exact List.length_pos_iff.2 h0) (by omega) h2 hat hz hsm
end

section
open Go.RowKit

/-- The character at a place; 0: there is none. -/
def chA (l : List Int) (j : Nat) : Int := l[j]?.getD 0
/-- Characters that were prepared: none is 0. -/
def Pre (l : List Int) : Prop := ∀ c ∈ l, 1 ≤ c ∧ c < 1114112
theorem chA_end (l : List Int) (j : Nat) (h : l.length ≤ j) : chA l j = 0 := by unfold chA; rw [List.getElem?_eq_none h]; rfl
theorem chA_lt {l : List Int} (hl : Pre l) {j : Nat} (h : j < l.length) : 1 ≤ chA l j ∧ chA l j < 1114112 := by
  unfold chA; rw [List.getElem?_eq_getElem h]; exact hl _ (List.getElem_mem h)
theorem chA_ch {l : List Int} (hl : Pre l) (j : Nat) : Ch (chA l j) := by
  rcases Nat.lt_or_ge j l.length with h | h
  · have := chA_lt hl h; unfold Ch; omega
  · rw [chA_end l j h]; unfold Ch; omega
theorem lt_of_chA {l : List Int} {j : Nat} (h : chA l j ≠ 0) : j < l.length := by
  rcases Nat.lt_or_ge j l.length with h' | h'
  · exact h'
  · exact absurd (chA_end l j h') h

/-- Tests at a place. -/
def isB (l : List Int) (j : Nat) (c : Int) : Bool := decide (chA l j = c)
def spB (l : List Int) (j : Nat) : Bool := spaceB (chA l j)
def dgB (l : List Int) (j : Nat) : Bool := digitB (chA l j)
def stB (l : List Int) (j : Nat) : Bool := startB (chA l j)
def nmB (l : List Int) (j : Nat) : Bool := nameB (chA l j)
def escB (l : List Int) (j : Nat) : Bool := isB l j 92 && !isB l (j + 1) 10
def hxB (l : List Int) (j : Nat) : Bool := decide (0 ≤ hexV (chA l j))
theorem isB_iff {l : List Int} {j : Nat} {c : Int} : isB l j c = true ↔ chA l j = c := by unfold isB; exact decide_eq_true_iff
theorem lt_of_isB {l : List Int} {j : Nat} {c : Int} (h : isB l j c = true) (hc : c ≠ 0) : j < l.length := lt_of_chA (by rw [isB_iff.1 h]; exact hc)
theorem lt_of_spB {l : List Int} {j : Nat} (h : spB l j = true) : j < l.length := lt_of_chA fun h0 => by unfold spB at h; rw [h0] at h; exact absurd h (by decide)
theorem lt_of_dgB {l : List Int} {j : Nat} (h : dgB l j = true) : j < l.length := lt_of_chA fun h0 => by unfold dgB at h; rw [h0] at h; exact absurd h (by decide)
theorem lt_of_stB {l : List Int} {j : Nat} (h : stB l j = true) : j < l.length := lt_of_chA fun h0 => by unfold stB at h; rw [h0] at h; exact absurd h (by decide)
theorem lt_of_nmB {l : List Int} {j : Nat} (h : nmB l j = true) : j < l.length := lt_of_chA fun h0 => by unfold nmB at h; rw [h0] at h; exact absurd h (by decide)
theorem lt_of_hxB {l : List Int} {j : Nat} (h : hxB l j = true) : j < l.length := lt_of_chA fun h0 => by unfold hxB at h; rw [h0] at h; exact absurd h (by decide)
theorem lt_of_escB {l : List Int} {j : Nat} (h : escB l j = true) : j < l.length := lt_of_isB (by unfold escB at h; rw [Bool.and_eq_true] at h; exact h.1) (by decide)

/-- Up to so many digits of base 16, from a place on. -/
def hexGo : Nat → List Int → Nat → Int → Int × Nat
  | 0, _, i, n => (n, i)
  | f + 1, l, i, n => if hxB l i then hexGo f l (i + 1) (16 * n + hexV (chA l i)) else (n, i)
/-- A character as texts have it. -/
def cleanF (c : Int) : Int := if c = 0 then 65533 else charOf c
/-- What an escape stands for, and the place behind it. -/
def valueF (l : List Int) (j : Nat) : Int × Nat :=
  if l.length ≤ j + 1 then (65533, j + 1)
  else if (hexGo 6 l (j + 1) 0).2 = j + 1 then (chA l (j + 1), j + 2)
  else (cleanF (hexGo 6 l (j + 1) 0).1, if spB l (hexGo 6 l (j + 1) 0).2 then (hexGo 6 l (j + 1) 0).2 + 1 else (hexGo 6 l (j + 1) 0).2)
def nameAt (l : List Int) (j : Nat) : Bool := if isB l j 45 then isB l (j + 1) 45 || stB l (j + 1) || escB l (j + 1) else stB l j || escB l j
def signAt (l : List Int) (j : Nat) : Nat := if isB l j 43 || isB l j 45 then j + 1 else j
def fracAt (l : List Int) (j : Nat) : Bool := isB l j 46 && dgB l (j + 1)
def numAt (l : List Int) (j : Nat) : Bool := dgB l (signAt l j) || fracAt l (signAt l j)
/-- A name's characters from a place on, and the place behind them. -/
def namesGo : Nat → List Int → Nat → List Int → List Int × Nat
  | 0, _, j, out => (out, j)
  | f + 1, l, j, out => if nmB l j then namesGo f l (j + 1) (out ++ [chA l j]) else if escB l j then namesGo f l (valueF l j).2 (out ++ [(valueF l j).1]) else (out, j)
def namesF (l : List Int) (j : Nat) : List Int × Nat := namesGo (l.length + 1) l j []
def digitsGo : Nat → List Int → Nat → Nat
  | 0, _, j => j
  | f + 1, l, j => if dgB l j then digitsGo f l (j + 1) else j
def digitsF (l : List Int) (j : Nat) : Nat := digitsGo (l.length + 1) l j
def spacesGo : Nat → List Int → Nat → Nat
  | 0, _, j => j
  | f + 1, l, j => if spB l j then spacesGo f l (j + 1) else j
def spacesF (l : List Int) (j : Nat) : Nat := spacesGo (l.length + 1) l j
def expoB (l : List Int) (j : Nat) : Bool := (isB l j 101 || isB l j 69) && dgB l (signAt l (j + 1))
def expoF (l : List Int) (j : Nat) : Nat := if expoB l j then digitsF l (signAt l (j + 1)) else j
def fracF (l : List Int) (j : Nat) : Nat := if fracAt l j then digitsF l (j + 1) else j
/-- The place behind a number's characters, and whether it is whole. -/
def numberF (l : List Int) (j : Nat) : Nat × Bool :=
  (expoF l (fracF l (digitsF l (signAt l j))), !fracAt l (digitsF l (signAt l j)) && !expoB l (fracF l (digitsF l (signAt l j))))

/-- A token. -/
structure Tk where
  kind : Int
  frm : Nat
  to : Nat
  text : List Int
  num : List Int
  whole : Bool
deriving DecidableEq
/-- Characters as a text's bytes. -/
def bytesF (l : List Int) : List Int := textF (l.map cleanF)
def sliceF (l : List Int) (i j : Nat) : List Int := (l.drop i).take (j - i)

def numericF (l : List Int) (j : Nat) : Tk :=
  if nameAt l (numberF l j).1 then ⟨12, j, (namesF l (numberF l j).1).2, bytesF (namesF l (numberF l j).1).1, bytesF (sliceF l j (numberF l j).1), (numberF l j).2⟩
  else if isB l (numberF l j).1 37 then ⟨11, j, (numberF l j).1 + 1, [], bytesF (sliceF l j (numberF l j).1), (numberF l j).2⟩
  else ⟨10, j, (numberF l j).1, [], bytesF (sliceF l j (numberF l j).1), (numberF l j).2⟩

def quotedGo : Nat → List Int → Int → Nat → Nat → List Int → Tk
  | 0, _, _, frm, i, out => ⟨5, frm, i, bytesF out, [], false⟩
  | f + 1, l, mark, frm, i, out =>
    if l.length ≤ i then ⟨5, frm, i, bytesF out, [], false⟩
    else if isB l i mark then ⟨5, frm, i + 1, bytesF out, [], false⟩
    else if isB l i 10 then ⟨6, frm, i, [], [], false⟩
    else if !isB l i 92 then quotedGo f l mark frm (i + 1) (out ++ [chA l i])
    else if l.length ≤ i + 1 then quotedGo f l mark frm (i + 1) out
    else if isB l (i + 1) 10 then quotedGo f l mark frm (i + 2) out
    else quotedGo f l mark frm (valueF l i).2 (out ++ [(valueF l i).1])
def quotedF (l : List Int) (j : Nat) : Tk := quotedGo (l.length + 1) l (chA l j) j (j + 1) []

def hiddenB (c : Int) : Bool := decide (c ≤ 8 ∨ c = 11 ∨ (14 ≤ c ∧ c ≤ 31) ∨ c = 127)
def restGo : Nat → List Int → Nat → Nat → Tk
  | 0, l, frm, _ => ⟨8, frm, l.length, [], [], false⟩
  | f + 1, l, frm, i => if l.length ≤ i then ⟨8, frm, l.length, [], [], false⟩ else if isB l i 41 then ⟨8, frm, i + 1, [], [], false⟩ else if escB l i then restGo f l frm (valueF l i).2 else restGo f l frm (i + 1)
def restF (l : List Int) (frm i : Nat) : Tk := restGo (l.length + 1) l frm i
/-- Is a character one that a url may not have as it is? -/
def urlBad (l : List Int) (i : Nat) : Bool := isB l i 34 || isB l i 39 || isB l i 40 || hiddenB (chA l i) || (isB l i 92 && !escB l i)
def urlGo : Nat → List Int → Nat → Nat → List Int → Tk
  | 0, l, frm, _, out => ⟨7, frm, l.length, bytesF out, [], false⟩
  | f + 1, l, frm, i, out =>
    if l.length ≤ spacesF l i then ⟨7, frm, l.length, bytesF out, [], false⟩
    else if isB l (spacesF l i) 41 then ⟨7, frm, spacesF l i + 1, bytesF out, [], false⟩
    else if i < spacesF l i then restF l frm (spacesF l i)
    else if urlBad l i then restF l frm i
    else if isB l i 92 then urlGo f l frm (valueF l i).2 (out ++ [(valueF l i).1])
    else urlGo f l frm (i + 1) (out ++ [chA l i])
def urlF (l : List Int) (frm i : Nat) : Tk := urlGo (l.length + 1) l frm i []

/-- Are bytes a url's name, but for great and small letters? -/
def urlName (bs : List Int) : Bool := decide (bs.map smallF = [117, 114, 108])
def calledF (l : List Int) (j : Nat) : Tk :=
  if !isB l (namesF l j).2 40 then ⟨1, j, (namesF l j).2, bytesF (namesF l j).1, [], false⟩
  else if urlName (bytesF (namesF l j).1) && !isB l (spacesF l ((namesF l j).2 + 1)) 34 && !isB l (spacesF l ((namesF l j).2 + 1)) 39 then urlF l j (spacesF l ((namesF l j).2 + 1))
  else ⟨2, j, (namesF l j).2 + 1, bytesF (namesF l j).1, [], false⟩

def skipGo : Nat → List Int → Nat → Nat
  | 0, l, i => min (i + 2) l.length
  | f + 1, l, i => if l.length ≤ i then min (i + 2) l.length else if isB l i 42 && isB l (i + 1) 47 then min (i + 2) l.length else skipGo f l (i + 1)
def openB (l : List Int) (j : Nat) : Bool := isB l j 47 && isB l (j + 1) 42
def behindGo : Nat → List Int → Nat → Nat
  | 0, _, j => j
  | f + 1, l, j => if openB l j then behindGo f l (skipGo (l.length + 1) l (j + 2)) else j
def behindF (l : List Int) (j : Nat) : Nat := behindGo (l.length + 1) l j
/-- The kind of a sign of its own; 9: it is none. -/
def signKind (c : Int) : Int :=
  if c = 40 then 21 else if c = 41 then 22 else if c = 91 then 19 else if c = 93 then 20 else if c = 123 then 23 else if c = 125 then 24 else if c = 44 then 18 else if c = 58 then 16 else if c = 59 then 17 else 9
def cdcB (l : List Int) (i : Nat) : Bool := isB l i 45 && isB l (i + 1) 45 && isB l (i + 2) 62
def cdoB (l : List Int) (i : Nat) : Bool := isB l i 60 && isB l (i + 1) 33 && isB l (i + 2) 45 && isB l (i + 3) 45
def atSgB (l : List Int) (i : Nat) : Bool := isB l i 64 && nameAt l (i + 1)
def hashB (l : List Int) (i : Nat) : Bool := isB l i 35 && (nmB l (i + 1) || escB l (i + 1))
def tokAt (l : List Int) (i : Nat) : Tk :=
  if l.length ≤ i then ⟨0, l.length, l.length, [], [], false⟩
  else if spB l i then ⟨13, i, spacesF l i, [], [], false⟩
  else if isB l i 34 || isB l i 39 then quotedF l i
  else if numAt l i then numericF l i
  else if cdcB l i then ⟨15, i, i + 3, [], [], false⟩
  else if nameAt l i then calledF l i
  else if cdoB l i then ⟨14, i, i + 4, [], [], false⟩
  else if atSgB l i then ⟨3, i, (namesF l (i + 1)).2, bytesF (namesF l (i + 1)).1, [], false⟩
  else if hashB l i then ⟨4, i, (namesF l (i + 1)).2, bytesF (namesF l (i + 1)).1, [], nameAt l (i + 1)⟩
  else if signKind (chA l i) = 9 then ⟨9, i, i + 1, bytesF [chA l i], [], false⟩
  else ⟨signKind (chA l i), i, i + 1, [], [], false⟩
def nextF (l : List Int) (j : Nat) : Tk := tokAt l (behindF l j)
def allGo : Nat → List Int → Nat → List Tk → List Tk
  | 0, _, _, out => out
  | f + 1, l, j, out => if (nextF l j).kind = 0 then out ++ [nextF l j] else allGo f l (nextF l j).to (out ++ [nextF l j])
def allF (l : List Int) : List Tk := allGo (l.length + 1) l 0 []
def toksF (zs : List Int) : List Tk := allF (prepF (charsF zs))

example : toksF [97, 92, 50, 54, 32, 98] = [⟨1, 0, 6, [97, 38, 98], [], false⟩, ⟨0, 6, 6, [], [], false⟩] := by decide +kernel
example : toksF [49, 46, 53, 101, 51, 112, 120] = [⟨12, 0, 7, [112, 120], [49, 46, 53, 101, 51], false⟩, ⟨0, 7, 7, [], [], false⟩] := by decide +kernel
example : toksF [50, 110, 32, 43, 32, 49] = [⟨12, 0, 2, [110], [50], true⟩, ⟨13, 2, 3, [], [], false⟩, ⟨9, 3, 4, [43], [], false⟩, ⟨13, 4, 5, [], [], false⟩, ⟨10, 5, 6, [], [49], true⟩, ⟨0, 6, 6, [], [], false⟩] := by decide +kernel
end

section
open Go.RowKit

/-- A slice of prepared characters. -/
structure Src (w : World) (a : Option Addr) (n cap : Nat) (l : List Int) : Prop where
  rd : Reads w .i64 a cap l
  len : l.length = n
  pre : Pre l
  small : n ≤ 100000
theorem Src.later {w w' : World} {a : Option Addr} {n cap : Nat} {l : List Int} (h : Src w a n cap l) (hb : Below w.heap.size w w') : Src w' a n cap l := ⟨h.rd.later hb, h.len, h.pre, h.small⟩
theorem Src.cell {w : World} {a : Option Addr} {n cap : Nat} {l : List Int} (h : Src w a n cap l) (k : Nat) (hk : k < n) :
    ∃ b off, a = some ⟨b, off, none⟩ ∧ w.cell? ⟨b, off + k, none⟩ = some (.int .i64 (chA l k)) := by
  obtain ⟨_, _, h3⟩ := h.rd
  rcases h3 with h3 | ⟨b, off, e, hat⟩
  · rw [← h.len, h3] at hk; simp at hk
  · exact ⟨b, off, e, hat.2 k (by rw [h.len]; exact hk)⟩
theorem Src.cap {w : World} {a : Option Addr} {n cap : Nat} {l : List Int} (h : Src w a n cap l) : n ≤ cap ∧ cap ≤ 9223372036854775807 := by
  have h1 := h.rd.1; have h2 := h.rd.2.1; unfold maxLen at h2; have h2 : cap ≤ 9223372036854775807 := h2; rw [h.len] at h1; exact ⟨h1, h2⟩

theorem hexGo_stop {l : List Int} {j : Nat} {m : Int} (f : Nat) (h : f = 0 ∨ hxB l j = false) : hexGo f l j m = (m, j) := by
  rcases f with _ | f
  · rfl
  · rw [hexGo, if_neg (by rcases h with h | h <;> simp_all)]
theorem digitsGo_stop {l : List Int} {j : Nat} (f : Nat) (h : dgB l j = false) : digitsGo f l j = j := by
  rcases f with _ | f
  · rfl
  · rw [digitsGo, if_neg (by rw [h]; decide)]
theorem spacesGo_stop {l : List Int} {j : Nat} (f : Nat) (h : spB l j = false) : spacesGo f l j = j := by
  rcases f with _ | f
  · rfl
  · rw [spacesGo, if_neg (by rw [h]; decide)]
theorem behindGo_stop {l : List Int} {j : Nat} (f : Nat) (h : openB l j = false) : behindGo f l j = j := by
  rcases f with _ | f
  · rfl
  · rw [behindGo, if_neg (by rw [h]; decide)]
theorem hexGo_le (l : List Int) : ∀ (f i : Nat) (m : Int), i ≤ (hexGo f l i m).2 ∧ (i ≤ l.length → (hexGo f l i m).2 ≤ l.length)
  | 0, i, m => ⟨Nat.le_refl _, fun h => h⟩
  | f + 1, i, m => by
    rw [hexGo]
    by_cases h : hxB l i = true
    · rw [if_pos h]
      obtain ⟨h1, h2⟩ := hexGo_le l f (i + 1) (16 * m + hexV (chA l i))
      exact ⟨by omega, fun _ => h2 (lt_of_hxB h)⟩
    · rw [if_neg h]; exact ⟨Nat.le_refl _, fun h => h⟩
theorem valueF_bd {l : List Int} {j : Nat} (h : j < l.length) : j < (valueF l j).2 ∧ (valueF l j).2 ≤ l.length := by
  unfold valueF
  by_cases h1 : l.length ≤ j + 1
  · rw [if_pos h1]; exact ⟨Nat.lt_succ_self _, by omega⟩
  · rw [if_neg h1]
    obtain ⟨g1, g2⟩ := hexGo_le l 6 (j + 1) 0
    have g2 := g2 (by omega)
    by_cases h2 : (hexGo 6 l (j + 1) 0).2 = j + 1
    · rw [if_pos h2]; exact ⟨by show j < j + 2; omega, by show j + 2 ≤ l.length; omega⟩
    · rw [if_neg h2]
      by_cases h3 : spB l (hexGo 6 l (j + 1) 0).2 = true
      · rw [if_pos h3]
        have := lt_of_spB h3
        exact ⟨by show j < _ + 1; omega, by show _ + 1 ≤ l.length; omega⟩
      · rw [if_neg h3]; exact ⟨by show j < _; omega, g2⟩

/-- A token as a value. -/
def tkCells (t : Tk) : List Value := [.int .i64 t.kind, .int .i64 t.frm, .int .i64 t.to, .string (strOfNums t.text), .string (strOfNums t.num), .bool t.whole]
def tkV (t : Tk) : Value := .agg (tkCells t).toArray

theorem digitsGo_le (l : List Int) : ∀ (f j : Nat), j ≤ digitsGo f l j ∧ (j ≤ l.length → digitsGo f l j ≤ l.length)
  | 0, j => ⟨Nat.le_refl _, fun h => h⟩
  | f + 1, j => by
    rw [digitsGo]
    by_cases h : dgB l j = true
    · rw [if_pos h]
      obtain ⟨h1, h2⟩ := digitsGo_le l f (j + 1)
      exact ⟨by omega, fun _ => h2 (lt_of_dgB h)⟩
    · rw [if_neg h]; exact ⟨Nat.le_refl _, fun h => h⟩
theorem signAt_le (l : List Int) (j : Nat) : j ≤ signAt l j ∧ (j ≤ l.length → signAt l j ≤ l.length) := by
  unfold signAt
  by_cases h : (isB l j 43 || isB l j 45) = true
  · rw [if_pos h]
    have : j < l.length := by
      rcases h' : isB l j 43 with _ | _
      · rw [h'] at h; exact lt_of_isB (c := 45) (by simpa using h) (by decide)
      · exact lt_of_isB h' (by decide)
    exact ⟨by omega, fun _ => this⟩
  · rw [if_neg h]; exact ⟨Nat.le_refl _, fun h => h⟩
theorem digitsF_le (l : List Int) (j : Nat) : j ≤ digitsF l j ∧ (j ≤ l.length → digitsF l j ≤ l.length) := digitsGo_le l _ j
theorem fracF_le (l : List Int) (j : Nat) : j ≤ fracF l j ∧ (j ≤ l.length → fracF l j ≤ l.length) := by
  unfold fracF
  by_cases h : fracAt l j = true
  · rw [if_pos h]
    have h1 : j < l.length := lt_of_isB (c := 46) (by unfold fracAt at h; rw [Bool.and_eq_true] at h; exact h.1) (by decide)
    obtain ⟨a, b⟩ := digitsF_le l (j + 1)
    exact ⟨by omega, fun _ => b h1⟩
  · rw [if_neg h]; exact ⟨Nat.le_refl _, fun h => h⟩
theorem expoF_le (l : List Int) (j : Nat) : j ≤ expoF l j ∧ (j ≤ l.length → expoF l j ≤ l.length) := by
  unfold expoF
  by_cases h : expoB l j = true
  · rw [if_pos h]
    have h0 : dgB l (signAt l (j + 1)) = true := by unfold expoB at h; rw [Bool.and_eq_true] at h; exact h.2
    have h1 := lt_of_dgB h0
    obtain ⟨a, b⟩ := digitsF_le l (signAt l (j + 1))
    obtain ⟨c, _⟩ := signAt_le l (j + 1)
    exact ⟨by omega, fun _ => b (by omega)⟩
  · rw [if_neg h]; exact ⟨Nat.le_refl _, fun h => h⟩
theorem numberF_le (l : List Int) (j : Nat) : j ≤ (numberF l j).1 ∧ (j ≤ l.length → (numberF l j).1 ≤ l.length) := by
  obtain ⟨a1, b1⟩ := signAt_le l j
  obtain ⟨a2, b2⟩ := digitsF_le l (signAt l j)
  obtain ⟨a3, b3⟩ := fracF_le l (digitsF l (signAt l j))
  obtain ⟨a4, b4⟩ := expoF_le l (fracF l (digitsF l (signAt l j)))
  exact ⟨by show j ≤ expoF _ _; omega, fun h => b4 (b3 (b2 (b1 h)))⟩

/-- A part of the characters. -/
theorem Src.part {w : World} {b off n cap : Nat} {l : List Int} (h : Src w (some ⟨b, off, none⟩) n cap l) (i j : Nat) (hij : i ≤ j) (hj : j ≤ n) :
    Reads w .i64 (some ⟨b, off + i, none⟩) (cap - i) (sliceF l i j) ∧ (sliceF l i j).length = j - i := by
  obtain ⟨h1, h2, h3⟩ := h.rd
  have hl : (sliceF l i j).length = j - i := by unfold sliceF; rw [List.length_take, List.length_drop, h.len]; omega
  refine ⟨⟨by rw [hl]; rw [h.len] at h1; omega, by omega, ?_⟩, hl⟩
  rcases h3 with h3 | ⟨b', off', e, hat⟩
  · left
    have := h.len
    rw [h3] at this
    simp at this
    exact List.length_eq_zero_iff.1 (by rw [hl]; omega)
  · cases e
    right
    exact ⟨_, _, rfl, (hat.drop i).take (j - i)⟩

theorem namesGo_le (l : List Int) : ∀ (f j : Nat) (out : List Int), j ≤ (namesGo f l j out).2 ∧ (j ≤ l.length → (namesGo f l j out).2 ≤ l.length)
  | 0, j, out => ⟨Nat.le_refl _, fun h => h⟩
  | f + 1, j, out => by
    rw [namesGo]
    by_cases h : nmB l j = true
    · rw [if_pos h]
      obtain ⟨h1, h2⟩ := namesGo_le l f (j + 1) (out ++ [chA l j])
      exact ⟨by omega, fun _ => h2 (lt_of_nmB h)⟩
    · rw [if_neg h]
      by_cases he : escB l j = true
      · rw [if_pos he]
        obtain ⟨v1, v2⟩ := valueF_bd (lt_of_escB he)
        obtain ⟨h1, h2⟩ := namesGo_le l f (valueF l j).2 (out ++ [(valueF l j).1])
        exact ⟨by omega, fun _ => h2 v2⟩
      · rw [if_neg he]; exact ⟨Nat.le_refl _, fun h => h⟩
theorem namesF_le (l : List Int) (j : Nat) : j ≤ (namesF l j).2 ∧ (j ≤ l.length → (namesF l j).2 ≤ l.length) := namesGo_le l _ j []

theorem digitsF_pos {l : List Int} {j : Nat} (h : dgB l j = true) : j < digitsF l j := by
  unfold digitsF
  rw [digitsGo, if_pos h]
  have := (digitsGo_le l l.length (j + 1)).1
  omega
theorem spacesGo_le (l : List Int) : ∀ (f j : Nat), j ≤ spacesGo f l j ∧ (j ≤ l.length → spacesGo f l j ≤ l.length)
  | 0, j => ⟨Nat.le_refl _, fun h => h⟩
  | f + 1, j => by
    rw [spacesGo]
    by_cases h : spB l j = true
    · rw [if_pos h]
      obtain ⟨h1, h2⟩ := spacesGo_le l f (j + 1)
      exact ⟨by omega, fun _ => h2 (lt_of_spB h)⟩
    · rw [if_neg h]; exact ⟨Nat.le_refl _, fun h => h⟩
theorem spacesF_pos {l : List Int} {j : Nat} (h : spB l j = true) : j < spacesF l j := by
  unfold spacesF
  rw [spacesGo, if_pos h]
  have := (spacesGo_le l l.length (j + 1)).1
  omega
theorem spacesF_le (l : List Int) (j : Nat) : j ≤ l.length → spacesF l j ≤ l.length := (spacesGo_le l _ j).2
theorem numberF_pos {l : List Int} {j : Nat} (h : numAt l j = true) : j < (numberF l j).1 := by
  have a1 := (signAt_le l j).1
  have a4 := (expoF_le l (fracF l (digitsF l (signAt l j)))).1
  show j < expoF l (fracF l (digitsF l (signAt l j)))
  have a3 := (fracF_le l (digitsF l (signAt l j))).1
  have a2 := (digitsF_le l (signAt l j)).1
  rcases hd : dgB l (signAt l j) with _ | _
  · have hf : fracAt l (signAt l j) = true := by unfold numAt at h; rw [hd] at h; simpa using h
    have e : digitsF l (signAt l j) = signAt l j := by unfold digitsF; exact digitsGo_stop _ hd
    have hp : signAt l j < fracF l (signAt l j) := by
      unfold fracF
      rw [if_pos hf]
      have := (digitsF_le l (signAt l j + 1)).1
      omega
    rw [e] at a4 ⊢
    omega
  · have := digitsF_pos hd
    omega
theorem stB_nmB {l : List Int} {j : Nat} (h : stB l j = true) : nmB l j = true := by
  unfold stB at h; unfold nmB nameB; rw [h]; rfl
theorem namesF_pos {l : List Int} {j : Nat} (h : (nmB l j || escB l j) = true) : j < (namesF l j).2 := by
  unfold namesF
  rw [namesGo]
  by_cases hn : nmB l j = true
  · rw [if_pos hn]
    have := (namesGo_le l l.length (j + 1) ([] ++ [chA l j])).1
    omega
  · have he : escB l j = true := by simpa [hn] using h
    rw [if_neg hn, if_pos he]
    have h1 := (valueF_bd (lt_of_escB he)).1
    have := (namesGo_le l l.length (valueF l j).2 ([] ++ [(valueF l j).1])).1
    omega
theorem nameAt_first {l : List Int} {j : Nat} (h : nameAt l j = true) : (nmB l j || escB l j) = true := by
  unfold nameAt at h
  by_cases h45 : isB l j 45 = true
  · have : nmB l j = true := by unfold nmB nameB; rw [isB_iff.1 h45]; decide
    rw [this]; rfl
  · rw [if_neg h45] at h
    rcases hs : stB l j with _ | _
    · rw [hs] at h; rw [show escB l j = true from by simpa using h]; simp
    · rw [stB_nmB hs]; rfl
end

section
open Go.RowKit

/-- A slice reads as a list of tokens. -/
def ReadsT (w : World) (a : Option Addr) (cap : Nat) (ts : List Tk) : Prop :=
  ts.length ≤ cap ∧ cap ≤ maxLen ∧ ∃ b, a = some ⟨b, 0, none⟩ ∧ b < w.heap.size ∧ ∀ j v, (ts.flatMap tkCells)[j]? = some v → w.cell? ⟨b, j, none⟩ = some v
theorem ReadsT.later {w w' : World} {a : Option Addr} {cap : Nat} {ts : List Tk} (h : ReadsT w a cap ts) (hb : Below w.heap.size w w') : ReadsT w' a cap ts := by
  obtain ⟨h1, h2, b, rfl, hlt, hc⟩ := h
  exact ⟨h1, h2, b, rfl, Nat.lt_of_lt_of_le hlt hb.size, fun j v hv => (hb.cell (p := ⟨b, j, none⟩) hlt).trans (hc j v hv)⟩
/-- The post of a call that tells tokens in new memory. -/
def TksPost (ts : List Tk) (w : World) (e : Ending) (w' : World) : Prop := ∃ a cap, e = .returned (.slice a ts.length cap) ∧ ReadsT w' a cap ts ∧ Below w.heap.size w w'

theorem Tryz.infoTok : (Tryz.prog.info? 32).map (fun i => (i.zero, i.size, i.bytes)) = some (some (.agg #[.int .i64 0, .int .i64 0, .int .i64 0, .string ⟨#[]⟩, .string ⟨#[]⟩, .bool false]), 6, 64) := by kernel_rfl

theorem tk_cells (t : Tk) : ∀ u ∈ tkCells t, u.oneCell' = true := by
  intro u hu
  unfold tkCells at hu
  simp only [List.mem_cons, List.not_mem_nil, or_false] at hu
  rcases hu with rfl | rfl | rfl | rfl | rfl | rfl <;> rfl
end
end Go.Proofs.YtickcbmfboajiaaGreatDoor
