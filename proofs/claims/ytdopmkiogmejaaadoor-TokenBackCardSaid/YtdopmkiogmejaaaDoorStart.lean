/- start -/
import Derived.Test.YtdopmkiogmejaaaDoorKinds
namespace Go.Proofs.YtdopmkiogmejaaaDoor
open Go.RowKit

set_option maxRecDepth 100000 in
set_option maxHeartbeats 1000000 in
theorem start_any (c : Int) (w : World) (hc : Ch c) : Calls Tryd.prog 55 #[.int .i64 c] w (Tells (.bool (startB c)) w) := by
  have hs := smallF_ch hc
  obtain ⟨h0, h1⟩ := hc
  obtain ⟨s0, s1⟩ := hs
  have e1 : c - 65 + 97 = c + 32 := by omega
  rcases (show (97 ≤ smallF c ∧ smallF c ≤ 122) ∨ (¬ 97 ≤ smallF c ∧ c = 95) ∨ (¬ 97 ≤ smallF c ∧ c ≠ 95 ∧ 128 ≤ c) ∨ (¬ 97 ≤ smallF c ∧ c ≠ 95 ∧ ¬ 128 ≤ c) ∨ (97 ≤ smallF c ∧ ¬ smallF c ≤ 122 ∧ c = 95) ∨ (97 ≤ smallF c ∧ ¬ smallF c ≤ 122 ∧ c ≠ 95 ∧ 128 ≤ c) ∨ (97 ≤ smallF c ∧ ¬ smallF c ≤ 122 ∧ c ≠ 95 ∧ ¬ 128 ≤ c) from by omega) with ⟨q0, q1⟩ | ⟨q0, rfl⟩ | ⟨q0, q1, q2⟩ | ⟨q0, q1, q2⟩ | ⟨q0, q1, rfl⟩ | ⟨q0, q1, q2, q3⟩ | ⟨q0, q1, q2, q3⟩
  · rw [show startB c = true from by exact decide_eq_true (by omega)]
    have hk := fun w => small_any c w ⟨h0, h1⟩
    generalize smallF c = s at *
    go_enter Tryd.func55, Tryd.ntmps55
    go_wp2_with fail
    refine (hk _).mono ?_
    rintro e w1 ⟨rfl, rfl⟩
    go_wp2
    go_ret
    exact ⟨rfl, rfl⟩
  · rw [show startB 95 = true from by exact decide_eq_true (by omega)]
    have hk := fun w => small_any 95 w ⟨h0, h1⟩
    generalize smallF 95 = s at *
    go_enter Tryd.func55, Tryd.ntmps55
    go_wp2_with fail
    refine (hk _).mono ?_
    rintro e w1 ⟨rfl, rfl⟩
    go_wp2
    go_ret
    exact ⟨rfl, rfl⟩
  · rw [show startB c = true from by exact decide_eq_true (by omega)]
    have n95 : (c == 95) = false := beq_eq_false_iff_ne.2 (by omega)
    have hk := fun w => small_any c w ⟨h0, h1⟩
    generalize smallF c = s at *
    go_enter Tryd.func55, Tryd.ntmps55
    go_wp2_with fail
    refine (hk _).mono ?_
    rintro e w1 ⟨rfl, rfl⟩
    go_wp2
    go_ret
    exact ⟨rfl, rfl⟩
  · rw [show startB c = false from by exact decide_eq_false (by omega)]
    have n95 : (c == 95) = false := beq_eq_false_iff_ne.2 (by omega)
    have d128 : decide (128 ≤ c) = false := decide_eq_false q2
    have hk := fun w => small_any c w ⟨h0, h1⟩
    generalize smallF c = s at *
    go_enter Tryd.func55, Tryd.ntmps55
    go_wp2_with fail
    refine (hk _).mono ?_
    rintro e w1 ⟨rfl, rfl⟩
    go_wp2
    go_ret
    exact ⟨rfl, rfl⟩
  · rw [show startB 95 = true from by exact decide_eq_true (by omega)]
    have hk := fun w => small_any 95 w ⟨h0, h1⟩
    generalize smallF 95 = s at *
    go_enter Tryd.func55, Tryd.ntmps55
    go_wp2_with fail
    refine (hk _).mono ?_
    rintro e w1 ⟨rfl, rfl⟩
    go_wp2
    go_ret
    exact ⟨rfl, rfl⟩
  · rw [show startB c = true from by exact decide_eq_true (by omega)]
    have n95 : (c == 95) = false := beq_eq_false_iff_ne.2 (by omega)
    have d122 : decide (smallF c ≤ 122) = false := decide_eq_false q1
    have hk := fun w => small_any c w ⟨h0, h1⟩
    generalize smallF c = s at *
    go_enter Tryd.func55, Tryd.ntmps55
    go_wp2_with fail
    refine (hk _).mono ?_
    rintro e w1 ⟨rfl, rfl⟩
    go_wp2
    go_ret
    exact ⟨rfl, rfl⟩
  · rw [show startB c = false from by exact decide_eq_false (by omega)]
    have n95 : (c == 95) = false := beq_eq_false_iff_ne.2 (by omega)
    have d128 : decide (128 ≤ c) = false := decide_eq_false q3
    have d122 : decide (smallF c ≤ 122) = false := decide_eq_false q1
    have hk := fun w => small_any c w ⟨h0, h1⟩
    generalize smallF c = s at *
    go_enter Tryd.func55, Tryd.ntmps55
    go_wp2_with fail
    refine (hk _).mono ?_
    rintro e w1 ⟨rfl, rfl⟩
    go_wp2
    go_ret
    exact ⟨rfl, rfl⟩

set_option maxRecDepth 100000 in
set_option maxHeartbeats 1000000 in
theorem rstart_any (c : Int) (w : World) (hc : Ch c) : Calls Tryd.prog 26 #[.int .i64 c] w (Tells (.bool (startB c)) w) := by
  have hs := smallF_ch hc
  obtain ⟨h0, h1⟩ := hc
  obtain ⟨s0, s1⟩ := hs
  have e1 : c - 65 + 97 = c + 32 := by omega
  rcases (show (97 ≤ smallF c ∧ smallF c ≤ 122) ∨ (¬ 97 ≤ smallF c ∧ c = 95) ∨ (¬ 97 ≤ smallF c ∧ c ≠ 95 ∧ 128 ≤ c) ∨ (¬ 97 ≤ smallF c ∧ c ≠ 95 ∧ ¬ 128 ≤ c) ∨ (97 ≤ smallF c ∧ ¬ smallF c ≤ 122 ∧ c = 95) ∨ (97 ≤ smallF c ∧ ¬ smallF c ≤ 122 ∧ c ≠ 95 ∧ 128 ≤ c) ∨ (97 ≤ smallF c ∧ ¬ smallF c ≤ 122 ∧ c ≠ 95 ∧ ¬ 128 ≤ c) from by omega) with ⟨q0, q1⟩ | ⟨q0, rfl⟩ | ⟨q0, q1, q2⟩ | ⟨q0, q1, q2⟩ | ⟨q0, q1, rfl⟩ | ⟨q0, q1, q2, q3⟩ | ⟨q0, q1, q2, q3⟩
  · rw [show startB c = true from by exact decide_eq_true (by omega)]
    have hk := fun w => rsmall_any c w ⟨h0, h1⟩
    generalize smallF c = s at *
    go_enter Tryd.func26, Tryd.ntmps26
    go_wp2_with fail
    refine (hk _).mono ?_
    rintro e w1 ⟨rfl, rfl⟩
    go_wp2
    go_ret
    exact ⟨rfl, rfl⟩
  · rw [show startB 95 = true from by exact decide_eq_true (by omega)]
    have hk := fun w => rsmall_any 95 w ⟨h0, h1⟩
    generalize smallF 95 = s at *
    go_enter Tryd.func26, Tryd.ntmps26
    go_wp2_with fail
    refine (hk _).mono ?_
    rintro e w1 ⟨rfl, rfl⟩
    go_wp2
    go_ret
    exact ⟨rfl, rfl⟩
  · rw [show startB c = true from by exact decide_eq_true (by omega)]
    have n95 : (c == 95) = false := beq_eq_false_iff_ne.2 (by omega)
    have hk := fun w => rsmall_any c w ⟨h0, h1⟩
    generalize smallF c = s at *
    go_enter Tryd.func26, Tryd.ntmps26
    go_wp2_with fail
    refine (hk _).mono ?_
    rintro e w1 ⟨rfl, rfl⟩
    go_wp2
    go_ret
    exact ⟨rfl, rfl⟩
  · rw [show startB c = false from by exact decide_eq_false (by omega)]
    have n95 : (c == 95) = false := beq_eq_false_iff_ne.2 (by omega)
    have d128 : decide (128 ≤ c) = false := decide_eq_false q2
    have hk := fun w => rsmall_any c w ⟨h0, h1⟩
    generalize smallF c = s at *
    go_enter Tryd.func26, Tryd.ntmps26
    go_wp2_with fail
    refine (hk _).mono ?_
    rintro e w1 ⟨rfl, rfl⟩
    go_wp2
    go_ret
    exact ⟨rfl, rfl⟩
  · rw [show startB 95 = true from by exact decide_eq_true (by omega)]
    have hk := fun w => rsmall_any 95 w ⟨h0, h1⟩
    generalize smallF 95 = s at *
    go_enter Tryd.func26, Tryd.ntmps26
    go_wp2_with fail
    refine (hk _).mono ?_
    rintro e w1 ⟨rfl, rfl⟩
    go_wp2
    go_ret
    exact ⟨rfl, rfl⟩
  · rw [show startB c = true from by exact decide_eq_true (by omega)]
    have n95 : (c == 95) = false := beq_eq_false_iff_ne.2 (by omega)
    have d122 : decide (smallF c ≤ 122) = false := decide_eq_false q1
    have hk := fun w => rsmall_any c w ⟨h0, h1⟩
    generalize smallF c = s at *
    go_enter Tryd.func26, Tryd.ntmps26
    go_wp2_with fail
    refine (hk _).mono ?_
    rintro e w1 ⟨rfl, rfl⟩
    go_wp2
    go_ret
    exact ⟨rfl, rfl⟩
  · rw [show startB c = false from by exact decide_eq_false (by omega)]
    have n95 : (c == 95) = false := beq_eq_false_iff_ne.2 (by omega)
    have d128 : decide (128 ≤ c) = false := decide_eq_false q3
    have d122 : decide (smallF c ≤ 122) = false := decide_eq_false q1
    have hk := fun w => rsmall_any c w ⟨h0, h1⟩
    generalize smallF c = s at *
    go_enter Tryd.func26, Tryd.ntmps26
    go_wp2_with fail
    refine (hk _).mono ?_
    rintro e w1 ⟨rfl, rfl⟩
    go_wp2
    go_ret
    exact ⟨rfl, rfl⟩
end Go.Proofs.YtdopmkiogmejaaaDoor
