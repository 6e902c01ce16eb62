/- More kinds of characters: blanks, names, digits of base 16: walks of both sides. -/
import Derived.Test.YtdopmkiogmejaaaDoorStart
namespace Go.Proofs.YtdopmkiogmejaaaDoor
open Go.RowKit

def hexV (c : Int) : Int := if 48 ≤ c ∧ c ≤ 57 then c - 48 else if 97 ≤ smallF c ∧ smallF c ≤ 102 then smallF c - 87 else -1

set_option maxRecDepth 100000 in
set_option maxHeartbeats 1000000 in
theorem space_any (c : Int) (w : World) (hc : Ch c) : Calls Tryd.prog 35 #[.int .i64 c] w (Tells (.bool (spaceB c)) w) := by
  obtain ⟨h0, h1⟩ := hc
  rcases (show (c = 32) ∨ (c = 9) ∨ (c = 10) ∨ (c ≠ 32 ∧ c ≠ 9 ∧ c ≠ 10) from by omega) with rfl | rfl | rfl | ⟨q0, q1, q2⟩
  · go_enter Tryd.func35, Tryd.ntmps35
    go_wp2
    go_ret
    exact ⟨rfl, rfl⟩
  · go_enter Tryd.func35, Tryd.ntmps35
    go_wp2
    go_ret
    exact ⟨rfl, rfl⟩
  · go_enter Tryd.func35, Tryd.ntmps35
    go_wp2
    go_ret
    exact ⟨rfl, rfl⟩
  · rw [show spaceB c = false from decide_eq_false (by omega)]
    have n0 : (c == 32) = false := beq_eq_false_iff_ne.2 q0
    have n1 : (c == 9) = false := beq_eq_false_iff_ne.2 q1
    have n2 : (c == 10) = false := beq_eq_false_iff_ne.2 q2
    go_enter Tryd.func35, Tryd.ntmps35
    go_wp2
    go_ret
    exact ⟨rfl, rfl⟩


set_option maxRecDepth 100000 in
set_option maxHeartbeats 1000000 in
theorem rname_any (c : Int) (w : World) (hc : Ch c) : Calls Tryd.prog 18 #[.int .i64 c] w (Tells (.bool (nameB c)) w) := by
  have hs := fun w => rstart_any c w hc
  have hd := fun w => rdigit_any c w hc
  unfold nameB
  obtain ⟨h0, h1⟩ := hc
  by_cases h : c = 45
  · rw [show decide (c = 45) = true from decide_eq_true h]
    have n0 : (c == 45) = true := beq_iff_eq.2 h
    clear h
    generalize startB c = s at *
    generalize digitB c = d at *
    cases s <;> cases d
    all_goals
      go_enter Tryd.func18, Tryd.ntmps18
      go_wp2_with (first | (go_at_call 26; refine (hs _).mono ?_; rintro e w1 ⟨rfl, rfl⟩) | (go_at_call 17; refine (hd _).mono ?_; rintro e w1 ⟨rfl, rfl⟩))
      go_ret
      exact ⟨rfl, rfl⟩
  · rw [show decide (c = 45) = false from decide_eq_false h]
    have n0 : (c == 45) = false := beq_eq_false_iff_ne.2 h
    generalize startB c = s at *
    generalize digitB c = d at *
    cases s <;> cases d
    all_goals
      go_enter Tryd.func18, Tryd.ntmps18
      go_wp2_with (first | (go_at_call 26; refine (hs _).mono ?_; rintro e w1 ⟨rfl, rfl⟩) | (go_at_call 17; refine (hd _).mono ?_; rintro e w1 ⟨rfl, rfl⟩))
      go_ret
      exact ⟨rfl, rfl⟩

set_option maxRecDepth 100000 in
set_option maxHeartbeats 1000000 in
theorem name_any (c : Int) (w : World) (hc : Ch c) : Calls Tryd.prog 58 #[.int .i64 c] w (Tells (.bool (nameB c)) w) := by
  have hs := fun w => start_any c w hc
  have hd := fun w => digit_any c w hc
  unfold nameB
  obtain ⟨h0, h1⟩ := hc
  by_cases h : c = 45
  · rw [show decide (c = 45) = true from decide_eq_true h]
    have n0 : (c == 45) = true := beq_iff_eq.2 h
    clear h
    generalize startB c = s at *
    generalize digitB c = d at *
    cases s <;> cases d
    all_goals
      go_enter Tryd.func58, Tryd.ntmps58
      go_wp2_with (first | (go_at_call 55; refine (hs _).mono ?_; rintro e w1 ⟨rfl, rfl⟩) | (go_at_call 51; refine (hd _).mono ?_; rintro e w1 ⟨rfl, rfl⟩))
      go_ret
      exact ⟨rfl, rfl⟩
  · rw [show decide (c = 45) = false from decide_eq_false h]
    have n0 : (c == 45) = false := beq_eq_false_iff_ne.2 h
    generalize startB c = s at *
    generalize digitB c = d at *
    cases s <;> cases d
    all_goals
      go_enter Tryd.func58, Tryd.ntmps58
      go_wp2_with (first | (go_at_call 55; refine (hs _).mono ?_; rintro e w1 ⟨rfl, rfl⟩) | (go_at_call 51; refine (hd _).mono ?_; rintro e w1 ⟨rfl, rfl⟩))
      go_ret
      exact ⟨rfl, rfl⟩
end Go.Proofs.YtdopmkiogmejaaaDoor
