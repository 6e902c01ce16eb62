/- Texts of mine in one: Name Num Is Is2 Whole4. -/
import Derived.Test.YtelbjnanpmdnnaaQ12
import Derived.Laws.IdiomStrings
import Derived.Test.YtelbjnanpmdnnaaQ01
namespace Go.Proofs.Ytelbjnanpmdnnaa
section
open Go.RowKit
def hexV (c : Int) : Int := if 48 ≤ c ∧ c ≤ 57 then c - 48 else if 97 ≤ smallF c ∧ smallF c ≤ 102 then smallF c - 87 else -1
set_option maxRecDepth 100000 in
set_option maxHeartbeats 1000000 in
theorem rspace_any (c : Int) (w : World) (hc : Ch c) : Calls Try.prog 48 #[.int .i64 c] w (Tells (.bool (spaceB c)) w) := by
  obtain ⟨h0, h1⟩ := hc
  rcases (show (c = 32) ∨ (c = 9) ∨ (c = 10) ∨ (c ≠ 32 ∧ c ≠ 9 ∧ c ≠ 10) from by omega) with rfl | rfl | rfl | ⟨q0, q1, q2⟩
  · go_enter Try.func48, Try.ntmps48
    go_wp2
    go_ret
    exact ⟨rfl, rfl⟩
  · go_enter Try.func48, Try.ntmps48
    go_wp2
    go_ret
    exact ⟨rfl, rfl⟩
  · go_enter Try.func48, Try.ntmps48
    go_wp2
    go_ret
    exact ⟨rfl, rfl⟩
  · rw [show spaceB c = false from decide_eq_false (by omega)]
    have n0 : (c == 32) = false := beq_eq_false_iff_ne.2 q0
    have n1 : (c == 9) = false := beq_eq_false_iff_ne.2 q1
    have n2 : (c == 10) = false := beq_eq_false_iff_ne.2 q2
    go_enter Try.func48, Try.ntmps48
    go_wp2
    go_ret
    exact ⟨rfl, rfl⟩
set_option maxRecDepth 100000 in
set_option maxHeartbeats 1000000 in
theorem rname_any (c : Int) (w : World) (hc : Ch c) : Calls Try.prog 76 #[.int .i64 c] w (Tells (.bool (nameB c)) w) := by
  have hs := fun w => rstart_any c w hc
  have hd := fun w => rdigit_any c w hc
  unfold nameB
  obtain ⟨h0, h1⟩ := hc
  by_cases h : c = 45
  · rw [show decide (c = 45) = true from decide_eq_true h]
    have n0 : (c == 45) = true := beq_iff_eq.2 h
    clear h
    generalize startB c = s at *
    generalize digitB c = d at *
    cases s <;> cases d
    all_goals
      go_enter Try.func76, Try.ntmps76
      go_wp2_with (first | (go_at_call 85; refine (hs _).mono ?_; rintro e w1 ⟨rfl, rfl⟩) | (go_at_call 84; refine (hd _).mono ?_; rintro e w1 ⟨rfl, rfl⟩))
      go_ret
      exact ⟨rfl, rfl⟩
  · rw [show decide (c = 45) = false from decide_eq_false h]
    have n0 : (c == 45) = false := beq_eq_false_iff_ne.2 h
    generalize startB c = s at *
    generalize digitB c = d at *
    cases s <;> cases d
    all_goals
      go_enter Try.func76, Try.ntmps76
      go_wp2_with (first | (go_at_call 85; refine (hs _).mono ?_; rintro e w1 ⟨rfl, rfl⟩) | (go_at_call 84; refine (hd _).mono ?_; rintro e w1 ⟨rfl, rfl⟩))
      go_ret
      exact ⟨rfl, rfl⟩
end

section
open Go.RowKit
def firstB (s : ByteArray) (c : UInt8) : Bool := decide ((strB s)[0]? = some c)
def signedB (s : ByteArray) : Bool := firstB s 43 || firstB s 45
def tailS (s : ByteArray) : ByteArray := s.extract 1 s.size
def bytesAll (s : ByteArray) : Bool := (strB s).all fun b => digitB b.toNat
def numB (s : ByteArray) : Bool := if signedB s then bytesAll (tailS s) && decide (0 < (tailS s).size) else bytesAll s && decide (0 < s.size)
end
end Go.Proofs.Ytelbjnanpmdnnaa
