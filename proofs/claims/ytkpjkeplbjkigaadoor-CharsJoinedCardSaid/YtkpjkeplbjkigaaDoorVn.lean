/- The document's answers on texts: a text at a place, blanks, the parts between blanks: walks. -/
import Derived.Test.YtkpjkeplbjkigaaDoorVj
namespace Go.Proofs.YtkpjkeplbjkigaaDoor
open Go.RowKit
set_option linter.unusedVariables false

theorem atB_dec (v t : ByteArray) (k : Nat) (h : k + t.size ≤ v.size) : atB (strB v) k (strB t) = ((v.extract k (k + t.size)).toList == t.toList) := by
  unfold atB
  rw [list_beq, strB_extract, strB_len, strB_len, decide_eq_true h, Bool.true_and, Nat.add_sub_cancel_left]

set_option maxRecDepth 100000 in
set_option maxHeartbeats 2000000 in
theorem rat_neg (v t : ByteArray) (i : Int) (w : World) (hi : i < 0) : Calls Tryd.prog 54 #[.string v, .int .i64 i, .string t] w (Tells (.bool false) w) := by
  have h0 : ¬ (0 : Int) ≤ i := by omega
  go_enter Tryd.func54, Tryd.ntmps54
  go_wp2
  go_ret
  exact ⟨rfl, rfl⟩
set_option maxRecDepth 100000 in
set_option maxHeartbeats 2000000 in
theorem rat_any (v t : ByteArray) (k : Nat) (w : World) (hv : v.size ≤ 1000000) (ht : t.size ≤ 1000000) (hk : k ≤ 1000000) : Calls Tryd.prog 54 #[.string v, .int .i64 k, .string t] w (Tells (.bool (atB (strB v) k (strB t))) w) := by
  have h0 : (0 : Int) ≤ (k : Int) := by omega
  by_cases h : k + t.size ≤ v.size
  · have h1 : (k : Int) + (t.size : Int) ≤ (v.size : Int) := by omega
    rw [atB_dec v t k h]
    cases hq : ((v.extract k (k + t.size)).toList == t.toList)
    all_goals
      go_enter Tryd.func54, Tryd.ntmps54
      go_wp2
      go_ret
      exact ⟨rfl, rfl⟩
  · have h1 : ¬ (k : Int) + (t.size : Int) ≤ (v.size : Int) := by omega
    rw [show atB (strB v) k (strB t) = false by unfold atB; rw [strB_len, strB_len, decide_eq_false h, Bool.false_and]]
    go_enter Tryd.func54, Tryd.ntmps54
    go_wp2
    go_ret
    exact ⟨rfl, rfl⟩

theorem strB_at (s : ByteArray) (k : Nat) (h : k < s.size) : (strB s)[k]? = some (s[k]'h) := by
  unfold strB
  rw [Array.getElem?_toList, Array.getElem?_eq_getElem (by exact h)]; rfl
theorem drop_at (s : ByteArray) (k : Nat) (h : k < s.size) : (strB s).drop k = (s[k]'h) :: (strB s).drop (k + 1) := by
  have hk : k < (strB s).length := by rw [strB_len]; exact h
  rw [List.drop_eq_getElem_cons hk]
  rfl
theorem blank_cases (b : UInt8) : (b.toNat = 32 ∨ b.toNat = 9 ∨ b.toNat = 10 ∨ b.toNat = 12 ∨ b.toNat = 13) ∧ blankB b = true ∨ (b.toNat ≠ 32 ∧ b.toNat ≠ 9 ∧ b.toNat ≠ 10 ∧ b.toNat ≠ 12 ∧ b.toNat ≠ 13) ∧ blankB b = false := by
  by_cases h : b.toNat = 32 ∨ b.toNat = 9 ∨ b.toNat = 10 ∨ b.toNat = 12 ∨ b.toNat = 13
  · left; refine ⟨h, ?_⟩; unfold blankB; simp; omega
  · right; refine ⟨by omega, ?_⟩; unfold blankB; simp; omega

set_option maxRecDepth 100000 in
set_option maxHeartbeats 2000000 in
theorem rblank_any (t : ByteArray) (w : World) (ht : t.size ≤ 1000000) : Calls Tryd.prog 55 #[.string t] w (Told (.bool ((strB t).any blankB)) w) := by
  go_enter Tryd.func55, Tryd.ntmps55
  go_wp2
  go_loopw [3] (fun i wr => ∃ k : Nat, k ≤ t.size ∧ i = .int .i64 k ∧ Hid ((strB t).any blankB = ((strB t).drop k).any blankB) ∧ Below w.heap.size w wr) (fun i _ => t.size - (intOf i).toNat)
  case atStart => exact ⟨0, by omega, rfl, Lib.hid rfl, Below.refl _ _⟩
  case round =>
    obtain ⟨k, hk, rfl, ha, hbw⟩ := hrel
    by_cases hlt : k < t.size
    · have hlt' : (k : Int) < (t.size : Int) := by omega
      have hb8 := (t[k]'hlt).toNat_lt
      rcases blank_cases (t[k]'hlt) with ⟨hq, hbl⟩ | ⟨hq, hbl⟩
      · have HA : Hid ((strB t).any blankB = true) := Lib.hid (by rw [ha.out, drop_at t k hlt, List.any_cons, hbl]; rfl)
        clear ha hbl
        rcases hq with q | q | q | q | q
        · have n1 : ((((t[k]'hlt).toNat : Nat) : Int) == 32) = true := beq_iff_eq.2 (by omega)
          clear q
          go_wp2
          go_ret
          exact ⟨by rw [HA.out]; rfl, hbw⟩
        · have n1 : ((((t[k]'hlt).toNat : Nat) : Int) == 32) = false := beq_eq_false_iff_ne.2 (by omega)
          have n2 : ((((t[k]'hlt).toNat : Nat) : Int) == 9) = true := beq_iff_eq.2 (by omega)
          clear q
          go_wp2
          go_ret
          exact ⟨by rw [HA.out]; rfl, hbw⟩
        · have n1 : ((((t[k]'hlt).toNat : Nat) : Int) == 32) = false := beq_eq_false_iff_ne.2 (by omega)
          have n2 : ((((t[k]'hlt).toNat : Nat) : Int) == 9) = false := beq_eq_false_iff_ne.2 (by omega)
          have n3 : ((((t[k]'hlt).toNat : Nat) : Int) == 10) = true := beq_iff_eq.2 (by omega)
          clear q
          go_wp2
          go_ret
          exact ⟨by rw [HA.out]; rfl, hbw⟩
        · have n1 : ((((t[k]'hlt).toNat : Nat) : Int) == 32) = false := beq_eq_false_iff_ne.2 (by omega)
          have n2 : ((((t[k]'hlt).toNat : Nat) : Int) == 9) = false := beq_eq_false_iff_ne.2 (by omega)
          have n3 : ((((t[k]'hlt).toNat : Nat) : Int) == 10) = false := beq_eq_false_iff_ne.2 (by omega)
          have n4 : ((((t[k]'hlt).toNat : Nat) : Int) == 12) = true := beq_iff_eq.2 (by omega)
          clear q
          go_wp2
          go_ret
          exact ⟨by rw [HA.out]; rfl, hbw⟩
        · have n1 : ((((t[k]'hlt).toNat : Nat) : Int) == 32) = false := beq_eq_false_iff_ne.2 (by omega)
          have n2 : ((((t[k]'hlt).toNat : Nat) : Int) == 9) = false := beq_eq_false_iff_ne.2 (by omega)
          have n3 : ((((t[k]'hlt).toNat : Nat) : Int) == 10) = false := beq_eq_false_iff_ne.2 (by omega)
          have n4 : ((((t[k]'hlt).toNat : Nat) : Int) == 12) = false := beq_eq_false_iff_ne.2 (by omega)
          have n5 : ((((t[k]'hlt).toNat : Nat) : Int) == 13) = true := beq_iff_eq.2 (by omega)
          clear q
          go_wp2
          go_ret
          exact ⟨by rw [HA.out]; rfl, hbw⟩
      · have HA : Hid ((strB t).any blankB = ((strB t).drop (k + 1)).any blankB) := Lib.hid (by rw [ha.out, drop_at t k hlt, List.any_cons, hbl]; rfl)
        clear ha hbl
        obtain ⟨q1, q2, q3, q4, q5⟩ := hq
        have n1 : ((((t[k]'hlt).toNat : Nat) : Int) == 32) = false := beq_eq_false_iff_ne.2 (by omega)
        have n2 : ((((t[k]'hlt).toNat : Nat) : Int) == 9) = false := beq_eq_false_iff_ne.2 (by omega)
        have n3 : ((((t[k]'hlt).toNat : Nat) : Int) == 10) = false := beq_eq_false_iff_ne.2 (by omega)
        have n4 : ((((t[k]'hlt).toNat : Nat) : Int) == 12) = false := beq_eq_false_iff_ne.2 (by omega)
        have n5 : ((((t[k]'hlt).toNat : Nat) : Int) == 13) = false := beq_eq_false_iff_ne.2 (by omega)
        clear q1 q2 q3 q4 q5
        go_wp2
        go_roundw
        case rel => exact ⟨k + 1, by omega, by go_num, HA, hbw⟩
        case measure => simp [intOf]; omega
    · obtain rfl : k = t.size := by omega
      have HA : Hid ((strB t).any blankB = false) := Lib.hid (by rw [ha.out, List.drop_eq_nil_of_le (by rw [strB_len]; exact Nat.le_refl _)]; rfl)
      clear ha
      go_wp2
      go_ret
      exact ⟨by rw [HA.out]; rfl, hbw⟩
end Go.Proofs.YtkpjkeplbjkigaaDoor
