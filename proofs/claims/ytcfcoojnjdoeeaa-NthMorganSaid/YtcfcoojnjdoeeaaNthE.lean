/- Whether two rows of truths are one: a quiet walk. -/
import Derived.Test.YtcfcoojnjdoeeaaNthQ
namespace Go.Proofs.Ytcfcoojnjdoeeaa
open Go.RowKit

set_option maxRecDepth 100000 in
set_option maxHeartbeats 1000000 in
theorem equal_q (a a' : Option Addr) (n n' cap cap' : Nat) (f g : Nat → Bool) (w : World) (hr : RdB w a n cap f) (hr' : RdB w a' n' cap' g) :
    Calls Try.prog 32 #[.slice a n cap, .slice a' n' cap'] w fun e w' => e = .returned (.bool (decide (n = n' ∧ ∀ i, i < n → f i = g i))) ∧ ∃ m, w' = w.drewN m := by
  have hm : n ≤ 9223372036854775807 := by have := hr.1; have := hr.2.1; unfold maxLen at this; omega
  have hm' : n' ≤ 9223372036854775807 := by have := hr'.1; have := hr'.2.1; unfold maxLen at this; omega
  have HR := Lib.hid hr
  have HR' := Lib.hid hr'
  clear hr hr'
  by_cases hl : n = n'
  · subst hl
    have n0 : ((n : Int) != (n : Int)) = false := by simp
    by_cases hd : ∀ i, i < n → f i = g i
    · rw [decide_eq_true ⟨rfl, hd⟩]
      have HD := Lib.hid hd
      clear hd
      go_enter Try.func32, Try.ntmps32
      go_wp2
      go_loopw [5, 13] (fun _ i wr => ∃ k : Nat, k ≤ n ∧ i = .int .i64 k ∧ ∃ m, wr = w.drewN m) (fun _ i _ => n - (intOf i).toNat)
      case atStart => exact ⟨0, by omega, rfl, 0, rfl⟩
      case round =>
        obtain ⟨k, hk, rfl, mm, rfl⟩ := hrel
        by_cases hlt : k < n
        · obtain ⟨b, off, rfl, hc⟩ := rdB_at HR.out k hlt
          obtain ⟨b', off', rfl, hc'⟩ := rdB_at HR'.out k hlt
          have hkI : (0 : Int) ≤ (k : Int) := by omega
          have hkI2 : (k : Int) < (n : Int) := by omega
          rw [← HD.out k hlt] at hc'
          generalize f k = r at *
          have nr : (r != r) = false := by simp
          go_wp2_with fail
          go_quiet (fail)
          go_wp2
          go_roundw
          case rel => exact ⟨k + 1, by omega, by go_num, _, by first | rfl | exact World.drewN_drewN ..⟩
          case measure => simp [intOf]; omega
        · obtain rfl : k = n := by omega
          go_wp2
          go_ret
          exact ⟨rfl, mm, rfl⟩
    · rw [decide_eq_false (fun x => hd x.2)]
      have HD := Lib.hid hd
      clear hd
      go_enter Try.func32, Try.ntmps32
      go_wp2
      go_loopw [5, 13] (fun _ i wr => ∃ k : Nat, k ≤ n ∧ i = .int .i64 k ∧ Hid (∀ j, j < k → f j = g j) ∧ ∃ m, wr = w.drewN m) (fun _ i _ => n - (intOf i).toNat)
      case atStart => exact ⟨0, by omega, rfl, Lib.hid (fun j hj => by omega), 0, rfl⟩
      case round =>
        obtain ⟨k, hk, rfl, hj, mm, rfl⟩ := hrel
        by_cases hlt : k < n
        · obtain ⟨b, off, rfl, hc⟩ := rdB_at HR.out k hlt
          obtain ⟨b', off', rfl, hc'⟩ := rdB_at HR'.out k hlt
          have hkI : (0 : Int) ≤ (k : Int) := by omega
          have hkI2 : (k : Int) < (n : Int) := by omega
          by_cases he : f k = g k
          · have HJ := Lib.hid (show ∀ j, j < k + 1 → f j = g j from fun j h => by
              rcases Nat.lt_or_ge j k with h' | h'
              · exact hj.out j h'
              · obtain rfl : j = k := by omega
                exact he)
            rw [← he] at hc'
            clear he hj
            generalize f k = r at *
            have nr : (r != r) = false := by simp
            go_wp2_with fail
            go_quiet (fail)
            go_wp2
            go_roundw
            case rel => exact ⟨k + 1, by omega, by go_num, HJ, _, by first | rfl | exact World.drewN_drewN ..⟩
            case measure => simp [intOf]; omega
          · generalize f k = r at *
            generalize g k = s at *
            cases r <;> cases s
            · exact absurd rfl he
            · clear he
              go_wp2_with fail
              go_quiet (fail)
              go_wp2
              go_ret
              exact ⟨rfl, _, by first | rfl | exact World.drewN_drewN ..⟩
            · clear he
              go_wp2_with fail
              go_quiet (fail)
              go_wp2
              go_ret
              exact ⟨rfl, _, by first | rfl | exact World.drewN_drewN ..⟩
            · exact absurd rfl he
        · obtain rfl : k = n := by omega
          exact absurd hj.out HD.out
  · rw [decide_eq_false (fun x => hl x.1)]
    have n0 : ((n : Int) != (n' : Int)) = true := by rw [bne, beq_eq_false_iff_ne.2 (by omega)]; rfl
    go_enter Try.func32, Try.ntmps32
    go_wp2
    go_ret
    exact ⟨rfl, 0, rfl⟩
end Go.Proofs.Ytcfcoojnjdoeeaa
