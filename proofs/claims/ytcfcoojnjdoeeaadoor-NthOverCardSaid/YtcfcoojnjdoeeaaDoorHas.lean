/- Whether a number is among those of an An+B: the program and the document: walks. -/
import Derived.Test.YtcfcoojnjdoeeaaDoorKit
namespace Go.Proofs.YtcfcoojnjdoeeaaDoor
open Go.RowKit

def hasF (a b n : Int) : Bool := decide (1 ≤ n) && (if 0 < a then decide (b ≤ n) && decide ((n - b) % a = 0) else if a < 0 then decide (n ≤ b) && decide ((b - n) % (-a) = 0) else decide (n = b))
theorem u64_wrap (x : Int) : IntKind.u64.wrap x = x % 18446744073709551616 := rfl

theorem sign_mul {a q : Int} (ha : 0 < a) : 0 ≤ a * q ↔ 0 ≤ q := by
  constructor
  · intro h
    rcases Int.lt_or_le q 0 with hq | hq
    · have : a * q < a * 0 := Int.mul_lt_mul_of_pos_left hq ha
      omega
    · exact hq
  · intro h; exact Int.mul_nonneg (by omega) h

theorem hasF_ref {a b n : Int} (hn : 1 ≤ n) (ha : a ≠ 0) : hasF a b n = (decide ((n - b).tmod a = 0) && decide (0 ≤ (n - b).tdiv a)) := by
  unfold hasF
  rw [decide_eq_true hn, Bool.true_and]
  by_cases hd : a ∣ (n - b)
  · obtain ⟨q, hq⟩ := hd
    have e1 : (n - b).tmod a = 0 := by rw [hq]; exact Int.mul_tmod_right a q
    have e2 : (n - b).tdiv a = q := by rw [hq]; exact Int.mul_tdiv_cancel_left q ha
    rw [e1, e2, decide_eq_true rfl, Bool.true_and]
    by_cases h : 0 < a
    · rw [if_pos h, decide_eq_true (show (n - b) % a = 0 by rw [hq]; exact Int.mul_emod_right a q), Bool.and_true]
      have := sign_mul (q := q) h
      rw [← hq] at this
      exact decide_eq_decide.2 ⟨fun x => this.1 (by omega), fun x => by have := this.2 x; omega⟩
    · rw [if_neg h, if_pos (by omega)]
      have e3 : b - n = -a * q := by rw [Int.neg_mul]; omega
      rw [decide_eq_true (show (b - n) % (-a) = 0 by rw [e3]; exact Int.mul_emod_right (-a) q), Bool.and_true]
      have := sign_mul (a := -a) (q := q) (by omega)
      rw [← e3] at this
      exact decide_eq_decide.2 ⟨fun x => this.1 (by omega), fun x => by have := this.2 x; omega⟩
  · have e1 : decide ((n - b).tmod a = 0) = false := decide_eq_false fun e => hd (Int.dvd_of_tmod_eq_zero e)
    rw [e1, Bool.false_and]
    by_cases h : 0 < a
    · rw [if_pos h, decide_eq_false (show ¬ (n - b) % a = 0 from fun e => hd (Int.dvd_of_emod_eq_zero e)), Bool.and_false]
    · rw [if_neg h, if_pos (by omega), decide_eq_false (show ¬ (b - n) % (-a) = 0 from fun e => hd (by have := Int.dvd_of_emod_eq_zero e; rw [Int.neg_dvd] at this; rw [show n - b = -(b - n) by omega]; exact Int.dvd_neg.2 this)), Bool.and_false]

set_option maxRecDepth 100000 in
set_option maxHeartbeats 2000000 in
theorem has_any (a b n : Int) (w : World) (ha : -1099511627776 ≤ a ∧ a ≤ 1099511627776) (hb : -1099511627776 ≤ b ∧ b ≤ 1099511627776) (hn : -9223372036854775808 ≤ n ∧ n ≤ 1099511627776) :
    Calls Tryd.prog 31 #[.int .i64 a, .int .i64 b, .int .i64 n] w fun e w' => e = .returned (.bool (hasF a b n)) ∧ w' = w := by
  obtain ⟨a1, a2⟩ := ha
  obtain ⟨b1, b2⟩ := hb
  obtain ⟨n1, n2⟩ := hn
  have HF : Hid (hasF a b n = (decide (1 ≤ n) && (if 0 < a then decide (b ≤ n) && decide ((n - b) % a = 0) else if a < 0 then decide (n ≤ b) && decide ((b - n) % (-a) = 0) else decide (n = b)))) := Lib.hid rfl
  by_cases h1 : n < 1
  · have hE : hasF a b n = false := by rw [HF.out, decide_eq_false (by omega)]; rfl
    rw [hE]
    go_enter Tryd.func31, Tryd.ntmps31
    go_wp2
    go_ret
    exact ⟨rfl, rfl⟩
  · by_cases h2 : 0 < a
    · by_cases h3 : b ≤ n
      · have hE : hasF a b n = decide ((n - b) % a = 0) := by rw [HF.out, decide_eq_true (show 1 ≤ n by omega), if_pos h2, decide_eq_true h3]; rfl
        have hW : IntKind.u64.wrap (n - IntKind.u64.wrap b) = n - b := by rw [u64_wrap, u64_wrap]; omega
        rw [hE]
        go_enter Tryd.func31, Tryd.ntmps31
        go_wp2
        go_ret
        exact ⟨rfl, rfl⟩
      · have hE : hasF a b n = false := by rw [HF.out, decide_eq_true (show 1 ≤ n by omega), if_pos h2, decide_eq_false h3]; rfl
        rw [hE]
        go_enter Tryd.func31, Tryd.ntmps31
        go_wp2
        go_ret
        exact ⟨rfl, rfl⟩
    · by_cases h4 : a < 0
      · by_cases h3 : n ≤ b
        · have hE : hasF a b n = decide ((b - n) % (-a) = 0) := by rw [HF.out, decide_eq_true (show 1 ≤ n by omega), if_neg h2, if_pos h4, decide_eq_true h3]; rfl
          have hW : IntKind.u64.wrap (b - n) = b - n := by rw [u64_wrap]; omega
          have hW2 : IntKind.u64.wrap (-IntKind.u64.wrap a) = -a := by rw [u64_wrap, u64_wrap]; omega
          have hne : ((-a : Int) == 0) = false := beq_eq_false_iff_ne.2 (by omega)
          rw [hE]
          go_enter Tryd.func31, Tryd.ntmps31
          go_wp2
          go_ret
          exact ⟨rfl, rfl⟩
        · have hE : hasF a b n = false := by rw [HF.out, decide_eq_true (show 1 ≤ n by omega), if_neg h2, if_pos h4, decide_eq_false h3]; rfl
          rw [hE]
          go_enter Tryd.func31, Tryd.ntmps31
          go_wp2
          go_ret
          exact ⟨rfl, rfl⟩
      · have hE : hasF a b n = (n == b) := by rw [HF.out, decide_eq_true (show 1 ≤ n by omega), if_neg h2, if_neg h4, Bool.true_and]; rfl
        rw [hE]
        go_enter Tryd.func31, Tryd.ntmps31
        go_wp2
        go_ret
        exact ⟨rfl, rfl⟩

set_option maxRecDepth 100000 in
set_option maxHeartbeats 2000000 in
theorem rhas_any (a b n : Int) (w : World) (ha : -1099511627776 ≤ a ∧ a ≤ 1099511627776) (hb : -1099511627776 ≤ b ∧ b ≤ 1099511627776) (hn : -9223372036854775808 ≤ n ∧ n ≤ 1099511627776) :
    Calls Tryd.prog 13 #[.int .i64 a, .int .i64 b, .int .i64 n] w fun e w' => e = .returned (.bool (hasF a b n)) ∧ w' = w := by
  obtain ⟨a1, a2⟩ := ha
  obtain ⟨b1, b2⟩ := hb
  obtain ⟨n1, n2⟩ := hn
  by_cases h1 : n < 1
  · have hE : hasF a b n = false := by unfold hasF; rw [decide_eq_false (by omega)]; rfl
    rw [hE]
    go_enter Tryd.func13, Tryd.ntmps13
    go_wp2
    go_ret
    exact ⟨rfl, rfl⟩
  · by_cases h2 : a = 0
    · have hE : hasF a b n = (n == b) := by unfold hasF; rw [decide_eq_true (show 1 ≤ n by omega), if_neg (by omega), if_neg (by omega), Bool.true_and]; rfl
      rw [hE]
      subst h2
      go_enter Tryd.func13, Tryd.ntmps13
      go_wp2
      go_ret
      exact ⟨rfl, rfl⟩
    · have n0 : (a == 0) = false := beq_eq_false_iff_ne.2 h2
      have hE : hasF a b n = (((n - b).tmod a == 0) && decide (0 ≤ (n - b).tdiv a)) := hasF_ref (by omega) h2
      rw [hE]
      clear hE
      generalize hm : (n - b).tmod a = m
      generalize hq : (n - b).tdiv a = q
      have hqb : -9223372036854775808 ≤ q ∧ q ≤ 9223372036854775807 := by
        have h := Int.natAbs_tdiv_le_natAbs (n - b) a
        rw [hq] at h
        omega
      obtain ⟨q1, q2⟩ := hqb
      by_cases hz : m = 0
      · subst hz
        go_enter Tryd.func13, Tryd.ntmps13
        go_wp2
        go_ret
        exact ⟨rfl, rfl⟩
      · have n1 : (m == 0) = false := beq_eq_false_iff_ne.2 hz
        go_enter Tryd.func13, Tryd.ntmps13
        go_wp2
        go_ret
        exact ⟨rfl, rfl⟩
end Go.Proofs.YtcfcoojnjdoeeaaDoor
