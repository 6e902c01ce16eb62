/- DecodeLines: the law's walk. -/
import Derived.Test.YtmcboiopglpbkaaSpeaks
namespace Go.Proofs.Ytmcboiopglpbkaa
open Go.RowKit

def LawPost (w : World) (e : Ending) (w' : World) : Prop := e = .returned (.bool true) ∧ Below w.heap.size w w'

set_option maxHeartbeats 1000000 in
theorem lawLines_long (a : Option Addr) (len cap : Nat) (at_ : Int) (w : World) (hl : 2000 < len) :
    Calls Try.prog 6 #[.slice a len cap, .int .i64 at_] w (LawPost w) := by
  go_enter Try.func6, Try.ntmps6
  go_wp2_with fail
  refine (speaks_any _).mono ?_
  rintro e w1 ⟨rfl, hb1⟩
  go_wp2
  go_ret
  exact ⟨rfl, hb1⟩

set_option maxHeartbeats 1000000 in
theorem lawLines_some (b off len cap : Nat) (zs : List Int) (at_ : Int) (w : World) (hlen : zs.length = len) (h1 : 1 ≤ len) (hl : len ≤ cap) (hcap : cap ≤ maxLen) (hsm : len ≤ 2000)
    (hat : At w .i64 b off zs) (ha : -9223372036854775808 ≤ at_ ∧ at_ ≤ 9223372036854775807) :
    Calls Try.prog 6 #[.slice (some ⟨b, off, none⟩) len cap, .int .i64 at_] w (LawPost w) := by
  have hcap' := hcap
  unfold maxLen at hcap'
  have H0 := Lib.hid hlen; clear hlen
  have HC := Lib.hid hcap; clear hcap
  obtain ⟨ha1, ha2⟩ := ha
  have key : at_ ≤ 0 ∨ (∃ n : Nat, at_ = (n : Int) ∧ 1 ≤ n ∧ n ≤ len) ∨ (len : Int) < at_ := by
    by_cases h : (len : Int) < at_
    · exact .inr (.inr h)
    · by_cases h0 : 0 < at_
      · exact .inr (.inl ⟨at_.toNat, by omega, by omega, by omega⟩)
      · exact .inl (by omega)
  rcases key with h | ⟨n, rfl, hn1, hn2⟩ | h
  · have HN : Hid (cutAt len at_ = 0) := Lib.hid (by unfold cutAt; omega)
    go_enter Try.func6, Try.ntmps6
    go_wp2_with fail
    refine (speaks_any _).mono ?_
    rintro e w1 ⟨rfl, hb1⟩
    go_wp2_with fail
    refine (lines_some b off len cap zs at_ w1 H0.out h1 hl HC.out (hat.later hb1 hat.1) ⟨ha1, ha2⟩).mono ?_
    rintro e w2 ⟨he, hb2⟩
    rw [HN.out, show linesTo zs 0 = (0, 0) from rfl] at he
    subst he
    have hb2' := hb1.trans (hb2.mono hb1.size)
    clear hb2
    go_wp2
    all_goals
      refine wp_loop_rounds 1 ?_; rw [rounds_succ]
      go_wp2
      go_ret
      exact ⟨ret_bool (by first | rfl | (show ((0 : Int) == at_) = true; rw [beq_iff_eq]; omega)), hb2'⟩
  · have HN : Hid (cutAt len n = n) := Lib.hid (by unfold cutAt; omega)
    go_enter Try.func6, Try.ntmps6
    go_wp2_with fail
    refine (speaks_any _).mono ?_
    rintro e w1 ⟨rfl, hb1⟩
    go_wp2_with fail
    refine (lines_some b off len cap zs n w1 H0.out h1 hl HC.out (hat.later hb1 hat.1) ⟨ha1, ha2⟩).mono ?_
    rintro e w2 ⟨he, hb2⟩
    rw [HN.out] at he
    subst he
    have hb2' := hb1.trans (hb2.mono hb1.size)
    clear hb2
    have hle0 := linesTo_le zs n
    go_wp2
    go_loopw [8, 9, 10] (fun l p i wr => ∃ k : Nat, k ≤ n ∧ i = .int .i64 k ∧ l = .int .i64 (linesTo zs k).1 ∧ p = .int .i64 ((k : Int) - (linesTo zs k).2) ∧ Below w.heap.size w wr) (fun _ _ i _ => n - (intOf i).toNat)
    case atStart => exact ⟨0, by omega, rfl, rfl, rfl, hb2'⟩
    case round =>
      obtain ⟨k, hk, rfl, rfl, rfl, hbl⟩ := hrel
      have hle := linesTo_le zs k
      by_cases hlt : k < n
      · have c1 := (hat.later hbl hat.1).2 k (by rw [H0.out]; omega)
        by_cases h10 : zs[k]?.getD 0 = 10
        · have HS := Lib.hid (linesTo_hit zs k h10)
          rw [h10] at c1
          clear h10
          go_wp2
          go_roundw
          case rel => exact ⟨k + 1, by omega, by go_num, by rw [HS.out.1]; go_num, by rw [HS.out.2]; go_num, hbl⟩
          case measure => simp [intOf]; omega
        · have HS := Lib.hid (linesTo_miss zs k h10)
          have h10' : (zs[k]?.getD 0 == 10) = false := by rw [beq_eq_false_iff_ne]; exact h10
          clear h10
          generalize zs[k]?.getD 0 = z at c1 h10'
          go_wp2
          go_roundw
          case rel => exact ⟨k + 1, by omega, by go_num, by rw [HS.out.1], by rw [HS.out.2]; go_num, hbl⟩
          case measure => simp [intOf]; omega
      · have : k = n := by omega
        subst this
        go_wp2
        all_goals
          go_ret
          exact ⟨ret_bool (by simp; omega), hbl⟩
  · have HN : Hid (cutAt len at_ = len) := Lib.hid (by unfold cutAt; omega)
    go_enter Try.func6, Try.ntmps6
    go_wp2_with fail
    refine (speaks_any _).mono ?_
    rintro e w1 ⟨rfl, hb1⟩
    go_wp2_with fail
    refine (lines_some b off len cap zs at_ w1 H0.out h1 hl HC.out (hat.later hb1 hat.1) ⟨ha1, ha2⟩).mono ?_
    rintro e w2 ⟨he, hb2⟩
    rw [HN.out] at he
    subst he
    have hb2' := hb1.trans (hb2.mono hb1.size)
    clear hb2
    have hle0 := linesTo_le zs len
    go_wp2
    go_loopw [8, 9, 10] (fun l p i wr => ∃ k : Nat, k ≤ len ∧ i = .int .i64 k ∧ l = .int .i64 (linesTo zs k).1 ∧ p = .int .i64 ((k : Int) - (linesTo zs k).2) ∧ Below w.heap.size w wr) (fun _ _ i _ => len - (intOf i).toNat)
    case atStart => exact ⟨0, by omega, rfl, rfl, rfl, hb2'⟩
    case round =>
      obtain ⟨k, hk, rfl, rfl, rfl, hbl⟩ := hrel
      have hle := linesTo_le zs k
      by_cases hlt : k < len
      · have c1 := (hat.later hbl hat.1).2 k (by rw [H0.out]; omega)
        by_cases h10 : zs[k]?.getD 0 = 10
        · have HS := Lib.hid (linesTo_hit zs k h10)
          rw [h10] at c1
          clear h10
          go_wp2
          go_roundw
          case rel => exact ⟨k + 1, by omega, by go_num, by rw [HS.out.1]; go_num, by rw [HS.out.2]; go_num, hbl⟩
          case measure => simp [intOf]; omega
        · have HS := Lib.hid (linesTo_miss zs k h10)
          have h10' : (zs[k]?.getD 0 == 10) = false := by rw [beq_eq_false_iff_ne]; exact h10
          clear h10
          generalize zs[k]?.getD 0 = z at c1 h10'
          go_wp2
          go_roundw
          case rel => exact ⟨k + 1, by omega, by go_num, by rw [HS.out.1], by rw [HS.out.2]; go_num, hbl⟩
          case measure => simp [intOf]; omega
      · have : k = len := by omega
        subst this
        go_wp2
        all_goals
          go_ret
          exact ⟨ret_bool (by simp; omega), hbl⟩

set_option maxHeartbeats 1000000 in
theorem lawLines_none (a : Option Addr) (cap : Nat) (at_ : Int) (w : World) (ha : -9223372036854775808 ≤ at_ ∧ at_ ≤ 9223372036854775807) :
    Calls Try.prog 6 #[.slice a 0 cap, .int .i64 at_] w (LawPost w) := by
  obtain ⟨ha1, ha2⟩ := ha
  have HN : Hid (cutAt 0 at_ = 0) := Lib.hid (by unfold cutAt; omega)
  by_cases h : at_ ≤ 0
  all_goals
    go_enter Try.func6, Try.ntmps6
    go_wp2_with fail
    refine (speaks_any _).mono ?_
    rintro e w1 ⟨rfl, hb1⟩
    go_wp2_with fail
    refine (lines_none a cap at_ w1 ⟨ha1, ha2⟩).mono ?_
    rintro e w2 ⟨he, hb2⟩
    rw [HN.out, show linesTo [] 0 = (0, 0) from rfl] at he
    subst he
    have hb2' := hb1.trans (hb2.mono hb1.size)
    clear hb2
    go_wp2
    all_goals
      refine wp_loop_rounds 1 ?_; rw [rounds_succ]
      go_wp2
      go_ret
      exact ⟨ret_bool (by first | rfl | (show ((0 : Int) == at_) = true; rw [beq_iff_eq]; omega)), hb2'⟩

theorem lawLines_any (a : Option Addr) (cap : Nat) (zs : List Int) (at_ : Int) (w : World) (hr : Reads w .i64 a cap zs) (ha : -9223372036854775808 ≤ at_ ∧ at_ ≤ 9223372036854775807) :
    Calls Try.prog 6 #[.slice a zs.length cap, .int .i64 at_] w (LawPost w) := by
  obtain ⟨h1, h2, h3⟩ := hr
  by_cases hsm : zs.length ≤ 2000
  · by_cases h0 : zs = []
    · subst h0; exact lawLines_none a cap at_ w ha
    · obtain ⟨b, off, rfl, hat⟩ := h3.resolve_left h0
      exact lawLines_some b off zs.length cap zs at_ w rfl (List.length_pos_iff.2 h0) h1 h2 hsm hat ha
  · exact lawLines_long a zs.length cap at_ w (by omega)
end Go.Proofs.Ytmcboiopglpbkaa
