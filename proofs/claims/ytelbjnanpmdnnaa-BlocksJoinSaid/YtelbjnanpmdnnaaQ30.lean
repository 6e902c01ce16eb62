/- Texts of mine in one: R2. -/
import Derived.Test.YtelbjnanpmdnnaaQ14
namespace Go.Proofs.Ytelbjnanpmdnnaa
section
open Go.RowKit
set_option maxRecDepth 100000 in
set_option maxHeartbeats 1000000 in
theorem resc_any {a : Option Addr} {n cap : Nat} {l : List Int} {w : World} (i : Int) (k : Nat) (h : Src w a n cap l) (hi : i = (k : Int)) (hk : k ≤ 2000000) :
    Calls Try.prog 58 #[.slice a n cap, .int .i64 i] w (Tells (.bool (escB l k)) w) := by
  subst hi
  have f0 := ris_any (k : Int) k 92 h rfl (by decide)
  have f1 := ris_any ((k : Int) + 1) (k + 1) 10 h (by omega) (by decide)
  clear h
  unfold escB
  generalize isB l k 92 = r0 at *
  generalize isB l (k + 1) 10 = r1 at *
  cases r0 <;> cases r1
  all_goals
    go_enter Try.func58, Try.ntmps58
    go_wp2_with ((first | (go_at_call 53; with_reducible refine f0.mono ?_) | (go_at_call 53; with_reducible refine f1.mono ?_)); rintro e w1 ⟨rfl, rfl⟩)
    go_ret
    exact ⟨rfl, rfl⟩
set_option maxRecDepth 100000 in
set_option maxHeartbeats 1000000 in
theorem rnameAt_any {a : Option Addr} {n cap : Nat} {l : List Int} {w : World} (i : Int) (k : Nat) (h : Src w a n cap l) (hi : i = (k : Int)) (hk : k ≤ 1000000) :
    Calls Try.prog 54 #[.slice a n cap, .int .i64 i] w (Tells (.bool (nameAt l k)) w) := by
  subst hi
  have f0 := ris_any (k : Int) k 45 h rfl (by decide)
  have f1 := ris_any ((k : Int) + 1) (k + 1) 45 h (by omega) (by decide)
  have f2 := rstartAt ((k : Int) + 1) (k + 1) h (by omega)
  have f3 := rstartAt (k : Int) k h rfl
  have f4 := resc_any ((k : Int) + 1) (k + 1) h (by omega) (by omega)
  have f5 := resc_any (k : Int) k h rfl (by omega)
  clear h
  unfold nameAt
  generalize isB l k 45 = r0 at *
  generalize isB l (k + 1) 45 = r1 at *
  generalize stB l (k + 1) = r2 at *
  generalize stB l k = r3 at *
  generalize escB l (k + 1) = r4 at *
  generalize escB l k = r5 at *
  cases r0
  · cases r3 <;> cases r5
    all_goals rw [if_neg (by decide)]
    all_goals
      go_enter Try.func54, Try.ntmps54
      go_wp2_with ((first | (go_at_call 53; with_reducible refine f0.mono ?_) | (go_at_call 53; with_reducible refine f1.mono ?_) | (go_at_call 74; with_reducible refine f2.mono ?_) | (go_at_call 74; with_reducible refine f3.mono ?_) | (go_at_call 58; with_reducible refine f4.mono ?_) | (go_at_call 58; with_reducible refine f5.mono ?_)); rintro e w1 ⟨rfl, rfl⟩)
      go_ret
      exact ⟨rfl, rfl⟩
  · cases r1 <;> cases r2 <;> cases r4
    all_goals rw [if_pos rfl]
    all_goals
      go_enter Try.func54, Try.ntmps54
      go_wp2_with ((first | (go_at_call 53; with_reducible refine f0.mono ?_) | (go_at_call 53; with_reducible refine f1.mono ?_) | (go_at_call 74; with_reducible refine f2.mono ?_) | (go_at_call 74; with_reducible refine f3.mono ?_) | (go_at_call 58; with_reducible refine f4.mono ?_) | (go_at_call 58; with_reducible refine f5.mono ?_)); rintro e w1 ⟨rfl, rfl⟩)
      go_ret
      exact ⟨rfl, rfl⟩
set_option maxRecDepth 100000 in
set_option maxHeartbeats 1000000 in
theorem rsign_any {a : Option Addr} {n cap : Nat} {l : List Int} {w : World} (i : Int) (k : Nat) (h : Src w a n cap l) (hi : i = (k : Int)) (hk : k ≤ 1000000) (hp : isB l k 43 = true ∨ (isB l k 43 = false ∧ isB l k 45 = true)) :
    Calls Try.prog 51 #[.slice a n cap, .int .i64 i] w (Tells (.bool (numAt l k)) w) := by
  subst hi
  have es : signAt l k = k + 1 := by unfold signAt; rcases hp with hp | ⟨_, hp⟩ <;> simp [hp]
  unfold numAt fracAt
  rw [es]
  have f0 := ris_any (k : Int) k 43 h rfl (by decide)
  have f1 := ris_any (k : Int) k 45 h rfl (by decide)
  have f2 := rdigitAt ((k : Int) + 1) (k + 1) h (by omega)
  have f3 := ris_any ((k : Int) + 1) (k + 1) 46 h (by omega) (by decide)
  have f4 := rdigitAt ((k : Int) + 1 + 1) (k + 1 + 1) h (by omega)
  clear h es
  generalize isB l k 43 = r0 at *
  generalize isB l k 45 = r1 at *
  generalize dgB l (k + 1) = r2 at *
  generalize isB l (k + 1) 46 = r3 at *
  generalize dgB l (k + 1 + 1) = r4 at *
  rcases hp with rfl | ⟨rfl, rfl⟩
  all_goals cases r2 <;> cases r3 <;> cases r4
  all_goals
    go_enter Try.func51, Try.ntmps51
    go_wp2_with ((first | (go_at_call 53; with_reducible refine f0.mono ?_) | (go_at_call 53; with_reducible refine f1.mono ?_) | (go_at_call 72; with_reducible refine f2.mono ?_) | (go_at_call 53; with_reducible refine f3.mono ?_) | (go_at_call 72; with_reducible refine f4.mono ?_)); rintro e w1 ⟨rfl, rfl⟩)
    go_ret
    exact ⟨rfl, rfl⟩
set_option maxRecDepth 100000 in
set_option maxHeartbeats 1000000 in
theorem rnumAt_any {a : Option Addr} {n cap : Nat} {l : List Int} {w : World} (i : Int) (k : Nat) (h : Src w a n cap l) (hi : i = (k : Int)) (hk : k ≤ 1000000) :
    Calls Try.prog 51 #[.slice a n cap, .int .i64 i] w (Tells (.bool (numAt l k)) w) := by
  rcases h1 : isB l k 43 with _ | _
  · rcases h2 : isB l k 45 with _ | _
    · subst hi
      have es : signAt l k = k := by unfold signAt; simp [h1, h2]
      unfold numAt fracAt
      rw [es]
      have f0 := ris_any (k : Int) k 43 h rfl (by decide)
      have f1 := ris_any (k : Int) k 45 h rfl (by decide)
      have f2 := rdigitAt (k : Int) k h rfl
      have f3 := ris_any (k : Int) k 46 h rfl (by decide)
      have f4 := rdigitAt ((k : Int) + 1) (k + 1) h (by omega)
      rw [h1] at f0
      rw [h2] at f1
      clear h es h1 h2
      generalize dgB l k = r2 at *
      generalize isB l k 46 = r3 at *
      generalize dgB l (k + 1) = r4 at *
      cases r2 <;> cases r3 <;> cases r4
      all_goals
        go_enter Try.func51, Try.ntmps51
        go_wp2_with ((first | (go_at_call 53; with_reducible refine f0.mono ?_) | (go_at_call 53; with_reducible refine f1.mono ?_) | (go_at_call 72; with_reducible refine f2.mono ?_) | (go_at_call 53; with_reducible refine f3.mono ?_) | (go_at_call 72; with_reducible refine f4.mono ?_)); rintro e w1 ⟨rfl, rfl⟩)
        go_ret
        exact ⟨rfl, rfl⟩
    · exact rsign_any i k h hi hk (.inr ⟨h1, h2⟩)
  · exact rsign_any i k h hi hk (.inl h1)
set_option maxRecDepth 100000 in
set_option maxHeartbeats 1000000 in
theorem rhidden_any (c : Int) (w : World) (hc : Ch c) : Calls Try.prog 86 #[.int .i64 c] w (Tells (.bool (hiddenB c)) w) := by
  obtain ⟨h0, h1⟩ := hc
  rcases (show c ≤ 8 ∨ (¬ c ≤ 8 ∧ c = 11) ∨ (¬ c ≤ 8 ∧ c ≠ 11 ∧ 14 ≤ c ∧ c ≤ 31) ∨ (¬ c ≤ 8 ∧ c ≠ 11 ∧ ¬ 14 ≤ c) ∨ (¬ c ≤ 8 ∧ c ≠ 11 ∧ 14 ≤ c ∧ ¬ c ≤ 31 ∧ c = 127) ∨ (¬ c ≤ 8 ∧ c ≠ 11 ∧ 14 ≤ c ∧ ¬ c ≤ 31 ∧ c ≠ 127) from by omega) with q0 | ⟨q0, rfl⟩ | ⟨q0, q1, q2, q3⟩ | ⟨q0, q1, q2⟩ | ⟨q0, q1, q2, q3, rfl⟩ | ⟨q0, q1, q2, q3, q4⟩
  · rw [show hiddenB c = true from decide_eq_true (by omega)]
    go_enter Try.func86, Try.ntmps86
    go_wp2
    go_ret
    exact ⟨rfl, rfl⟩
  · rw [show hiddenB 11 = true from decide_eq_true (by omega)]
    go_enter Try.func86, Try.ntmps86
    go_wp2
    go_ret
    exact ⟨rfl, rfl⟩
  · rw [show hiddenB c = true from decide_eq_true (by omega)]
    have n11 : (c == 11) = false := beq_eq_false_iff_ne.2 q1
    go_enter Try.func86, Try.ntmps86
    go_wp2
    go_ret
    exact ⟨rfl, rfl⟩
  · rw [show hiddenB c = false from decide_eq_false (by omega)]
    have n11 : (c == 11) = false := beq_eq_false_iff_ne.2 q1
    have n127 : (c == 127) = false := beq_eq_false_iff_ne.2 (by omega)
    go_enter Try.func86, Try.ntmps86
    go_wp2
    go_ret
    exact ⟨rfl, rfl⟩
  · rw [show hiddenB 127 = true from decide_eq_true (by omega)]
    go_enter Try.func86, Try.ntmps86
    go_wp2
    go_ret
    exact ⟨rfl, rfl⟩
  · rw [show hiddenB c = false from decide_eq_false (by omega)]
    have n11 : (c == 11) = false := beq_eq_false_iff_ne.2 q1
    have n127 : (c == 127) = false := beq_eq_false_iff_ne.2 q4
    go_enter Try.func86, Try.ntmps86
    go_wp2
    go_ret
    exact ⟨rfl, rfl⟩
end
end Go.Proofs.Ytelbjnanpmdnnaa
