/- Whether a place is an element's: the document's side: a walk. -/
import Derived.Test.YtknggcbhfkbelaaDo7
namespace Go.Proofs.Ytknggcbhfkbelaa
open Go.RowKit
set_option linter.unusedVariables false
set_option linter.unusedSimpArgs false

set_option maxRecDepth 100000 in
set_option maxHeartbeats 4000000 in
theorem relement_any (xs : List Nd) (a : Option Addr) (n c : Nat) (p : Int) (ok : Nat → Prop) (w : World) (hx : RdN ok w a n c xs) : Calls Try.prog 18 #[.slice a n c, .int .i64 p] w (Tells (.bool (elemB xs p)) w) := by
  have hm : n ≤ 9223372036854775807 := by have := hx.2.1; have := hx.2.2.1.1; unfold maxLen at this; omega
  have HN := Lib.hid hx.1
  unfold elemB
  rcases atI_cases xs p with ⟨k, x, rfl, hxk, hk, ha⟩ | ⟨ha, hp⟩
  · obtain ⟨b, off, rfl, hb, _, x1, _⟩ := hx.at k x hxk
    rw [ha]
    rw [← HN.out] at hk
    have h1 : (0 : Int) ≤ (k : Int) := by omega
    have h2 : (k : Int) < (n : Int) := by omega
    have q1 : (x.kind == 1) = decide (x.kind = 1) := rfl
    clear hx hxk ha
    dsimp only
    generalize decide (x.kind = 1) = r at *
    generalize x.kind = kk at *
    go_enter Try.func18, Try.ntmps18
    go_wp2
    go_ret
    exact ⟨rfl, rfl⟩
  · rw [ha]
    rw [← HN.out] at hp
    clear hx ha
    dsimp only
    by_cases h0 : 0 ≤ p
    · have h2 : ¬ p < (n : Int) := by omega
      clear hp
      go_enter Try.func18, Try.ntmps18
      go_wp2
      go_ret
      exact ⟨rfl, rfl⟩
    · clear hp
      go_enter Try.func18, Try.ntmps18
      go_wp2
      go_ret
      exact ⟨rfl, rfl⟩
end Go.Proofs.Ytknggcbhfkbelaa
