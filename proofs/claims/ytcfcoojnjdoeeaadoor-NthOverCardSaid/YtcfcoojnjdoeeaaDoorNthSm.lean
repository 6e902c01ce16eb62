/- Whether the numbers of an An+B are small (for the door seat; the plain seat has it in XNthLs): a walk. -/
import Derived.Test.YtcfcoojnjdoeeaaDoorNthO
namespace Go.Proofs.YtcfcoojnjdoeeaaDoor
open Go.RowKit

/-- An An+B whose numbers are at most so great. -/
def smallB (a b m : Int) : Bool := decide (-m ≤ a ∧ a ≤ m ∧ -m ≤ b ∧ b ≤ m)
set_option maxRecDepth 100000 in
set_option maxHeartbeats 1000000 in
theorem small_any (a b m : Int) (w : World) (hm : 0 ≤ m ∧ m ≤ 1099511627776) :
    Calls Tryd.prog 10 #[.agg #[.int .i64 a, .int .i64 b], .int .i64 m] w (ToldB (.bool (smallB a b m)) w) := by
  obtain ⟨m1, m2⟩ := hm
  have hS : smallB a b m = decide (-m ≤ a ∧ a ≤ m ∧ -m ≤ b ∧ b ≤ m) := rfl
  by_cases h1 : -m ≤ a
  · by_cases h2 : a ≤ m
    · by_cases h3 : -m ≤ b
      · by_cases h4 : b ≤ m
        · rw [hS, decide_eq_true ⟨h1, h2, h3, h4⟩]
          clear hS
          go_enter Tryd.func10, Tryd.ntmps10
          go_wp2
          go_ret
          exact ⟨rfl, (Below.refl _ w).alloc (Nat.le_refl _) _⟩
        · rw [hS, decide_eq_false (fun h => h4 h.2.2.2)]
          clear hS
          go_enter Tryd.func10, Tryd.ntmps10
          go_wp2
          go_ret
          exact ⟨rfl, (Below.refl _ w).alloc (Nat.le_refl _) _⟩
      · rw [hS, decide_eq_false (fun h => h3 h.2.2.1)]
        clear hS
        go_enter Tryd.func10, Tryd.ntmps10
        go_wp2
        go_ret
        exact ⟨rfl, (Below.refl _ w).alloc (Nat.le_refl _) _⟩
    · rw [hS, decide_eq_false (fun h => h2 h.2.1)]
      clear hS
      go_enter Tryd.func10, Tryd.ntmps10
      go_wp2
      go_ret
      exact ⟨rfl, (Below.refl _ w).alloc (Nat.le_refl _) _⟩
  · rw [hS, decide_eq_false (fun h => h1 h.1)]
    clear hS
    go_enter Tryd.func10, Tryd.ntmps10
    go_wp2
    go_ret
    exact ⟨rfl, (Below.refl _ w).alloc (Nat.le_refl _) _⟩

theorem smallB_yes {a b m : Int} (h : smallB a b m = true) : (-m ≤ a ∧ a ≤ m) ∧ (-m ≤ b ∧ b ≤ m) := by
  have := of_decide_eq_true h
  exact ⟨⟨this.1, this.2.1⟩, this.2.2⟩

theorem below_from {w W0 w' : World} (h : Below w.heap.size w W0) (k : Below W0.heap.size W0 w') : Below w.heap.size w w' := h.trans (k.mono h.size)
end Go.Proofs.YtcfcoojnjdoeeaaDoor
