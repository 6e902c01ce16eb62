/- What Same of the statements' lists does: walks. -/
import Derived.Test.YtfgnepbpfglepaaKit
namespace Go.Proofs.Ytfgnepbpfglepaa
open Go.RowKit

def BoolPost (r : Bool) (w : World) (e : Ending) (w' : World) : Prop := e = .returned (.bool r) ∧ Below w.heap.size w w'

theorem same_upto {xs ys : List Int} (hl : xs.length = ys.length) (h : ∀ j : Nat, j < xs.length → xs[j]?.getD 0 = ys[j]?.getD 0) : xs = ys := by
  refine List.ext_getElem hl fun j h1 h2 => ?_
  have := h j h1
  rwa [List.getElem?_eq_getElem h1, List.getElem?_eq_getElem h2] at this

set_option maxRecDepth 100000 in
set_option maxHeartbeats 1000000 in
theorem same_some (b off c b' off' c' n : Nat) (xs ys : List Int) (w : World) (hx : xs.length = n) (hy : ys.length = n) (_h1 : n ≤ c) (_h2 : n ≤ c') (h3 : c ≤ maxLen)
    (ha : At w .i64 b off xs) (ha' : At w .i64 b' off' ys) :
    Calls Try.prog 16 #[.slice (some ⟨b, off, none⟩) n c, .slice (some ⟨b', off', none⟩) n c'] w (BoolPost (decide (xs = ys)) w) := by
  unfold maxLen at h3
  have HX := Lib.hid hx; clear hx
  have HY := Lib.hid hy; clear hy
  go_enter Try.func16, Try.ntmps16
  go_wp2
  go_loopw [5] (fun i wr => ∃ k : Nat, k ≤ n ∧ i = .int .i64 k ∧ (∀ j : Nat, j < k → xs[j]?.getD 0 = ys[j]?.getD 0) ∧ Below w.heap.size w wr) (fun i _ => n - (intOf i).toNat)
  case atStart => exact ⟨0, by omega, rfl, fun _ h => by omega, Below.refl _ _⟩
  case round =>
    obtain ⟨k, hk, rfl, hall, hbl⟩ := hrel
    have HA := Lib.hid hall; clear hall
    by_cases hlt : k < n
    · have c1 := (ha.later hbl ha.1).2 k (by rw [HX.out]; exact hlt)
      have c2 := (ha'.later hbl ha'.1).2 k (by rw [HY.out]; exact hlt)
      have hlt' : (k : Int) < (n : Int) := by omega
      by_cases he : xs[k]?.getD 0 = ys[k]?.getD 0
      · have HE := Lib.hid he
        have he' : (xs[k]?.getD 0 != ys[k]?.getD 0) = false := by rw [he]; simp
        clear he
        generalize xs[k]?.getD 0 = x at c1 he'
        generalize ys[k]?.getD 0 = y at c2 he'
        go_wp2
        go_quiet (fail)
        go_wp2
        go_roundw
        case rel =>
          refine ⟨k + 1, by omega, by go_num, fun j hj => ?_, below_drewN hbl _⟩
          rcases Nat.lt_or_ge j k with h | h
          · exact HA.out j h
          · rw [show j = k from by omega]; exact HE.out
        case measure => simp [intOf]; omega
      · have HE : Hid (decide (xs = ys) = false) := Lib.hid (decide_eq_false (fun h => he (by rw [h])))
        have he' : (xs[k]?.getD 0 != ys[k]?.getD 0) = true := by rw [bne_iff_ne]; exact he
        clear he
        generalize xs[k]?.getD 0 = x at c1 he'
        generalize ys[k]?.getD 0 = y at c2 he'
        go_wp2
        go_quiet (fail)
        go_wp2
        go_ret
        exact ⟨ret_bool HE.out.symm, below_drewN hbl _⟩
    · go_wp2
      go_ret
      have h := same_upto (HX.out.trans HY.out.symm) (fun j hj => HA.out j (by rw [HX.out] at hj; omega))
      exact ⟨ret_bool (decide_eq_true h).symm, hbl⟩

theorem same_none (a a' : Option Addr) (c c' : Nat) (w : World) :
    Calls Try.prog 16 #[.slice a 0 c, .slice a' 0 c'] w (BoolPost true w) := by
  go_enter Try.func16, Try.ntmps16
  go_wp2
  refine wp_loop_rounds 1 ?_; rw [rounds_succ]
  go_wp2
  go_ret
  exact ⟨rfl, Below.refl _ _⟩

theorem same_other (a a' : Option Addr) (n n' c c' : Nat) (w : World) (h : ((n : Int) != (n' : Int)) = true) :
    Calls Try.prog 16 #[.slice a n c, .slice a' n' c'] w (BoolPost false w) := by
  go_enter Try.func16, Try.ntmps16
  go_wp2
  go_ret
  exact ⟨rfl, Below.refl _ _⟩

/-- Same tells whether two lists of numbers are one. -/
theorem same_any (a a' : Option Addr) (c c' : Nat) (xs ys : List Int) (w : World) (hx : Reads w .i64 a c xs) (hy : Reads w .i64 a' c' ys) :
    Calls Try.prog 16 #[.slice a xs.length c, .slice a' ys.length c'] w (BoolPost (decide (xs = ys)) w) := by
  obtain ⟨h1, h2, h3⟩ := hx
  obtain ⟨h1', h2', h3'⟩ := hy
  by_cases hl : xs.length = ys.length
  · by_cases h0 : xs = []
    · subst h0
      obtain rfl : ys = [] := List.length_eq_zero_iff.1 hl.symm
      exact same_none a a' c c' w
    · have h0' : ys ≠ [] := fun h => h0 (List.length_eq_zero_iff.1 (by rw [hl, h]; rfl))
      obtain ⟨b, off, rfl, hat⟩ := h3.resolve_left h0
      obtain ⟨b', off', rfl, hat'⟩ := h3'.resolve_left h0'
      rw [← hl]
      exact same_some b off c b' off' c' xs.length xs ys w rfl hl.symm h1 (by omega) h2 hat hat'
  · rw [decide_eq_false (fun h => hl (by rw [h]))]
    exact same_other a a' xs.length ys.length c c' w (by rw [bne_iff_ne]; omega)
end Go.Proofs.Ytfgnepbpfglepaa
