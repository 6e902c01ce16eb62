/- Fold, and whether a number is in a set: walks. -/
import Derived.Test.YtcfcoojnjdoeeaaDoorNthS
namespace Go.Proofs.YtcfcoojnjdoeeaaDoor
open Go.RowKit

def foldI (h p n : Int) : Int := if n ≤ h then n else h + 1 + (n - h - 1) % p
theorem foldI_nat (h p n : Nat) : foldI h p n = ((foldN h p n : Nat) : Int) := by
  unfold foldI foldN
  by_cases c : n ≤ h
  · rw [if_pos c, if_pos (by omega)]
  · rw [if_neg c, if_neg (by omega)]
    have : ((n : Int) - h - 1) = ((n - h - 1 : Nat) : Int) := by omega
    rw [this]
    simp
set_option maxRecDepth 100000 in
set_option maxHeartbeats 1000000 in
theorem fold_any (h p n : Int) (w : World) (hh : 0 ≤ h ∧ h ≤ 4611686018427387904) (hp : 1 ≤ p ∧ p ≤ 4611686018427387904) (hn : -9223372036854775808 ≤ n ∧ n ≤ 4611686018427387904) :
    Calls Tryd.prog 33 #[.int .i64 h, .int .i64 p, .int .i64 n] w fun e w' => e = .returned (.int .i64 (foldI h p n)) ∧ w' = w := by
  obtain ⟨h1, h2⟩ := hh
  obtain ⟨p1, p2⟩ := hp
  obtain ⟨n1, n2⟩ := hn
  by_cases c : n ≤ h
  · have e : foldI h p n = n := if_pos c
    rw [e]
    clear e
    go_enter Tryd.func33, Tryd.ntmps33
    go_wp2
    go_ret
    exact ⟨rfl, rfl⟩
  · have e : foldI h p n = h + 1 + (n - h - 1) % p := if_neg c
    rw [e]
    clear e
    have hm1 := Int.emod_nonneg (n - h - 1) (show p ≠ 0 by omega)
    have hm2 : (n - h - 1) % p ≤ n - h - 1 := by
      have := Int.emod_def (n - h - 1) p
      have hq : 0 ≤ (n - h - 1) / p := Int.ediv_nonneg (by omega) (by omega)
      have := Int.mul_nonneg (show 0 ≤ p by omega) hq
      omega
    have c' : h < n := by omega
    have hw1 : IntKind.u64.wrap (n - h) = n - h := by rw [u64_wrap]; omega
    have hw2 : IntKind.u64.wrap (n - h - 1) = n - h - 1 := by rw [u64_wrap]; omega
    have hne : (p == 0) = false := beq_eq_false_iff_ne.2 (by omega)
    have hw3 : wrap64 ((n - h - 1) % p) = (n - h - 1) % p := by unfold wrap64; omega
    have hw4 : wrap64 (h + 1 + (n - h - 1) % p) = h + 1 + (n - h - 1) % p := by unfold wrap64; omega
    go_enter Tryd.func33, Tryd.ntmps33
    go_wp2
    go_ret
    exact ⟨rfl, rfl⟩

theorem rdB_at {w : World} {a : Option Addr} {n cap : Nat} {f : Nat → Bool} (h : RdB w a n cap f) (i : Nat) (hi : i < n) : ∃ b off, a = some ⟨b, off, none⟩ ∧ w.cell? ⟨b, off + i, none⟩ = some (.bool (f i)) := by
  rcases h.2.2 with h3 | ⟨b, off, rfl, hlt, hc⟩
  · omega
  · exact ⟨b, off, rfl, hc i hi⟩

set_option maxRecDepth 100000 in
set_option maxHeartbeats 1000000 in
theorem hasS_low (w : World) (v : Value) (S : Nat → Bool) (h p : Nat) (hs : IsSet w v S h p) (n : Int) (hn : -9223372036854775808 ≤ n ∧ n ≤ 0) :
    Calls Tryd.prog 12 #[v, .int .i64 n] w (ToldB (.bool false) w) := by
  have H := Lib.hid hs
  obtain ⟨n1, n2⟩ := hn
  obtain ⟨h1, h2, a, n', cap, rfl, h3⟩ := hs
  clear h1 h3
  have B1 : Below w.heap.size w (w.alloc (.cells #[.int .i64 h, .slice a n' cap] 28)) := ((Below.refl _ w).alloc (Nat.le_refl _) _)
  have H' := Lib.hid (H.out.later B1)
  clear H
  go_enter Tryd.func12, Tryd.ntmps12
  go_wp2_with (go_at_call 27; refine (parts_any _ _ S h p H'.out).mono ?_; rintro e w' ⟨rfl, hb⟩)
  go_ret
  exact ⟨rfl, B1.trans (hb.mono B1.size)⟩

set_option maxRecDepth 100000 in
set_option maxHeartbeats 1000000 in
theorem hasS_any (w : World) (v : Value) (S : Nat → Bool) (h p : Nat) (hs : IsSet w v S h p) (n : Nat) (hn : 1 ≤ n ∧ n ≤ 4611686018427387904) :
    Calls Tryd.prog 12 #[v, .int .i64 n] w (ToldB (.bool (S n)) w) := by
  have H := Lib.hid hs
  obtain ⟨n1, n2⟩ := hn
  obtain ⟨h1, h2, a, n', cap, rfl, h3⟩ := hs
  have hf := foldN_lt (h := h) h1.pos n1
  have hp := h1.pos
  have hS := Lib.hid (foldN_of h1.per n)
  clear h1 h3
  have B1 : Below w.heap.size w (w.alloc (.cells #[.int .i64 h, .slice a n' cap] 28)) := ((Below.refl _ w).alloc (Nat.le_refl _) _)
  have H' := Lib.hid (H.out.later B1)
  clear H
  have n1' : (1 : Int) ≤ (n : Int) := by omega
  have cF := fun w => fold_any h p n w ⟨by omega, by omega⟩ ⟨by omega, by omega⟩ ⟨by omega, by omega⟩
  rw [foldI_nat] at cF
  generalize foldN h p n = k at *
  obtain ⟨j, rfl⟩ : ∃ j, k = j + 1 := ⟨k - 1, by omega⟩
  rw [show ((j + 1 : Nat) : Int) = (j : Int) + 1 by omega] at cF
  have hj0 : (0 : Int) ≤ (j : Int) := by omega
  have hj1 : (j : Int) < (h : Int) + (p : Int) := by omega
  have hw : IntKind.i64.wrap ((j : Int) + 1 - 1) = j := by rw [IntWalk.i64_in _ (by omega)]; omega
  go_enter Tryd.func12, Tryd.ntmps12
  go_wp2_with (first
    | (go_at_call 27; refine (parts_any _ _ S h p H'.out).mono ?_; rintro e w' ⟨rfl, hb⟩; have hc0 := hb.cell (p := ⟨w.heap.size, 0, none⟩) (by simp); have hc1 := hb.cell (p := ⟨w.heap.size, 1, none⟩) (by simp))
    | (go_at_call 32; refine (list_any _ _ S h p (H'.out.later hb)).mono ?_; rintro e w2 ⟨a2, cap2, rfl, hr2, hb2⟩; obtain ⟨b2, off2, rfl, hcc⟩ := rdB_at hr2 j (by omega); replace hcc := hcc.trans (congrArg (fun x => some (Value.bool x)) hS.out))
    | (go_at_call 33; refine (cF _).mono ?_; rintro e w3 ⟨rfl, hw3⟩; replace hw3 := hw3.symm; subst hw3))
  go_ret
  exact ⟨rfl, (B1.trans (hb.mono B1.size)).trans (hb2.mono (Nat.le_trans B1.size hb.size))⟩
end Go.Proofs.YtcfcoojnjdoeeaaDoor
