/- Texts of mine in one: RHex. -/
import Derived.Test.YtelbjnanpmdnnaaQ30
namespace Go.Proofs.Ytelbjnanpmdnnaa
section
open Go.RowKit
def hexDg (k : Nat) : Int := if k < 10 then 48 + (k : Int) else 87 + (k : Int)
theorem hexV_of {c : Int} {k : Nat} (hk : k < 16) (h : hexDg k = smallF c) : hexV c = k := by
  unfold hexDg smallF at h
  unfold hexV
  split at h <;> split at h
  all_goals
    first
    | (rw [if_pos (by omega)]; omega)
    | (rw [if_neg (by omega), if_pos (by unfold smallF; split <;> omega)]; unfold smallF; split <;> omega)
theorem hexV_none {c : Int} (h : ∀ j : Nat, j < 16 → hexDg j ≠ smallF c) : hexV c = -1 := by
  have q : ∀ j : Nat, j < 10 → 48 + (j : Int) ≠ smallF c := fun j hj => by have := h j (by omega); unfold hexDg at this; rwa [if_pos hj] at this
  have r : ∀ j : Nat, j < 6 → 97 + (j : Int) ≠ smallF c := fun j hj => by have := h (j + 10) (by omega); unfold hexDg at this; rw [if_neg (by omega)] at this; omega
  have q' : ¬ (48 ≤ c ∧ c ≤ 57) := fun ⟨x, y⟩ => q (c - 48).toNat (by omega) (by rw [smallF, if_neg (by omega)]; omega)
  have r' : ¬ (97 ≤ smallF c ∧ smallF c ≤ 102) := fun ⟨x, y⟩ => r (smallF c - 97).toNat (by omega) (by omega)
  unfold hexV
  rw [if_neg q', if_neg r']
set_option maxRecDepth 100000 in
set_option maxHeartbeats 4000000 in
theorem rhex_any (c : Int) (w : World) (hc : Ch c) : Calls Try.prog 83 #[.int .i64 c] w (Told (.int .i64 (hexV c)) w) := by
  have hsm : ∀ w, Calls Try.prog 63 #[.int .i64 c] w fun e w' => e = .returned (.int .i64 (smallF c)) ∧ w' = w := fun w => rsmall_any c w hc
  have HV : Hid (∀ k : Nat, k < 16 → hexDg k = smallF c → hexV c = k) := Lib.hid fun k => hexV_of
  have HN : Hid ((∀ j : Nat, j < 16 → hexDg j ≠ smallF c) → hexV c = -1) := Lib.hid hexV_none
  clear hc
  generalize hexV c = v at *
  generalize smallF c = s at *
  go_enter Try.func83, Try.ntmps83
  go_wp2_with fail
  go_loopw [4] (fun i wr => ∃ k : Nat, k ≤ 16 ∧ i = .int .i64 k ∧ Hid (∀ j : Nat, j < k → hexDg j ≠ s) ∧ Below w.heap.size w wr) (fun i _ => 16 - (intOf i).toNat)
  case atStart => exact ⟨0, by omega, rfl, Lib.hid (fun j hj => by omega), Below.refl _ _⟩
  case round =>
    obtain ⟨k, hk, rfl, hj, hbl⟩ := hrel
    rcases Nat.lt_or_ge k 16 with hlt | hge
    · have key : k = 0 ∨ k = 1 ∨ k = 2 ∨ k = 3 ∨ k = 4 ∨ k = 5 ∨ k = 6 ∨ k = 7 ∨ k = 8 ∨ k = 9 ∨ k = 10 ∨ k = 11 ∨ k = 12 ∨ k = 13 ∨ k = 14 ∨ k = 15 := by omega
      rcases key with rfl | rfl | rfl | rfl | rfl | rfl | rfl | rfl | rfl | rfl | rfl | rfl | rfl | rfl | rfl | rfl
      · by_cases e : (48 : Int) = s
        · have hv := HV.out 0 (by decide) e
          have n0 : ((48 : Int) == s) = true := beq_iff_eq.2 e
          have q0 : wrap64 ((({ data := #[48, 49, 50, 51, 52, 53, 54, 55, 56, 57, 97, 98, 99, 100, 101, 102] } : ByteArray)[0]'(by decide)).toNat : Int) = 48 := by decide +kernel
          clear e
          go_wp2_with fail
          go_quiet ((go_at_call 63; exact Calls.quiet_of_same (hsm _)))
          go_wp2
          go_ret
          exact ⟨by rw [hv]; rfl, below_drewN hbl _⟩
        · have n0 : ((48 : Int) == s) = false := beq_eq_false_iff_ne.2 e
          have hj' : Hid (∀ j : Nat, j < 0 + 1 → hexDg j ≠ s) := Lib.hid fun j hjj => by
            rcases Nat.lt_succ_iff_lt_or_eq.1 hjj with h | h
            · exact hj.out j h
            · rw [h]; exact e
          have q0 : wrap64 ((({ data := #[48, 49, 50, 51, 52, 53, 54, 55, 56, 57, 97, 98, 99, 100, 101, 102] } : ByteArray)[0]'(by decide)).toNat : Int) = 48 := by decide +kernel
          clear e hj
          go_wp2_with fail
          go_quiet ((go_at_call 63; exact Calls.quiet_of_same (hsm _)))
          go_wp2
          go_roundw
          case rel => exact ⟨1, by omega, by go_num, hj', below_drewN hbl _⟩
          case measure => simp [intOf]
      · by_cases e : (49 : Int) = s
        · have hv := HV.out 1 (by decide) e
          have n0 : ((49 : Int) == s) = true := beq_iff_eq.2 e
          have q0 : wrap64 ((({ data := #[48, 49, 50, 51, 52, 53, 54, 55, 56, 57, 97, 98, 99, 100, 101, 102] } : ByteArray)[1]'(by decide)).toNat : Int) = 49 := by decide +kernel
          clear e
          go_wp2_with fail
          go_quiet ((go_at_call 63; exact Calls.quiet_of_same (hsm _)))
          go_wp2
          go_ret
          exact ⟨by rw [hv]; rfl, below_drewN hbl _⟩
        · have n0 : ((49 : Int) == s) = false := beq_eq_false_iff_ne.2 e
          have hj' : Hid (∀ j : Nat, j < 1 + 1 → hexDg j ≠ s) := Lib.hid fun j hjj => by
            rcases Nat.lt_succ_iff_lt_or_eq.1 hjj with h | h
            · exact hj.out j h
            · rw [h]; exact e
          have q0 : wrap64 ((({ data := #[48, 49, 50, 51, 52, 53, 54, 55, 56, 57, 97, 98, 99, 100, 101, 102] } : ByteArray)[1]'(by decide)).toNat : Int) = 49 := by decide +kernel
          clear e hj
          go_wp2_with fail
          go_quiet ((go_at_call 63; exact Calls.quiet_of_same (hsm _)))
          go_wp2
          go_roundw
          case rel => exact ⟨1 + 1, by omega, by go_num, hj', below_drewN hbl _⟩
          case measure => simp [intOf]
      · by_cases e : (50 : Int) = s
        · have hv := HV.out 2 (by decide) e
          have n0 : ((50 : Int) == s) = true := beq_iff_eq.2 e
          have q0 : wrap64 ((({ data := #[48, 49, 50, 51, 52, 53, 54, 55, 56, 57, 97, 98, 99, 100, 101, 102] } : ByteArray)[2]'(by decide)).toNat : Int) = 50 := by decide +kernel
          clear e
          go_wp2_with fail
          go_quiet ((go_at_call 63; exact Calls.quiet_of_same (hsm _)))
          go_wp2
          go_ret
          exact ⟨by rw [hv]; rfl, below_drewN hbl _⟩
        · have n0 : ((50 : Int) == s) = false := beq_eq_false_iff_ne.2 e
          have hj' : Hid (∀ j : Nat, j < 2 + 1 → hexDg j ≠ s) := Lib.hid fun j hjj => by
            rcases Nat.lt_succ_iff_lt_or_eq.1 hjj with h | h
            · exact hj.out j h
            · rw [h]; exact e
          have q0 : wrap64 ((({ data := #[48, 49, 50, 51, 52, 53, 54, 55, 56, 57, 97, 98, 99, 100, 101, 102] } : ByteArray)[2]'(by decide)).toNat : Int) = 50 := by decide +kernel
          clear e hj
          go_wp2_with fail
          go_quiet ((go_at_call 63; exact Calls.quiet_of_same (hsm _)))
          go_wp2
          go_roundw
          case rel => exact ⟨2 + 1, by omega, by go_num, hj', below_drewN hbl _⟩
          case measure => simp [intOf]
      · by_cases e : (51 : Int) = s
        · have hv := HV.out 3 (by decide) e
          have n0 : ((51 : Int) == s) = true := beq_iff_eq.2 e
          have q0 : wrap64 ((({ data := #[48, 49, 50, 51, 52, 53, 54, 55, 56, 57, 97, 98, 99, 100, 101, 102] } : ByteArray)[3]'(by decide)).toNat : Int) = 51 := by decide +kernel
          clear e
          go_wp2_with fail
          go_quiet ((go_at_call 63; exact Calls.quiet_of_same (hsm _)))
          go_wp2
          go_ret
          exact ⟨by rw [hv]; rfl, below_drewN hbl _⟩
        · have n0 : ((51 : Int) == s) = false := beq_eq_false_iff_ne.2 e
          have hj' : Hid (∀ j : Nat, j < 3 + 1 → hexDg j ≠ s) := Lib.hid fun j hjj => by
            rcases Nat.lt_succ_iff_lt_or_eq.1 hjj with h | h
            · exact hj.out j h
            · rw [h]; exact e
          have q0 : wrap64 ((({ data := #[48, 49, 50, 51, 52, 53, 54, 55, 56, 57, 97, 98, 99, 100, 101, 102] } : ByteArray)[3]'(by decide)).toNat : Int) = 51 := by decide +kernel
          clear e hj
          go_wp2_with fail
          go_quiet ((go_at_call 63; exact Calls.quiet_of_same (hsm _)))
          go_wp2
          go_roundw
          case rel => exact ⟨3 + 1, by omega, by go_num, hj', below_drewN hbl _⟩
          case measure => simp [intOf]
      · by_cases e : (52 : Int) = s
        · have hv := HV.out 4 (by decide) e
          have n0 : ((52 : Int) == s) = true := beq_iff_eq.2 e
          have q0 : wrap64 ((({ data := #[48, 49, 50, 51, 52, 53, 54, 55, 56, 57, 97, 98, 99, 100, 101, 102] } : ByteArray)[4]'(by decide)).toNat : Int) = 52 := by decide +kernel
          clear e
          go_wp2_with fail
          go_quiet ((go_at_call 63; exact Calls.quiet_of_same (hsm _)))
          go_wp2
          go_ret
          exact ⟨by rw [hv]; rfl, below_drewN hbl _⟩
        · have n0 : ((52 : Int) == s) = false := beq_eq_false_iff_ne.2 e
          have hj' : Hid (∀ j : Nat, j < 4 + 1 → hexDg j ≠ s) := Lib.hid fun j hjj => by
            rcases Nat.lt_succ_iff_lt_or_eq.1 hjj with h | h
            · exact hj.out j h
            · rw [h]; exact e
          have q0 : wrap64 ((({ data := #[48, 49, 50, 51, 52, 53, 54, 55, 56, 57, 97, 98, 99, 100, 101, 102] } : ByteArray)[4]'(by decide)).toNat : Int) = 52 := by decide +kernel
          clear e hj
          go_wp2_with fail
          go_quiet ((go_at_call 63; exact Calls.quiet_of_same (hsm _)))
          go_wp2
          go_roundw
          case rel => exact ⟨4 + 1, by omega, by go_num, hj', below_drewN hbl _⟩
          case measure => simp [intOf]
      · by_cases e : (53 : Int) = s
        · have hv := HV.out 5 (by decide) e
          have n0 : ((53 : Int) == s) = true := beq_iff_eq.2 e
          have q0 : wrap64 ((({ data := #[48, 49, 50, 51, 52, 53, 54, 55, 56, 57, 97, 98, 99, 100, 101, 102] } : ByteArray)[5]'(by decide)).toNat : Int) = 53 := by decide +kernel
          clear e
          go_wp2_with fail
          go_quiet ((go_at_call 63; exact Calls.quiet_of_same (hsm _)))
          go_wp2
          go_ret
          exact ⟨by rw [hv]; rfl, below_drewN hbl _⟩
        · have n0 : ((53 : Int) == s) = false := beq_eq_false_iff_ne.2 e
          have hj' : Hid (∀ j : Nat, j < 5 + 1 → hexDg j ≠ s) := Lib.hid fun j hjj => by
            rcases Nat.lt_succ_iff_lt_or_eq.1 hjj with h | h
            · exact hj.out j h
            · rw [h]; exact e
          have q0 : wrap64 ((({ data := #[48, 49, 50, 51, 52, 53, 54, 55, 56, 57, 97, 98, 99, 100, 101, 102] } : ByteArray)[5]'(by decide)).toNat : Int) = 53 := by decide +kernel
          clear e hj
          go_wp2_with fail
          go_quiet ((go_at_call 63; exact Calls.quiet_of_same (hsm _)))
          go_wp2
          go_roundw
          case rel => exact ⟨5 + 1, by omega, by go_num, hj', below_drewN hbl _⟩
          case measure => simp [intOf]
      · by_cases e : (54 : Int) = s
        · have hv := HV.out 6 (by decide) e
          have n0 : ((54 : Int) == s) = true := beq_iff_eq.2 e
          have q0 : wrap64 ((({ data := #[48, 49, 50, 51, 52, 53, 54, 55, 56, 57, 97, 98, 99, 100, 101, 102] } : ByteArray)[6]'(by decide)).toNat : Int) = 54 := by decide +kernel
          clear e
          go_wp2_with fail
          go_quiet ((go_at_call 63; exact Calls.quiet_of_same (hsm _)))
          go_wp2
          go_ret
          exact ⟨by rw [hv]; rfl, below_drewN hbl _⟩
        · have n0 : ((54 : Int) == s) = false := beq_eq_false_iff_ne.2 e
          have hj' : Hid (∀ j : Nat, j < 6 + 1 → hexDg j ≠ s) := Lib.hid fun j hjj => by
            rcases Nat.lt_succ_iff_lt_or_eq.1 hjj with h | h
            · exact hj.out j h
            · rw [h]; exact e
          have q0 : wrap64 ((({ data := #[48, 49, 50, 51, 52, 53, 54, 55, 56, 57, 97, 98, 99, 100, 101, 102] } : ByteArray)[6]'(by decide)).toNat : Int) = 54 := by decide +kernel
          clear e hj
          go_wp2_with fail
          go_quiet ((go_at_call 63; exact Calls.quiet_of_same (hsm _)))
          go_wp2
          go_roundw
          case rel => exact ⟨6 + 1, by omega, by go_num, hj', below_drewN hbl _⟩
          case measure => simp [intOf]
      · by_cases e : (55 : Int) = s
        · have hv := HV.out 7 (by decide) e
          have n0 : ((55 : Int) == s) = true := beq_iff_eq.2 e
          have q0 : wrap64 ((({ data := #[48, 49, 50, 51, 52, 53, 54, 55, 56, 57, 97, 98, 99, 100, 101, 102] } : ByteArray)[7]'(by decide)).toNat : Int) = 55 := by decide +kernel
          clear e
          go_wp2_with fail
          go_quiet ((go_at_call 63; exact Calls.quiet_of_same (hsm _)))
          go_wp2
          go_ret
          exact ⟨by rw [hv]; rfl, below_drewN hbl _⟩
        · have n0 : ((55 : Int) == s) = false := beq_eq_false_iff_ne.2 e
          have hj' : Hid (∀ j : Nat, j < 7 + 1 → hexDg j ≠ s) := Lib.hid fun j hjj => by
            rcases Nat.lt_succ_iff_lt_or_eq.1 hjj with h | h
            · exact hj.out j h
            · rw [h]; exact e
          have q0 : wrap64 ((({ data := #[48, 49, 50, 51, 52, 53, 54, 55, 56, 57, 97, 98, 99, 100, 101, 102] } : ByteArray)[7]'(by decide)).toNat : Int) = 55 := by decide +kernel
          clear e hj
          go_wp2_with fail
          go_quiet ((go_at_call 63; exact Calls.quiet_of_same (hsm _)))
          go_wp2
          go_roundw
          case rel => exact ⟨7 + 1, by omega, by go_num, hj', below_drewN hbl _⟩
          case measure => simp [intOf]
      · by_cases e : (56 : Int) = s
        · have hv := HV.out 8 (by decide) e
          have n0 : ((56 : Int) == s) = true := beq_iff_eq.2 e
          have q0 : wrap64 ((({ data := #[48, 49, 50, 51, 52, 53, 54, 55, 56, 57, 97, 98, 99, 100, 101, 102] } : ByteArray)[8]'(by decide)).toNat : Int) = 56 := by decide +kernel
          clear e
          go_wp2_with fail
          go_quiet ((go_at_call 63; exact Calls.quiet_of_same (hsm _)))
          go_wp2
          go_ret
          exact ⟨by rw [hv]; rfl, below_drewN hbl _⟩
        · have n0 : ((56 : Int) == s) = false := beq_eq_false_iff_ne.2 e
          have hj' : Hid (∀ j : Nat, j < 8 + 1 → hexDg j ≠ s) := Lib.hid fun j hjj => by
            rcases Nat.lt_succ_iff_lt_or_eq.1 hjj with h | h
            · exact hj.out j h
            · rw [h]; exact e
          have q0 : wrap64 ((({ data := #[48, 49, 50, 51, 52, 53, 54, 55, 56, 57, 97, 98, 99, 100, 101, 102] } : ByteArray)[8]'(by decide)).toNat : Int) = 56 := by decide +kernel
          clear e hj
          go_wp2_with fail
          go_quiet ((go_at_call 63; exact Calls.quiet_of_same (hsm _)))
          go_wp2
          go_roundw
          case rel => exact ⟨8 + 1, by omega, by go_num, hj', below_drewN hbl _⟩
          case measure => simp [intOf]
      · by_cases e : (57 : Int) = s
        · have hv := HV.out 9 (by decide) e
          have n0 : ((57 : Int) == s) = true := beq_iff_eq.2 e
          have q0 : wrap64 ((({ data := #[48, 49, 50, 51, 52, 53, 54, 55, 56, 57, 97, 98, 99, 100, 101, 102] } : ByteArray)[9]'(by decide)).toNat : Int) = 57 := by decide +kernel
          clear e
          go_wp2_with fail
          go_quiet ((go_at_call 63; exact Calls.quiet_of_same (hsm _)))
          go_wp2
          go_ret
          exact ⟨by rw [hv]; rfl, below_drewN hbl _⟩
        · have n0 : ((57 : Int) == s) = false := beq_eq_false_iff_ne.2 e
          have hj' : Hid (∀ j : Nat, j < 9 + 1 → hexDg j ≠ s) := Lib.hid fun j hjj => by
            rcases Nat.lt_succ_iff_lt_or_eq.1 hjj with h | h
            · exact hj.out j h
            · rw [h]; exact e
          have q0 : wrap64 ((({ data := #[48, 49, 50, 51, 52, 53, 54, 55, 56, 57, 97, 98, 99, 100, 101, 102] } : ByteArray)[9]'(by decide)).toNat : Int) = 57 := by decide +kernel
          clear e hj
          go_wp2_with fail
          go_quiet ((go_at_call 63; exact Calls.quiet_of_same (hsm _)))
          go_wp2
          go_roundw
          case rel => exact ⟨9 + 1, by omega, by go_num, hj', below_drewN hbl _⟩
          case measure => simp [intOf]
      · by_cases e : (97 : Int) = s
        · have hv := HV.out 10 (by decide) e
          have n0 : ((97 : Int) == s) = true := beq_iff_eq.2 e
          have q0 : wrap64 ((({ data := #[48, 49, 50, 51, 52, 53, 54, 55, 56, 57, 97, 98, 99, 100, 101, 102] } : ByteArray)[10]'(by decide)).toNat : Int) = 97 := by decide +kernel
          clear e
          go_wp2_with fail
          go_quiet ((go_at_call 63; exact Calls.quiet_of_same (hsm _)))
          go_wp2
          go_ret
          exact ⟨by rw [hv]; rfl, below_drewN hbl _⟩
        · have n0 : ((97 : Int) == s) = false := beq_eq_false_iff_ne.2 e
          have hj' : Hid (∀ j : Nat, j < 10 + 1 → hexDg j ≠ s) := Lib.hid fun j hjj => by
            rcases Nat.lt_succ_iff_lt_or_eq.1 hjj with h | h
            · exact hj.out j h
            · rw [h]; exact e
          have q0 : wrap64 ((({ data := #[48, 49, 50, 51, 52, 53, 54, 55, 56, 57, 97, 98, 99, 100, 101, 102] } : ByteArray)[10]'(by decide)).toNat : Int) = 97 := by decide +kernel
          clear e hj
          go_wp2_with fail
          go_quiet ((go_at_call 63; exact Calls.quiet_of_same (hsm _)))
          go_wp2
          go_roundw
          case rel => exact ⟨11, by omega, by go_num, hj', below_drewN hbl _⟩
          case measure => simp [intOf]
      · by_cases e : (98 : Int) = s
        · have hv := HV.out 11 (by decide) e
          have n0 : ((98 : Int) == s) = true := beq_iff_eq.2 e
          have q0 : wrap64 ((({ data := #[48, 49, 50, 51, 52, 53, 54, 55, 56, 57, 97, 98, 99, 100, 101, 102] } : ByteArray)[11]'(by decide)).toNat : Int) = 98 := by decide +kernel
          clear e
          go_wp2_with fail
          go_quiet ((go_at_call 63; exact Calls.quiet_of_same (hsm _)))
          go_wp2
          go_ret
          exact ⟨by rw [hv]; rfl, below_drewN hbl _⟩
        · have n0 : ((98 : Int) == s) = false := beq_eq_false_iff_ne.2 e
          have hj' : Hid (∀ j : Nat, j < 11 + 1 → hexDg j ≠ s) := Lib.hid fun j hjj => by
            rcases Nat.lt_succ_iff_lt_or_eq.1 hjj with h | h
            · exact hj.out j h
            · rw [h]; exact e
          have q0 : wrap64 ((({ data := #[48, 49, 50, 51, 52, 53, 54, 55, 56, 57, 97, 98, 99, 100, 101, 102] } : ByteArray)[11]'(by decide)).toNat : Int) = 98 := by decide +kernel
          clear e hj
          go_wp2_with fail
          go_quiet ((go_at_call 63; exact Calls.quiet_of_same (hsm _)))
          go_wp2
          go_roundw
          case rel => exact ⟨11 + 1, by omega, by go_num, hj', below_drewN hbl _⟩
          case measure => simp [intOf]
      · by_cases e : (99 : Int) = s
        · have hv := HV.out 12 (by decide) e
          have n0 : ((99 : Int) == s) = true := beq_iff_eq.2 e
          have q0 : wrap64 ((({ data := #[48, 49, 50, 51, 52, 53, 54, 55, 56, 57, 97, 98, 99, 100, 101, 102] } : ByteArray)[12]'(by decide)).toNat : Int) = 99 := by decide +kernel
          clear e
          go_wp2_with fail
          go_quiet ((go_at_call 63; exact Calls.quiet_of_same (hsm _)))
          go_wp2
          go_ret
          exact ⟨by rw [hv]; rfl, below_drewN hbl _⟩
        · have n0 : ((99 : Int) == s) = false := beq_eq_false_iff_ne.2 e
          have hj' : Hid (∀ j : Nat, j < 12 + 1 → hexDg j ≠ s) := Lib.hid fun j hjj => by
            rcases Nat.lt_succ_iff_lt_or_eq.1 hjj with h | h
            · exact hj.out j h
            · rw [h]; exact e
          have q0 : wrap64 ((({ data := #[48, 49, 50, 51, 52, 53, 54, 55, 56, 57, 97, 98, 99, 100, 101, 102] } : ByteArray)[12]'(by decide)).toNat : Int) = 99 := by decide +kernel
          clear e hj
          go_wp2_with fail
          go_quiet ((go_at_call 63; exact Calls.quiet_of_same (hsm _)))
          go_wp2
          go_roundw
          case rel => exact ⟨12 + 1, by omega, by go_num, hj', below_drewN hbl _⟩
          case measure => simp [intOf]
      · by_cases e : (100 : Int) = s
        · have hv := HV.out 13 (by decide) e
          have n0 : ((100 : Int) == s) = true := beq_iff_eq.2 e
          have q0 : wrap64 ((({ data := #[48, 49, 50, 51, 52, 53, 54, 55, 56, 57, 97, 98, 99, 100, 101, 102] } : ByteArray)[13]'(by decide)).toNat : Int) = 100 := by decide +kernel
          clear e
          go_wp2_with fail
          go_quiet ((go_at_call 63; exact Calls.quiet_of_same (hsm _)))
          go_wp2
          go_ret
          exact ⟨by rw [hv]; rfl, below_drewN hbl _⟩
        · have n0 : ((100 : Int) == s) = false := beq_eq_false_iff_ne.2 e
          have hj' : Hid (∀ j : Nat, j < 13 + 1 → hexDg j ≠ s) := Lib.hid fun j hjj => by
            rcases Nat.lt_succ_iff_lt_or_eq.1 hjj with h | h
            · exact hj.out j h
            · rw [h]; exact e
          have q0 : wrap64 ((({ data := #[48, 49, 50, 51, 52, 53, 54, 55, 56, 57, 97, 98, 99, 100, 101, 102] } : ByteArray)[13]'(by decide)).toNat : Int) = 100 := by decide +kernel
          clear e hj
          go_wp2_with fail
          go_quiet ((go_at_call 63; exact Calls.quiet_of_same (hsm _)))
          go_wp2
          go_roundw
          case rel => exact ⟨13 + 1, by omega, by go_num, hj', below_drewN hbl _⟩
          case measure => simp [intOf]
      · by_cases e : (101 : Int) = s
        · have hv := HV.out 14 (by decide) e
          have n0 : ((101 : Int) == s) = true := beq_iff_eq.2 e
          have q0 : wrap64 ((({ data := #[48, 49, 50, 51, 52, 53, 54, 55, 56, 57, 97, 98, 99, 100, 101, 102] } : ByteArray)[14]'(by decide)).toNat : Int) = 101 := by decide +kernel
          clear e
          go_wp2_with fail
          go_quiet ((go_at_call 63; exact Calls.quiet_of_same (hsm _)))
          go_wp2
          go_ret
          exact ⟨by rw [hv]; rfl, below_drewN hbl _⟩
        · have n0 : ((101 : Int) == s) = false := beq_eq_false_iff_ne.2 e
          have hj' : Hid (∀ j : Nat, j < 14 + 1 → hexDg j ≠ s) := Lib.hid fun j hjj => by
            rcases Nat.lt_succ_iff_lt_or_eq.1 hjj with h | h
            · exact hj.out j h
            · rw [h]; exact e
          have q0 : wrap64 ((({ data := #[48, 49, 50, 51, 52, 53, 54, 55, 56, 57, 97, 98, 99, 100, 101, 102] } : ByteArray)[14]'(by decide)).toNat : Int) = 101 := by decide +kernel
          clear e hj
          go_wp2_with fail
          go_quiet ((go_at_call 63; exact Calls.quiet_of_same (hsm _)))
          go_wp2
          go_roundw
          case rel => exact ⟨14 + 1, by omega, by go_num, hj', below_drewN hbl _⟩
          case measure => simp [intOf]
      · by_cases e : (102 : Int) = s
        · have hv := HV.out 15 (by decide) e
          have n0 : ((102 : Int) == s) = true := beq_iff_eq.2 e
          have q0 : wrap64 ((({ data := #[48, 49, 50, 51, 52, 53, 54, 55, 56, 57, 97, 98, 99, 100, 101, 102] } : ByteArray)[15]'(by decide)).toNat : Int) = 102 := by decide +kernel
          clear e
          go_wp2_with fail
          go_quiet ((go_at_call 63; exact Calls.quiet_of_same (hsm _)))
          go_wp2
          go_ret
          exact ⟨by rw [hv]; rfl, below_drewN hbl _⟩
        · have n0 : ((102 : Int) == s) = false := beq_eq_false_iff_ne.2 e
          have hj' : Hid (∀ j : Nat, j < 15 + 1 → hexDg j ≠ s) := Lib.hid fun j hjj => by
            rcases Nat.lt_succ_iff_lt_or_eq.1 hjj with h | h
            · exact hj.out j h
            · rw [h]; exact e
          have q0 : wrap64 ((({ data := #[48, 49, 50, 51, 52, 53, 54, 55, 56, 57, 97, 98, 99, 100, 101, 102] } : ByteArray)[15]'(by decide)).toNat : Int) = 102 := by decide +kernel
          clear e hj
          go_wp2_with fail
          go_quiet ((go_at_call 63; exact Calls.quiet_of_same (hsm _)))
          go_wp2
          go_roundw
          case rel => exact ⟨15 + 1, by omega, by go_num, hj', below_drewN hbl _⟩
          case measure => simp [intOf]
    · obtain rfl : k = 16 := by omega
      have hv := HN.out hj.out
      go_wp2
      go_ret
      exact ⟨by rw [hv]; rfl, hbl⟩
end
end Go.Proofs.Ytelbjnanpmdnnaa
