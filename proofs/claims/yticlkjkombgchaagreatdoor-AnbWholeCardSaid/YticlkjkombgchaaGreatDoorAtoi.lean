/- Atoi at short numbers' texts: walks. -/
import Derived.Test.YticlkjkombgchaaGreatDoorWhole4
namespace Go.Proofs.YticlkjkombgchaaGreatDoor
open Go.RowKit

def valD (ds : List UInt8) (acc : Int) : Int := ds.foldl (fun n b => n * 10 + ((b.toNat : Int) - 48)) acc
def valS (s : ByteArray) : Int := if firstB s 45 then - valD (strB (tailS s)) 0 else if firstB s 43 then valD (strB (tailS s)) 0 else valD (strB s) 0
theorem valD_snoc (ds : List UInt8) (b : UInt8) (acc : Int) : valD (ds ++ [b]) acc = valD ds acc * 10 + ((b.toNat : Int) - 48) := by unfold valD; rw [List.foldl_append]; rfl
theorem valD_bd0 : ∀ (ds : List UInt8) (acc : Int), 0 ≤ acc → (∀ b ∈ ds, digitB b.toNat = true) → 0 ≤ valD ds acc ∧ valD ds acc + 1 ≤ (acc + 1) * 10 ^ ds.length
  | [], acc, h, _ => ⟨h, by show acc + 1 ≤ (acc + 1) * 10 ^ 0; rw [Int.pow_zero]; omega⟩
  | b :: ds, acc, h, hd => by
    have hb := hd b (by simp)
    unfold digitB at hb
    rw [decide_eq_true_iff] at hb
    obtain ⟨i1, i2⟩ := valD_bd0 ds (acc * 10 + ((b.toNat : Int) - 48)) (by omega) fun x hx => hd x (by simp [hx])
    refine ⟨i1, Int.le_trans i2 ?_⟩
    have hp : (0 : Int) ≤ 10 ^ ds.length := Int.pow_nonneg (by decide)
    have hm : (acc * 10 + ((b.toNat : Int) - 48) + 1) * 10 ^ ds.length ≤ ((acc + 1) * 10) * 10 ^ ds.length := Int.mul_le_mul_of_nonneg_right (by omega) hp
    rw [List.length_cons, Int.pow_succ, Int.mul_comm (10 ^ ds.length) 10, ← Int.mul_assoc]
    exact hm
theorem valD_bd (ds : List UInt8) (h : ∀ b ∈ ds, digitB b.toNat = true) : 0 ≤ valD ds 0 ∧ valD ds 0 + 1 ≤ 10 ^ ds.length := by
  have := valD_bd0 ds 0 (by decide) h
  simpa using this
theorem first_get (s : ByteArray) (h1 : 0 < s.size) : (strB s)[0]? = some (s[0]'h1) := by
  unfold strB
  rw [Array.getElem?_toList]
  exact Array.getElem?_eq_getElem h1
theorem first_of (s : ByteArray) (h1 : 0 < s.size) (c : UInt8) : firstB s c = decide (s[0]'h1 = c) := by
  unfold firstB; rw [first_get s h1]; simp

set_option maxRecDepth 100000 in
set_option maxHeartbeats 4000000 in
theorem atoiIn_any (s : ByteArray) (w : World) (h : numB s = true) (h1 : 0 < s.size) (hs : s.size ≤ 18) : Calls Tryz.prog 73 #[.string s] w (Told (.tuple #[.int .i64 (valS s), .nilIface]) w) := by
  have h1' : (1 : Int) ≤ (s.size : Int) := by omega
  have hs' : (s.size : Int) ≤ 18 := by omega
  have hsE := tailS_size s
  by_cases h45 : s[0]'h1 = 45
  · have hsg : signedB s = true := by unfold signedB; rw [first_of s h1, first_of s h1, h45]; rfl
    have HVS := Lib.hid (show valS s = - valD (strB (tailS s)) 0 by unfold valS; rw [first_of s h1, h45, if_pos (by decide)])
    have q0 : ((s[0]'h1).toNat : Int) = 45 := by rw [h45]; rfl
    unfold numB at h
    rw [hsg, if_pos rfl, Bool.and_eq_true, decide_eq_true_iff] at h
    obtain ⟨hall, hpos⟩ := h
    have hT : s.extract 1 s.size = tailS s := rfl
    have hpos' : ¬ ((tailS s).size : Int) < 1 := by omega
    have hts : (tailS s).size ≤ 18 := by omega
    generalize valS s = V at *
    clear hsg h45
    generalize tailS s = t at *
    clear hsE
    obtain ⟨cap, w2, hrun, hcap, hb2, hcells⟩ := conv_str t w
    have hcs : ∀ (j : Nat), j < t.size → ∃ b : UInt8, (strB t)[j]? = some b := fun j hj => ⟨_, List.getElem?_eq_getElem (by rw [strB_len]; exact hj)⟩
    have hszl : (strB t).length = t.size := strB_len _
    have hdig : ∀ b ∈ strB t, digitB b.toNat = true := fun b hb => by unfold bytesAll at hall; exact List.all_eq_true.1 hall b hb
    have hbd : ∀ k, k ≤ t.size → 0 ≤ valD ((strB t).take k) 0 ∧ valD ((strB t).take k) 0 + 1 ≤ 1000000000000000000 := fun k hk => by
      obtain ⟨a1, a2⟩ := valD_bd ((strB t).take k) (fun b hb => hdig b (List.mem_of_mem_take hb))
      refine ⟨a1, Int.le_trans a2 ?_⟩
      rw [List.length_take, hszl, Nat.min_eq_left hk]
      have : (10 : Int) ^ k ≤ 10 ^ 18 := by exact_mod_cast Nat.pow_le_pow_right (by decide) (show k ≤ 18 by omega)
      exact this
    have HBD := Lib.hid hbd; clear hbd
    go_enter Tryz.func73, Tryz.ntmps73
    go_wp2_with fail
    go_loopw [49, 6] (fun i v wr => ∃ k : Nat, k ≤ t.size ∧ i = .int .i64 k ∧ v = .int .i64 (valD ((strB t).take k) 0) ∧ wr = w2) (fun i _ _ => t.size - (intOf i).toNat)
    case atStart => exact ⟨0, by omega, rfl, rfl, rfl⟩
    case round =>
      obtain ⟨k, hk, rfl, rfl, rfl⟩ := hrel
      by_cases hlt : k < t.size
      · obtain ⟨b, hb⟩ := hcs k hlt
        have hc := hcells k b hb
        have hlt' : (k : Int) < (t.size : Int) := by omega
        have hd := hdig b (List.mem_of_getElem? hb)
        unfold digitB at hd
        rw [decide_eq_true_iff] at hd
        obtain ⟨d1, d2⟩ := hd
        have htk : (strB t).take (k + 1) = (strB t).take k ++ [b] := by rw [List.take_add_one, hb]; rfl
        have HV := Lib.hid (show valD ((strB t).take (k + 1)) 0 = valD ((strB t).take k) 0 * 10 + ((b.toNat : Int) - 48) by rw [htk, valD_snoc])
        obtain ⟨v1, v2⟩ := HBD.out k hk
        obtain ⟨v3, v4⟩ := HBD.out (k + 1) (by omega)
        rw [HV.out] at v3 v4
        clear hcells hcs htk hdig hall hb
        generalize valD ((strB t).take k) 0 = v at *
        generalize (b.toNat : Int) = c at *
        go_wp2
        go_roundw
        case rel => exact ⟨k + 1, by omega, by go_num, by rw [HV.out]; try go_num, by first | rfl | trivial⟩
        case measure => simp [intOf]; omega
      · have hke : k = t.size := by omega
        have hN : (strB t).take k = strB t := by rw [hke, ← hszl, List.take_length]
        rw [hN]
        obtain ⟨v1, v2⟩ := HBD.out t.size (Nat.le_refl _)
        rw [← hszl, List.take_length] at v1 v2
        subst hke
        clear hcells hcs hdig hall hN
        generalize valD (strB t) 0 = v at *
        go_wp2
        go_ret2
        exact ⟨by rw [HVS.out]; rfl, hb2⟩
  · by_cases h43 : s[0]'h1 = 43
    · have hsg : signedB s = true := by unfold signedB; rw [first_of s h1, first_of s h1, h43]; rfl
      have HVS := Lib.hid (show valS s = valD (strB (tailS s)) 0 by unfold valS; rw [first_of s h1, first_of s h1, h43, if_neg (by decide), if_pos (by decide)])
      have q0 : ((s[0]'h1).toNat : Int) = 43 := by rw [h43]; rfl
      unfold numB at h
      rw [hsg, if_pos rfl, Bool.and_eq_true, decide_eq_true_iff] at h
      obtain ⟨hall, hpos⟩ := h
      have hT : s.extract 1 s.size = tailS s := rfl
      have hpos' : ¬ ((tailS s).size : Int) < 1 := by omega
      have hts : (tailS s).size ≤ 18 := by omega
      generalize valS s = V at *
      clear hsg h45 h43
      generalize tailS s = t at *
      clear hsE
      obtain ⟨cap, w2, hrun, hcap, hb2, hcells⟩ := conv_str t w
      have hcs : ∀ (j : Nat), j < t.size → ∃ b : UInt8, (strB t)[j]? = some b := fun j hj => ⟨_, List.getElem?_eq_getElem (by rw [strB_len]; exact hj)⟩
      have hszl : (strB t).length = t.size := strB_len _
      have hdig : ∀ b ∈ strB t, digitB b.toNat = true := fun b hb => by unfold bytesAll at hall; exact List.all_eq_true.1 hall b hb
      have hbd : ∀ k, k ≤ t.size → 0 ≤ valD ((strB t).take k) 0 ∧ valD ((strB t).take k) 0 + 1 ≤ 1000000000000000000 := fun k hk => by
        obtain ⟨a1, a2⟩ := valD_bd ((strB t).take k) (fun b hb => hdig b (List.mem_of_mem_take hb))
        refine ⟨a1, Int.le_trans a2 ?_⟩
        rw [List.length_take, hszl, Nat.min_eq_left hk]
        have : (10 : Int) ^ k ≤ 10 ^ 18 := by exact_mod_cast Nat.pow_le_pow_right (by decide) (show k ≤ 18 by omega)
        exact this
      have HBD := Lib.hid hbd; clear hbd
      go_enter Tryz.func73, Tryz.ntmps73
      go_wp2_with fail
      go_loopw [49, 6] (fun i v wr => ∃ k : Nat, k ≤ t.size ∧ i = .int .i64 k ∧ v = .int .i64 (valD ((strB t).take k) 0) ∧ wr = w2) (fun i _ _ => t.size - (intOf i).toNat)
      case atStart => exact ⟨0, by omega, rfl, rfl, rfl⟩
      case round =>
        obtain ⟨k, hk, rfl, rfl, rfl⟩ := hrel
        by_cases hlt : k < t.size
        · obtain ⟨b, hb⟩ := hcs k hlt
          have hc := hcells k b hb
          have hlt' : (k : Int) < (t.size : Int) := by omega
          have hd := hdig b (List.mem_of_getElem? hb)
          unfold digitB at hd
          rw [decide_eq_true_iff] at hd
          obtain ⟨d1, d2⟩ := hd
          have htk : (strB t).take (k + 1) = (strB t).take k ++ [b] := by rw [List.take_add_one, hb]; rfl
          have HV := Lib.hid (show valD ((strB t).take (k + 1)) 0 = valD ((strB t).take k) 0 * 10 + ((b.toNat : Int) - 48) by rw [htk, valD_snoc])
          obtain ⟨v1, v2⟩ := HBD.out k hk
          obtain ⟨v3, v4⟩ := HBD.out (k + 1) (by omega)
          rw [HV.out] at v3 v4
          clear hcells hcs htk hdig hall hb
          generalize valD ((strB t).take k) 0 = v at *
          generalize (b.toNat : Int) = c at *
          go_wp2
          go_roundw
          case rel => exact ⟨k + 1, by omega, by go_num, by rw [HV.out]; try go_num, by first | rfl | trivial⟩
          case measure => simp [intOf]; omega
        · have hke : k = t.size := by omega
          have hN : (strB t).take k = strB t := by rw [hke, ← hszl, List.take_length]
          rw [hN]
          obtain ⟨v1, v2⟩ := HBD.out t.size (Nat.le_refl _)
          rw [← hszl, List.take_length] at v1 v2
          subst hke
          clear hcells hcs hdig hall hN
          generalize valD (strB t) 0 = v at *
          go_wp2
          go_ret2
          exact ⟨by rw [HVS.out]; rfl, hb2⟩
    · have hsg : signedB s = false := by unfold signedB; rw [first_of s h1, first_of s h1, decide_eq_false h45, decide_eq_false h43]; rfl
      have HVS := Lib.hid (show valS s = valD (strB s) 0 by unfold valS; rw [first_of s h1, first_of s h1, if_neg (by simpa using h45), if_neg (by simpa using h43)])
      have q0 : (((s[0]'h1).toNat : Int) == 45) = false := beq_eq_false_iff_ne.2 fun e => h45 (UInt8.toNat_inj.1 (by have : (45 : UInt8).toNat = 45 := rfl; omega))
      have q1 : (((s[0]'h1).toNat : Int) == 43) = false := beq_eq_false_iff_ne.2 fun e => h43 (UInt8.toNat_inj.1 (by have : (43 : UInt8).toNat = 43 := rfl; omega))
      unfold numB at h
      rw [hsg, if_neg (by decide), Bool.and_eq_true, decide_eq_true_iff] at h
      obtain ⟨hall, hpos⟩ := h
      have hpos' : ¬ (s.size : Int) < 1 := by omega
      generalize valS s = V at *
      clear hsg h45 h43 hsE
      obtain ⟨cap, w2, hrun, hcap, hb2, hcells⟩ := conv_str s w
      have hcs : ∀ (j : Nat), j < s.size → ∃ b : UInt8, (strB s)[j]? = some b := fun j hj => ⟨_, List.getElem?_eq_getElem (by rw [strB_len]; exact hj)⟩
      have hszl : (strB s).length = s.size := strB_len _
      have hdig : ∀ b ∈ strB s, digitB b.toNat = true := fun b hb => by unfold bytesAll at hall; exact List.all_eq_true.1 hall b hb
      have hbd : ∀ k, k ≤ s.size → 0 ≤ valD ((strB s).take k) 0 ∧ valD ((strB s).take k) 0 + 1 ≤ 1000000000000000000 := fun k hk => by
        obtain ⟨a1, a2⟩ := valD_bd ((strB s).take k) (fun b hb => hdig b (List.mem_of_mem_take hb))
        refine ⟨a1, Int.le_trans a2 ?_⟩
        rw [List.length_take, hszl, Nat.min_eq_left hk]
        have : (10 : Int) ^ k ≤ 10 ^ 18 := by exact_mod_cast Nat.pow_le_pow_right (by decide) (show k ≤ 18 by omega)
        exact this
      have HBD := Lib.hid hbd; clear hbd
      go_enter Tryz.func73, Tryz.ntmps73
      go_wp2_with fail
      go_loopw [49, 6] (fun i v wr => ∃ k : Nat, k ≤ s.size ∧ i = .int .i64 k ∧ v = .int .i64 (valD ((strB s).take k) 0) ∧ wr = w2) (fun i _ _ => s.size - (intOf i).toNat)
      case atStart => exact ⟨0, by omega, rfl, rfl, rfl⟩
      case round =>
        obtain ⟨k, hk, rfl, rfl, rfl⟩ := hrel
        by_cases hlt : k < s.size
        · obtain ⟨b, hb⟩ := hcs k hlt
          have hc := hcells k b hb
          have hlt' : (k : Int) < (s.size : Int) := by omega
          have hd := hdig b (List.mem_of_getElem? hb)
          unfold digitB at hd
          rw [decide_eq_true_iff] at hd
          obtain ⟨d1, d2⟩ := hd
          have htk : (strB s).take (k + 1) = (strB s).take k ++ [b] := by rw [List.take_add_one, hb]; rfl
          have HV := Lib.hid (show valD ((strB s).take (k + 1)) 0 = valD ((strB s).take k) 0 * 10 + ((b.toNat : Int) - 48) by rw [htk, valD_snoc])
          obtain ⟨v1, v2⟩ := HBD.out k hk
          obtain ⟨v3, v4⟩ := HBD.out (k + 1) (by omega)
          rw [HV.out] at v3 v4
          clear hcells hcs htk hdig hall hb
          generalize valD ((strB s).take k) 0 = v at *
          generalize (b.toNat : Int) = c at *
          go_wp2
          go_roundw
          case rel => exact ⟨k + 1, by omega, by go_num, by rw [HV.out]; try go_num, by first | rfl | trivial⟩
          case measure => simp [intOf]; omega
        · have hke : k = s.size := by omega
          have hN : (strB s).take k = strB s := by rw [hke, ← hszl, List.take_length]
          rw [hN]
          obtain ⟨v1, v2⟩ := HBD.out s.size (Nat.le_refl _)
          rw [← hszl, List.take_length] at v1 v2
          subst hke
          clear hcells hcs hdig hall hN
          generalize valD (strB s) 0 = v at *
          go_wp2
          go_ret2
          exact ⟨by rw [HVS.out]; rfl, hb2⟩
end Go.Proofs.YticlkjkombgchaaGreatDoor
