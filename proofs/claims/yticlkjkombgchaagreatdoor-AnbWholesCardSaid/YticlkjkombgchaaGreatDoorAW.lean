/- Several texts of mine in one. -/
import Derived.Test.YticlkjkombgchaaGreatDoorWhole4
import Derived.Test.YticlkjkombgchaaGreatDoorR5
import Derived.Test.YticlkjkombgchaaGreatDoorAnb5
import Derived.Test.YticlkjkombgchaaGreatDoorShelf
import Derived.Lib.AtoiAllCases
import Derived.Test.YticlkjkombgchaaGreatDoorLaidER
import Derived.Test.YticlkjkombgchaaGreatDoorErr
import Derived.LaidLaws
import Derived.LaidHandle
import Derived.Stop.Joined
namespace Go.Proofs.YticlkjkombgchaaGreatDoor
section
open Go.RowKit

def valD (ds : List UInt8) (acc : Int) : Int := ds.foldl (fun n b => n * 10 + ((b.toNat : Int) - 48)) acc
def valS (s : ByteArray) : Int := if firstB s 45 then - valD (strB (tailS s)) 0 else if firstB s 43 then valD (strB (tailS s)) 0 else valD (strB s) 0
theorem valD_snoc (ds : List UInt8) (b : UInt8) (acc : Int) : valD (ds ++ [b]) acc = valD ds acc * 10 + ((b.toNat : Int) - 48) := by unfold valD; rw [List.foldl_append]; rfl
theorem valD_bd0 : ∀ (ds : List UInt8) (acc : Int), 0 ≤ acc → (∀ b ∈ ds, digitB b.toNat = true) → 0 ≤ valD ds acc ∧ valD ds acc + 1 ≤ (acc + 1) * 10 ^ ds.length
  | [], acc, h, _ => ⟨h, by show acc + 1 ≤ (acc + 1) * 10 ^ 0; rw [Int.pow_zero]; omega⟩
  | b :: ds, acc, h, hd => by
    have hb := hd b (by simp)
    unfold digitB at hb
    rw [decide_eq_true_iff] at hb
    obtain ⟨i1, i2⟩ := valD_bd0 ds (acc * 10 + ((b.toNat : Int) - 48)) (by omega) fun x hx => hd x (by simp [hx])
    refine ⟨i1, Int.le_trans i2 ?_⟩
    have hp : (0 : Int) ≤ 10 ^ ds.length := Int.pow_nonneg (by decide)
    have hm : (acc * 10 + ((b.toNat : Int) - 48) + 1) * 10 ^ ds.length ≤ ((acc + 1) * 10) * 10 ^ ds.length := Int.mul_le_mul_of_nonneg_right (by omega) hp
    rw [List.length_cons, Int.pow_succ, Int.mul_comm (10 ^ ds.length) 10, ← Int.mul_assoc]
    exact hm
theorem valD_bd (ds : List UInt8) (h : ∀ b ∈ ds, digitB b.toNat = true) : 0 ≤ valD ds 0 ∧ valD ds 0 + 1 ≤ 10 ^ ds.length := by
  have := valD_bd0 ds 0 (by decide) h
  simpa using this
theorem first_get (s : ByteArray) (h1 : 0 < s.size) : (strB s)[0]? = some (s[0]'h1) := by
  unfold strB
  rw [Array.getElem?_toList]
  exact Array.getElem?_eq_getElem h1
theorem first_of (s : ByteArray) (h1 : 0 < s.size) (c : UInt8) : firstB s c = decide (s[0]'h1 = c) := by
  unfold firstB; rw [first_get s h1]; simp

set_option maxRecDepth 100000 in
set_option maxHeartbeats 4000000 in
theorem atoiIn_any (s : ByteArray) (w : World) (h : numB s = true) (h1 : 0 < s.size) (hs : s.size ≤ 18) : Calls Tryz.prog 73 #[.string s] w (Told (.tuple #[.int .i64 (valS s), .nilIface]) w) := by
  have h1' : (1 : Int) ≤ (s.size : Int) := by omega
  have hs' : (s.size : Int) ≤ 18 := by omega
  have hsE := tailS_size s
  by_cases h45 : s[0]'h1 = 45
  · have hsg : signedB s = true := by unfold signedB; rw [first_of s h1, first_of s h1, h45]; rfl
    have HVS := Lib.hid (show valS s = - valD (strB (tailS s)) 0 by unfold valS; rw [first_of s h1, h45, if_pos (by decide)])
    have q0 : ((s[0]'h1).toNat : Int) = 45 := by rw [h45]; rfl
    unfold numB at h
    rw [hsg, if_pos rfl, Bool.and_eq_true, decide_eq_true_iff] at h
    obtain ⟨hall, hpos⟩ := h
    have hT : s.extract 1 s.size = tailS s := rfl
    have hpos' : ¬ ((tailS s).size : Int) < 1 := by omega
    have hts : (tailS s).size ≤ 18 := by omega
    generalize valS s = V at *
    clear hsg h45
    generalize tailS s = t at *
    clear hsE
    obtain ⟨cap, w2, hrun, hcap, hb2, hcells⟩ := conv_str t w
    have hcs : ∀ (j : Nat), j < t.size → ∃ b : UInt8, (strB t)[j]? = some b := fun j hj => ⟨_, List.getElem?_eq_getElem (by rw [strB_len]; exact hj)⟩
    have hszl : (strB t).length = t.size := strB_len _
    have hdig : ∀ b ∈ strB t, digitB b.toNat = true := fun b hb => by unfold bytesAll at hall; exact List.all_eq_true.1 hall b hb
    have hbd : ∀ k, k ≤ t.size → 0 ≤ valD ((strB t).take k) 0 ∧ valD ((strB t).take k) 0 + 1 ≤ 1000000000000000000 := fun k hk => by
      obtain ⟨a1, a2⟩ := valD_bd ((strB t).take k) (fun b hb => hdig b (List.mem_of_mem_take hb))
      refine ⟨a1, Int.le_trans a2 ?_⟩
      rw [List.length_take, hszl, Nat.min_eq_left hk]
      have : (10 : Int) ^ k ≤ 10 ^ 18 := by exact_mod_cast Nat.pow_le_pow_right (by decide) (show k ≤ 18 by omega)
      exact this
    have HBD := Lib.hid hbd; clear hbd
    go_enter Tryz.func73, Tryz.ntmps73
    go_wp2_with fail
    go_loopw [49, 6] (fun i v wr => ∃ k : Nat, k ≤ t.size ∧ i = .int .i64 k ∧ v = .int .i64 (valD ((strB t).take k) 0) ∧ wr = w2) (fun i _ _ => t.size - (intOf i).toNat)
    case atStart => exact ⟨0, by omega, rfl, rfl, rfl⟩
    case round =>
      obtain ⟨k, hk, rfl, rfl, rfl⟩ := hrel
      by_cases hlt : k < t.size
      · obtain ⟨b, hb⟩ := hcs k hlt
        have hc := hcells k b hb
        have hlt' : (k : Int) < (t.size : Int) := by omega
        have hd := hdig b (List.mem_of_getElem? hb)
        unfold digitB at hd
        rw [decide_eq_true_iff] at hd
        obtain ⟨d1, d2⟩ := hd
        have htk : (strB t).take (k + 1) = (strB t).take k ++ [b] := by rw [List.take_add_one, hb]; rfl
        have HV := Lib.hid (show valD ((strB t).take (k + 1)) 0 = valD ((strB t).take k) 0 * 10 + ((b.toNat : Int) - 48) by rw [htk, valD_snoc])
        obtain ⟨v1, v2⟩ := HBD.out k hk
        obtain ⟨v3, v4⟩ := HBD.out (k + 1) (by omega)
        rw [HV.out] at v3 v4
        clear hcells hcs htk hdig hall hb
        generalize valD ((strB t).take k) 0 = v at *
        generalize (b.toNat : Int) = c at *
        go_wp2
        go_roundw
        case rel => exact ⟨k + 1, by omega, by go_num, by rw [HV.out]; try go_num, by first | rfl | trivial⟩
        case measure => simp [intOf]; omega
      · have hke : k = t.size := by omega
        have hN : (strB t).take k = strB t := by rw [hke, ← hszl, List.take_length]
        rw [hN]
        obtain ⟨v1, v2⟩ := HBD.out t.size (Nat.le_refl _)
        rw [← hszl, List.take_length] at v1 v2
        subst hke
        clear hcells hcs hdig hall hN
        generalize valD (strB t) 0 = v at *
        go_wp2
        go_ret2
        exact ⟨by rw [HVS.out]; rfl, hb2⟩
  · by_cases h43 : s[0]'h1 = 43
    · have hsg : signedB s = true := by unfold signedB; rw [first_of s h1, first_of s h1, h43]; rfl
      have HVS := Lib.hid (show valS s = valD (strB (tailS s)) 0 by unfold valS; rw [first_of s h1, first_of s h1, h43, if_neg (by decide), if_pos (by decide)])
      have q0 : ((s[0]'h1).toNat : Int) = 43 := by rw [h43]; rfl
      unfold numB at h
      rw [hsg, if_pos rfl, Bool.and_eq_true, decide_eq_true_iff] at h
      obtain ⟨hall, hpos⟩ := h
      have hT : s.extract 1 s.size = tailS s := rfl
      have hpos' : ¬ ((tailS s).size : Int) < 1 := by omega
      have hts : (tailS s).size ≤ 18 := by omega
      generalize valS s = V at *
      clear hsg h45 h43
      generalize tailS s = t at *
      clear hsE
      obtain ⟨cap, w2, hrun, hcap, hb2, hcells⟩ := conv_str t w
      have hcs : ∀ (j : Nat), j < t.size → ∃ b : UInt8, (strB t)[j]? = some b := fun j hj => ⟨_, List.getElem?_eq_getElem (by rw [strB_len]; exact hj)⟩
      have hszl : (strB t).length = t.size := strB_len _
      have hdig : ∀ b ∈ strB t, digitB b.toNat = true := fun b hb => by unfold bytesAll at hall; exact List.all_eq_true.1 hall b hb
      have hbd : ∀ k, k ≤ t.size → 0 ≤ valD ((strB t).take k) 0 ∧ valD ((strB t).take k) 0 + 1 ≤ 1000000000000000000 := fun k hk => by
        obtain ⟨a1, a2⟩ := valD_bd ((strB t).take k) (fun b hb => hdig b (List.mem_of_mem_take hb))
        refine ⟨a1, Int.le_trans a2 ?_⟩
        rw [List.length_take, hszl, Nat.min_eq_left hk]
        have : (10 : Int) ^ k ≤ 10 ^ 18 := by exact_mod_cast Nat.pow_le_pow_right (by decide) (show k ≤ 18 by omega)
        exact this
      have HBD := Lib.hid hbd; clear hbd
      go_enter Tryz.func73, Tryz.ntmps73
      go_wp2_with fail
      go_loopw [49, 6] (fun i v wr => ∃ k : Nat, k ≤ t.size ∧ i = .int .i64 k ∧ v = .int .i64 (valD ((strB t).take k) 0) ∧ wr = w2) (fun i _ _ => t.size - (intOf i).toNat)
      case atStart => exact ⟨0, by omega, rfl, rfl, rfl⟩
      case round =>
        obtain ⟨k, hk, rfl, rfl, rfl⟩ := hrel
        by_cases hlt : k < t.size
        · obtain ⟨b, hb⟩ := hcs k hlt
          have hc := hcells k b hb
          have hlt' : (k : Int) < (t.size : Int) := by omega
          have hd := hdig b (List.mem_of_getElem? hb)
          unfold digitB at hd
          rw [decide_eq_true_iff] at hd
          obtain ⟨d1, d2⟩ := hd
          have htk : (strB t).take (k + 1) = (strB t).take k ++ [b] := by rw [List.take_add_one, hb]; rfl
          have HV := Lib.hid (show valD ((strB t).take (k + 1)) 0 = valD ((strB t).take k) 0 * 10 + ((b.toNat : Int) - 48) by rw [htk, valD_snoc])
          obtain ⟨v1, v2⟩ := HBD.out k hk
          obtain ⟨v3, v4⟩ := HBD.out (k + 1) (by omega)
          rw [HV.out] at v3 v4
          clear hcells hcs htk hdig hall hb
          generalize valD ((strB t).take k) 0 = v at *
          generalize (b.toNat : Int) = c at *
          go_wp2
          go_roundw
          case rel => exact ⟨k + 1, by omega, by go_num, by rw [HV.out]; try go_num, by first | rfl | trivial⟩
          case measure => simp [intOf]; omega
        · have hke : k = t.size := by omega
          have hN : (strB t).take k = strB t := by rw [hke, ← hszl, List.take_length]
          rw [hN]
          obtain ⟨v1, v2⟩ := HBD.out t.size (Nat.le_refl _)
          rw [← hszl, List.take_length] at v1 v2
          subst hke
          clear hcells hcs hdig hall hN
          generalize valD (strB t) 0 = v at *
          go_wp2
          go_ret2
          exact ⟨by rw [HVS.out]; rfl, hb2⟩
    · have hsg : signedB s = false := by unfold signedB; rw [first_of s h1, first_of s h1, decide_eq_false h45, decide_eq_false h43]; rfl
      have HVS := Lib.hid (show valS s = valD (strB s) 0 by unfold valS; rw [first_of s h1, first_of s h1, if_neg (by simpa using h45), if_neg (by simpa using h43)])
      have q0 : (((s[0]'h1).toNat : Int) == 45) = false := beq_eq_false_iff_ne.2 fun e => h45 (UInt8.toNat_inj.1 (by have : (45 : UInt8).toNat = 45 := rfl; omega))
      have q1 : (((s[0]'h1).toNat : Int) == 43) = false := beq_eq_false_iff_ne.2 fun e => h43 (UInt8.toNat_inj.1 (by have : (43 : UInt8).toNat = 43 := rfl; omega))
      unfold numB at h
      rw [hsg, if_neg (by decide), Bool.and_eq_true, decide_eq_true_iff] at h
      obtain ⟨hall, hpos⟩ := h
      have hpos' : ¬ (s.size : Int) < 1 := by omega
      generalize valS s = V at *
      clear hsg h45 h43 hsE
      obtain ⟨cap, w2, hrun, hcap, hb2, hcells⟩ := conv_str s w
      have hcs : ∀ (j : Nat), j < s.size → ∃ b : UInt8, (strB s)[j]? = some b := fun j hj => ⟨_, List.getElem?_eq_getElem (by rw [strB_len]; exact hj)⟩
      have hszl : (strB s).length = s.size := strB_len _
      have hdig : ∀ b ∈ strB s, digitB b.toNat = true := fun b hb => by unfold bytesAll at hall; exact List.all_eq_true.1 hall b hb
      have hbd : ∀ k, k ≤ s.size → 0 ≤ valD ((strB s).take k) 0 ∧ valD ((strB s).take k) 0 + 1 ≤ 1000000000000000000 := fun k hk => by
        obtain ⟨a1, a2⟩ := valD_bd ((strB s).take k) (fun b hb => hdig b (List.mem_of_mem_take hb))
        refine ⟨a1, Int.le_trans a2 ?_⟩
        rw [List.length_take, hszl, Nat.min_eq_left hk]
        have : (10 : Int) ^ k ≤ 10 ^ 18 := by exact_mod_cast Nat.pow_le_pow_right (by decide) (show k ≤ 18 by omega)
        exact this
      have HBD := Lib.hid hbd; clear hbd
      go_enter Tryz.func73, Tryz.ntmps73
      go_wp2_with fail
      go_loopw [49, 6] (fun i v wr => ∃ k : Nat, k ≤ s.size ∧ i = .int .i64 k ∧ v = .int .i64 (valD ((strB s).take k) 0) ∧ wr = w2) (fun i _ _ => s.size - (intOf i).toNat)
      case atStart => exact ⟨0, by omega, rfl, rfl, rfl⟩
      case round =>
        obtain ⟨k, hk, rfl, rfl, rfl⟩ := hrel
        by_cases hlt : k < s.size
        · obtain ⟨b, hb⟩ := hcs k hlt
          have hc := hcells k b hb
          have hlt' : (k : Int) < (s.size : Int) := by omega
          have hd := hdig b (List.mem_of_getElem? hb)
          unfold digitB at hd
          rw [decide_eq_true_iff] at hd
          obtain ⟨d1, d2⟩ := hd
          have htk : (strB s).take (k + 1) = (strB s).take k ++ [b] := by rw [List.take_add_one, hb]; rfl
          have HV := Lib.hid (show valD ((strB s).take (k + 1)) 0 = valD ((strB s).take k) 0 * 10 + ((b.toNat : Int) - 48) by rw [htk, valD_snoc])
          obtain ⟨v1, v2⟩ := HBD.out k hk
          obtain ⟨v3, v4⟩ := HBD.out (k + 1) (by omega)
          rw [HV.out] at v3 v4
          clear hcells hcs htk hdig hall hb
          generalize valD ((strB s).take k) 0 = v at *
          generalize (b.toNat : Int) = c at *
          go_wp2
          go_roundw
          case rel => exact ⟨k + 1, by omega, by go_num, by rw [HV.out]; try go_num, by first | rfl | trivial⟩
          case measure => simp [intOf]; omega
        · have hke : k = s.size := by omega
          have hN : (strB s).take k = strB s := by rw [hke, ← hszl, List.take_length]
          rw [hN]
          obtain ⟨v1, v2⟩ := HBD.out s.size (Nat.le_refl _)
          rw [← hszl, List.take_length] at v1 v2
          subst hke
          clear hcells hcs hdig hall hN
          generalize valD (strB s) 0 = v at *
          go_wp2
          go_ret2
          exact ⟨by rw [HVS.out]; rfl, hb2⟩
end

section
open Go.RowKit

theorem valD_cons (b : UInt8) (ds : List UInt8) (acc : Int) : valD (b :: ds) acc = valD ds (acc * 10 + ((b.toNat : Int) - 48)) := rfl
theorem strB_append (a b : ByteArray) : strB (a ++ b) = strB a ++ strB b := by
  unfold strB
  rw [show (a ++ b).data = a.data ++ b.data from ByteArray.data_append, Array.toList_append]
theorem strB_one (x : Int) (_h0 : 0 ≤ x) (_h1 : x ≤ 255) : strB (strOfNums [x]) = [UInt8.ofNat x.toNat] := by
  unfold strB; rw [strOfNums_data]; rfl

/-- The digits of a number, as the statement writes them. -/
def Digs (s : ByteArray) (n : Int) : Prop := 0 < s.size ∧ s.size ≤ 10 ∧ bytesAll s = true ∧ valD (strB s) 0 = n

set_option maxRecDepth 100000 in
set_option maxHeartbeats 2000000 in
theorem digits_any (n : Nat) (w : World) (hn : n < 10000000000) : Calls Tryz.prog 28 #[.int .i64 n] w fun e w' => (∃ s, e = .returned (.string s) ∧ Digs s n) ∧ Below w.heap.size w w' := by
  have HN := Lib.hid hn; clear hn
  go_enter Tryz.func28, Tryz.ntmps28
  go_wp2_with fail
  go_loopw [0, 3] (fun c v wr => ∃ (q : Nat) (t : ByteArray), c = .int .i64 q ∧ v = .string t ∧ Hid (valD (strB t) q = (n : Int)) ∧ Hid (bytesAll t = true) ∧ Hid (q < 10 ^ (10 - t.size)) ∧ t.size ≤ 10 ∧ (t.size = 0 ∨ 0 < q) ∧ q < 10000000000 ∧ Below w.heap.size w wr)
    (fun c _ _ => (intOf c).toNat)
  case atStart => exact ⟨n, ByteArray.empty, rfl, rfl, Lib.hid rfl, Lib.hid rfl, Lib.hid HN.out, by decide, .inl rfl, HN.out, Below.refl _ _⟩
  case round =>
    obtain ⟨q, t, rfl, rfl, hv, ha, hp, hs, h0, hq, hbl⟩ := hrel
    have hs9 : t.size ≤ 9 := by
      rcases Nat.lt_or_ge t.size 10 with h | h
      · omega
      · have e : t.size = 10 := by omega
        have := hp.out
        rw [e] at this
        simp at this
        omega
    have hsz := hbl.size
    have cv : (convert 22 9 (.slice (some ⟨wr.heap.size, 0, none⟩) 1 1)).run Tryz.prog (wr.alloc (.cells #[.int .u8 (48 + (q : Int) % 10)] 5)) = .ok (.string (strOfNums [48 + (q : Int) % 10])) (wr.alloc (.cells #[.int .u8 (48 + (q : Int) % 10)] 5)) :=
      conv3_any _ 22 5 9 Tryz.underlying22 Tryz.underlying5 Tryz.underlying9 (some ⟨wr.heap.size, 0, none⟩) 1 1 [48 + (q : Int) % 10] rfl (reads_new wr .u8 [48 + (q : Int) % 10] 5 1 rfl (by unfold maxLen; omega))
    have hd := strB_one (48 + (q : Int) % 10) (by omega) (by omega)
    have hdz := strOfNums_size [48 + (q : Int) % 10]
    have HB : Hid (strB (strOfNums [48 + (q : Int) % 10]) = [UInt8.ofNat (48 + q % 10)]) := Lib.hid (by rw [hd]; congr 2)
    have hb4 := hbl.alloc hsz (.cells #[.int .u8 (48 + (q : Int) % 10)] 5)
    have hx : ((UInt8.ofNat (48 + q % 10)).toNat : Int) = 48 + (q : Int) % 10 := by rw [UInt8.toNat_ofNat']; omega
    have hval : Hid (valD (strB (strOfNums [48 + (q : Int) % 10] ++ t)) ((q / 10 : Nat) : Int) = (n : Int)) := Lib.hid (by
      rw [strB_append, HB.out, List.cons_append, List.nil_append, valD_cons, hx, ← hv.out]
      congr 1
      omega)
    have hall : Hid (bytesAll (strOfNums [48 + (q : Int) % 10] ++ t) = true) := Lib.hid (by
      have := ha.out
      unfold bytesAll at this ⊢
      rw [strB_append, HB.out, List.cons_append, List.nil_append, List.all_cons, this, Bool.and_true, hx]
      exact decide_eq_true (by omega))
    have hsize : (strOfNums [48 + (q : Int) % 10] ++ t).size = t.size + 1 := by rw [ByteArray.size_append, hdz]; simp; omega
    have hdl : ¬ 9223372036854775807 < (strOfNums [48 + (q : Int) % 10]).size + t.size := by rw [hdz]; simp; omega
    have HSZ := Lib.hid hsize
    clear hd hdz HB hx hv ha hsize
    generalize strOfNums [48 + (q : Int) % 10] = d at *
    by_cases hlast : q < 10
    · have e0 : ((q : Int) / 10 == 0) = true := beq_iff_eq.2 (by omega)
      have eq0 : q / 10 = 0 := by omega
      rw [eq0] at hval
      go_wp2
      go_ret
      exact ⟨⟨_, rfl, by rw [HSZ.out]; omega, by rw [HSZ.out]; omega, hall.out, hval.out⟩, hb4⟩
    · have e0 : ((q : Int) / 10 == 0) = false := beq_eq_false_iff_ne.2 (by omega)
      have hp2 : Hid (q / 10 < 10 ^ (10 - (t.size + 1))) := Lib.hid (by
        have h1 := hp.out
        have h2 : 10 - t.size = 10 - (t.size + 1) + 1 := by omega
        rw [h2, Nat.pow_succ] at h1
        omega)
      clear hp
      go_wp2
      go_roundw
      case rel => exact ⟨q / 10, d ++ t, by go_num, rfl, hval, hall, Lib.hid (by rw [HSZ.out]; exact hp2.out), by rw [HSZ.out]; omega, .inr (by omega), by omega, hb4⟩
      case measure => simp [intOf]; omega

theorem Digs.num {s : ByteArray} {n : Int} (h : Digs s n) : numB s = true ∧ signedB s = false ∧ valS s = n := by
  obtain ⟨h0, h1, ha, hv⟩ := h
  have hd : digitB ((s[0]'h0).toNat : Int) = true := by
    unfold bytesAll at ha
    exact List.all_eq_true.1 ha _ (List.mem_of_getElem? (first_get s h0))
  have n45 : s[0]'h0 ≠ 45 := fun e => by rw [e] at hd; exact absurd hd (by decide)
  have n43 : s[0]'h0 ≠ 43 := fun e => by rw [e] at hd; exact absurd hd (by decide)
  have hs : signedB s = false := by unfold signedB; rw [first_of s h0, first_of s h0, decide_eq_false n45, decide_eq_false n43]; rfl
  refine ⟨by unfold numB; rw [hs, if_neg (by decide), ha, decide_eq_true h0]; rfl, hs, ?_⟩
  unfold valS
  rw [first_of s h0, first_of s h0, if_neg (by simpa using n45), if_neg (by simpa using n43)]
  exact hv
theorem tailS_bytes (x : ByteArray) : strB (tailS x) = (strB x).drop 1 := by
  unfold tailS strB
  rw [ByteArray.data_extract, Array.toList_extract]
  show ((x.data.toList).drop 1).take (x.size - 1) = _
  rw [List.take_of_length_le (by rw [List.length_drop, Array.length_toList]; exact Nat.le_refl _)]
/-- .. with a sign, and noughts, ahead. -/
theorem Digs.signed {s z : ByteArray} {n : Int} (h : Digs s n) (c : UInt8) (hc : c = 43 ∨ c = 45) (zs : List UInt8) (hz : strB z = c :: zs) (hzs : ∀ b ∈ zs, b = 48) :
    numB (z ++ s) = true ∧ valS (z ++ s) = (if c = 45 then -n else n) := by
  obtain ⟨h0, h1, ha, hv⟩ := h
  have hB : strB (z ++ s) = c :: (zs ++ strB s) := by rw [strB_append, hz]; rfl
  have hsz : 0 < (z ++ s).size := by rw [ByteArray.size_append]; omega
  have hf : ∀ d : UInt8, firstB (z ++ s) d = decide (c = d) := fun d => by unfold firstB; rw [hB]; simp
  have htl : strB (tailS (z ++ s)) = zs ++ strB s := by rw [tailS_bytes, hB]; rfl
  have hts : (tailS (z ++ s)).size = (zs ++ strB s).length := by rw [← strB_len, htl]
  have hsg : signedB (z ++ s) = true := by unfold signedB; rw [hf, hf]; rcases hc with rfl | rfl <;> decide
  have hall : bytesAll (tailS (z ++ s)) = true := by
    unfold bytesAll
    rw [htl, List.all_append]
    unfold bytesAll at ha
    rw [ha, Bool.and_true, List.all_eq_true]
    intro b hb
    rw [hzs b hb]
    decide
  have hval : valD (strB (tailS (z ++ s))) 0 = n := by
    rw [htl]
    have : ∀ (l : List UInt8), (∀ b ∈ l, b = 48) → valD (l ++ strB s) 0 = valD (strB s) 0 := by
      intro l
      induction l with
      | nil => intro _; rfl
      | cons b l ih =>
        intro hl
        rw [List.cons_append, valD_cons, hl b (by simp)]
        exact ih fun x hx => hl x (by simp [hx])
    rw [this zs hzs, hv]
  refine ⟨?_, ?_⟩
  · unfold numB
    rw [hsg, if_pos rfl, hall, hts, Bool.true_and]
    exact decide_eq_true (by rw [List.length_append, strB_len]; omega)
  · unfold valS
    rw [hf, hf]
    rcases hc with rfl | rfl
    · rw [if_neg (by decide), if_pos (by decide), if_neg (by decide), hval]
    · rw [if_pos (by decide), if_pos rfl, hval]
end

section
open Go.RowKit

set_option maxRecDepth 100000 in
theorem atoi_any (s : ByteArray) (w : World) (h : numB s = true) (h1 : 0 < s.size) (hs : s.size ≤ 18) : Calls Tryz.prog 42 #[.string s] w (Told (.tuple #[.int .i64 (valS s), .nilIface]) w) := by
  have h := fun w => atoiIn_any s w h h1 hs
  go_enter Tryz.func42, Tryz.ntmps42
  go_wp2_with fail
  refine (h _).mono ?_
  rintro e w1 ⟨rfl, hb1⟩
  go_wp2
  go_ret2
  exact ⟨rfl, hb1⟩

/-- What Whole tells of a number's text. -/
def WholePost (v : Int) (w : World) (r : Ending) (w' : World) : Prop :=
  Below w.heap.size w w' ∧ ((-2147483647 ≤ v ∧ v ≤ 2147483647 ∧ r = .returned (.tuple #[.int .i64 v, .nilIface])) ∨
    (¬ (-2147483647 ≤ v ∧ v ≤ 2147483647) ∧ ∃ e, w.heap.size ≤ e ∧ r = .returned (.tuple #[.int .i64 0, fltV e]) ∧ Blk w' e [.int .i64 3, .int .i64 0, .nilIface] 73))

set_option maxRecDepth 100000 in
set_option maxHeartbeats 1000000 in
theorem whole_any (s : ByteArray) (w : World) (hER : HasER w) (h : numB s = true) (h1 : 0 < s.size) (hs : s.size ≤ 18) (v : Int) (hv : valS s = v) (hvb : -1000000000000000000 ≤ v ∧ v ≤ 1000000000000000000) :
    Calls Tryz.prog 22 #[.string s] w (WholePost v w) := by
  have ha := fun w => atoi_any s w h h1 hs
  rw [hv] at ha
  have hn := isNumber_any s w (by omega)
  rw [h] at hn
  have hlt : 0 < w.heap.size := by obtain ⟨t, p, hc⟩ := hER; exact World.block_lt_of_cell? w _ hc
  have HE := Lib.hid hER; clear hER h hv
  obtain ⟨hv1, hv2⟩ := hvb
  rcases (show (v ≤ 2147483647 ∧ -2147483647 ≤ v) ∨ (2147483647 < v) ∨ (v ≤ 2147483647 ∧ v < -2147483647) from by omega) with ⟨b1, b2⟩ | b1 | ⟨b1, b2⟩
  all_goals
    go_enter Tryz.func22, Tryz.ntmps22
    go_wp2_with fail
    refine hn.mono ?_
    rintro e w1 ⟨rfl, hb1⟩
    go_wp2_with fail
    refine (ha _).mono ?_
    rintro e w2 ⟨rfl, hb2⟩
    have hb := hb1.trans (hb2.mono hb1.size)
    obtain ⟨t, p, hc⟩ := HE.out.below hb hlt
    have hi := fun w => is_nil_any t (.pointer (some p)) w
    go_wp2_with (go_at_call 38; refine (hi _).mono ?_; rintro e wq ⟨rfl, hwq⟩; replace hwq := hwq.symm; subst hwq)
  · go_ret2
    exact ⟨hb, .inl ⟨b2, b1, rfl⟩⟩
  · refine (fail_any 3 0 _).mono ?_
    rintro e w3 ⟨rfl, rfl⟩
    go_wp2
    go_ret2
    exact ⟨hb.alloc hb.size _, .inr ⟨by omega, _, hb.size, rfl, Blk.alloc _ _⟩⟩
  · refine (fail_any 3 0 _).mono ?_
    rintro e w3 ⟨rfl, rfl⟩
    go_wp2
    go_ret2
    exact ⟨hb.alloc hb.size _, .inr ⟨by omega, _, hb.size, rfl, Blk.alloc _ _⟩⟩

theorem and3 (x : Int) (h : 0 ≤ x ∧ x ≤ 255) : bits .and .u8 x 3 = 0 ∨ bits .and .u8 x 3 = 1 ∨ bits .and .u8 x 3 = 2 ∨ bits .and .u8 x 3 = 3 := by
  have key : ∀ k : Fin 256, bits .and .u8 ((k.val : Nat) : Int) 3 = 0 ∨ bits .and .u8 ((k.val : Nat) : Int) 3 = 1 ∨ bits .and .u8 ((k.val : Nat) : Int) 3 = 2 ∨ bits .and .u8 ((k.val : Nat) : Int) 3 = 3 := by decide +kernel
  have := key ⟨x.toNat, by omega⟩
  rwa [show ((x.toNat : Nat) : Int) = x by omega] at this

theorem has_nil (t : Int) (w : World) : Calls Tryz.prog 29 #[.nilIface, .int .i64 t] w (Tells (.bool false) w) := by
  go_enter Tryz.func29, Tryz.ntmps29
  go_wp2
  go_ret
  exact ⟨rfl, rfl⟩
theorem has_over (e : Nat) (w : World) (h : Blk w e [.int .i64 3, .int .i64 0, .nilIface] 73) : Calls Tryz.prog 29 #[.iface 69 (.pointer (some ⟨e, 0, none⟩)), .int .i64 3] w (Told (.bool true) w) :=
  has_of e 3 true w (is1_yes e 3 0 _ w h)

set_option maxRecDepth 100000 in
set_option maxHeartbeats 4000000 in
theorem lawWhole_any (n sg : Int) (w : World) (hE : HasER w) (hn : 0 ≤ n ∧ n ≤ 4294967295) (hsg : 0 ≤ sg ∧ sg ≤ 255) :
    Calls Tryz.prog 9 #[.int .u32 n, .int .u8 sg] w (Told (.bool true) w) := by
  have hlt : 0 < w.heap.size := by obtain ⟨t, p, hc⟩ := hE; exact World.block_lt_of_cell? w _ hc
  have hS := speaks4_any w hE
  obtain ⟨n0, nh⟩ := hn
  obtain ⟨n, rfl⟩ := Int.eq_ofNat_of_zero_le n0
  have hD := fun w => digits_any n w (by omega)
  obtain ⟨r, hr3, hrs⟩ : ∃ r : Nat, r ≤ 3 ∧ bits .and .u8 sg 3 = (r : Int) := by
    rcases and3 sg hsg with e | e | e | e
    · exact ⟨0, by omega, e⟩
    · exact ⟨1, by omega, e⟩
    · exact ⟨2, by omega, e⟩
    · exact ⟨3, by omega, e⟩
  have HE := Lib.hid hE; clear hE
  have hz : ∀ r : Nat, r ≤ 3 → ∃ zs : List UInt8, strB (({ data := #[45, 48, 48, 48] } : ByteArray).extract 0 (1 + r)) = 45 :: zs ∧ (∀ b ∈ zs, b = 48) ∧ (({ data := #[45, 48, 48, 48] } : ByteArray).extract 0 (1 + r)).size ≤ 4 := by
    intro r hr
    rcases (show r = 0 ∨ r = 1 ∨ r = 2 ∨ r = 3 by omega) with rfl | rfl | rfl | rfl
    · exact ⟨[], by decide +kernel, by simp, by decide +kernel⟩
    · exact ⟨[48], by decide +kernel, by simp, by decide +kernel⟩
    · exact ⟨[48, 48], by decide +kernel, by simp, by decide +kernel⟩
    · exact ⟨[48, 48, 48], by decide +kernel, by simp, by decide +kernel⟩
  have HZ := Lib.hid hz; clear hz
  go_enter Tryz.func9, Tryz.ntmps9
  go_wp2_with fail
  refine hS.mono ?_
  rintro e w1 ⟨rfl, hb1⟩
  go_wp2_with fail
  refine (hD _).mono ?_
  rintro e w2 ⟨⟨s, rfl, hds⟩, hb2⟩
  have hb12 := hb1.trans (hb2.mono hb1.size)
  obtain ⟨hs1, hs2, hs3⟩ := hds.num
  have hsz0 := hds.1
  have hsz1 := hds.2.1
  obtain ⟨hp1, hp2⟩ := hds.signed (z := ⟨#[43]⟩) 43 (.inl rfl) [] rfl (by simp)
  rw [if_neg (by decide)] at hp2
  have hpz : ((⟨#[43]⟩ : ByteArray) ++ s).size = s.size + 1 := by rw [ByteArray.size_append]; show 1 + s.size = _; omega
  have W1 := whole_any s w2 (HE.out.below hb12 hlt) hs1 hsz0 (by omega) n hs3 (by omega)
  have ha1 : ¬ 9223372036854775807 < 1 + s.size := by omega
  clear hS hD
  by_cases hbig : 2147483647 < n
  · go_wp2_with fail
    refine W1.mono ?_
    rintro q w3 ⟨hb3, ⟨_, hx, _⟩ | ⟨_, e1, he1, rfl, B1⟩⟩
    · omega
    have hb13 := hb12.trans (hb3.mono hb12.size)
    unfold fltV
    have W2 := whole_any (⟨#[43]⟩ ++ s) w3 (HE.out.below hb13 hlt) hp1 (by omega) (by omega) n hp2 (by omega)
    go_wp2_with fail
    refine W2.mono ?_
    rintro q w4 ⟨hb4, ⟨_, hx, _⟩ | ⟨_, e2, he2, rfl, B2⟩⟩
    · omega
    have hb14 := hb13.trans (hb4.mono hb13.size)
    have B14 := B1.later hb4 B1.lt
    unfold fltV
    go_wp2_with fail
    obtain ⟨zs, hz1, hz2, hz3⟩ := HZ.out r hr3
    generalize ({ data := #[45, 48, 48, 48] } : ByteArray).extract 0 (1 + r) = z at *
    obtain ⟨hm1, hm2⟩ := hds.signed 45 (.inr rfl) zs hz1 hz2
    rw [if_pos rfl] at hm2
    have hzs : (z ++ s).size = z.size + s.size := ByteArray.size_append
    have W3 := whole_any (z ++ s) w4 (HE.out.below hb14 hlt) hm1 (by omega) (by omega) (-n) hm2 (by omega)
    refine W3.mono ?_
    rintro q w5 ⟨hb5, ⟨hx, _, _⟩ | ⟨_, e3, he3, rfl, B3⟩⟩
    · omega
    have hb15 := hb14.trans (hb5.mono hb14.size)
    have B15 := B14.later hb5 B14.lt
    have B25 := B2.later hb5 B2.lt
    have k1 := fun (w' : World) (hb : Below w5.heap.size w5 w') => has_over e1 w' (B15.later hb B15.lt)
    have k2 := fun (w' : World) (hb : Below w5.heap.size w5 w') => has_over e2 w' (B25.later hb B25.lt)
    have k3 := fun (w' : World) (hb : Below w5.heap.size w5 w') => has_over e3 w' (B3.later hb B3.lt)
    have hbx := Below.refl w5.heap.size w5
    have hz5 := hb15.size
    clear W1 W2 W3 hm1 hm2 hzs hz1 hz2 hz3 hp1 hp2 hpz hs1 hs2 hs3 hds HZ HE B14 B1 B2 hb3 hb4 hb5 hb13 hb14 hb12 hb1 hb2
    unfold fltV
    have hbig' : (2147483647 : Int) < (n : Int) := by omega
    go_wp2_with ((first | (go_at_call 29; with_reducible refine (k1 _ hbx).mono ?_) | (go_at_call 29; with_reducible refine (k2 _ hbx).mono ?_) | (go_at_call 29; with_reducible refine (k3 _ hbx).mono ?_)); rintro q wq ⟨rfl, hbq⟩; replace hbx := hbx.trans (hbq.mono hbx.size); clear hbq)
    go_ret
    exact ⟨rfl, hb15.trans (hbx.mono hz5)⟩
  · go_wp2_with fail
    refine W1.mono ?_
    rintro q w3 ⟨hb3, ⟨_, _, rfl⟩ | ⟨hx, _⟩⟩
    rotate_left
    · omega
    have hb13 := hb12.trans (hb3.mono hb12.size)
    have W2 := whole_any (⟨#[43]⟩ ++ s) w3 (HE.out.below hb13 hlt) hp1 (by omega) (by omega) n hp2 (by omega)
    go_wp2_with fail
    refine W2.mono ?_
    rintro q w4 ⟨hb4, ⟨_, _, rfl⟩ | ⟨hx, _⟩⟩
    rotate_left
    · omega
    have hb14 := hb13.trans (hb4.mono hb13.size)
    go_wp2_with fail
    obtain ⟨zs, hz1, hz2, hz3⟩ := HZ.out r hr3
    generalize ({ data := #[45, 48, 48, 48] } : ByteArray).extract 0 (1 + r) = z at *
    obtain ⟨hm1, hm2⟩ := hds.signed 45 (.inr rfl) zs hz1 hz2
    rw [if_pos rfl] at hm2
    have hzs : (z ++ s).size = z.size + s.size := ByteArray.size_append
    have W3 := whole_any (z ++ s) w4 (HE.out.below hb14 hlt) hm1 (by omega) (by omega) (-n) hm2 (by omega)
    refine W3.mono ?_
    rintro q w5 ⟨hb5, ⟨_, _, rfl⟩ | ⟨hx, _⟩⟩
    rotate_left
    · omega
    have hb15 := hb14.trans (hb5.mono hb14.size)
    have hbig' : ¬ (2147483647 : Int) < (n : Int) := by omega
    clear W1 W2 W3 hm1 hm2 hzs hz1 hz2 hz3 hp1 hp2 hpz hs1 hs2 hs3 hds HZ HE
    go_wp2
    go_ret
    exact ⟨rfl, hb15⟩
end

section
open Go.RowKit Go.Extern.Stop Go.Stop Go.Extern

theorem valD_ge : ∀ (ds : List UInt8) (acc : Int), 0 ≤ acc → (∀ b ∈ ds, digitB b.toNat = true) → acc ≤ valD ds acc
  | [], acc, _, _ => Int.le_refl _
  | b :: ds, acc, h, hd => by
    have hb := hd b (by simp)
    unfold digitB at hb
    rw [decide_eq_true_iff] at hb
    have := valD_ge ds (acc * 10 + ((b.toNat : Int) - 48)) (by omega) fun x hx => hd x (by simp [hx])
    rw [valD_cons]
    omega
theorem cast_step (acc m : Nat) (h : 48 ≤ m) : ((acc * 10 + (m - 48) : Nat) : Int) = (acc : Int) * 10 + ((m : Int) - 48) := by omega
/-- What the library's reading of digits tells. -/
theorem parse_digits : ∀ (ds : List UInt8) (acc : Nat), (∀ b ∈ ds, digitB b.toNat = true) →
    (∃ u, Lib.parseUint10 acc ds = .ok u ∧ (u : Int) = valD ds acc) ∨ (Lib.parseUint10 acc ds = .range ∧ 18446744073709551616 ≤ valD ds acc)
  | [], acc, _ => .inl ⟨acc, rfl, rfl⟩
  | b :: ds, acc, hd => by
    have hb := hd b (by simp)
    unfold digitB at hb
    rw [decide_eq_true_iff] at hb
    have hb' : 48 ≤ b.toNat ∧ b.toNat ≤ 57 := by omega
    have hr : ∀ x ∈ ds, digitB x.toNat = true := fun x hx => hd x (by simp [hx])
    have hge := valD_ge ds ((acc : Int) * 10 + ((b.toNat : Int) - 48)) (by omega) hr
    rw [Lib.parseUint10, if_pos hb', valD_cons]
    by_cases h1 : 1844674407370955162 ≤ acc
    · rw [if_pos h1]; exact .inr ⟨rfl, by omega⟩
    · rw [if_neg h1]
      by_cases h2 : 18446744073709551616 ≤ acc * 10 + (b.toNat - 48)
      · rw [if_pos h2]; exact .inr ⟨rfl, by omega⟩
      · rw [if_neg h2]
        have := parse_digits ds (acc * 10 + (b.toNat - 48)) hr
        have e := cast_step acc b.toNat hb'.1
        rw [e] at this
        exact this
theorem mag_digits (ds : List UInt8) (hne : ds ≠ []) (hd : ∀ b ∈ ds, digitB b.toNat = true) :
    (∃ u, Lib.parseMag ds = .ok u ∧ (u : Int) = valD ds 0) ∨ (Lib.parseMag ds = .range ∧ 18446744073709551616 ≤ valD ds 0) := by
  unfold Lib.parseMag
  rw [if_neg hne]
  exact parse_digits ds 0 hd

/-- Atoi's end at a number's text. -/
theorem atoiAll_num (s : ByteArray) (h : numB s = true) :
    (Lib.atoiAll s.data.toList = .ok (valS s)) ∨ (Lib.atoiAll s.data.toList = .range ∧ ¬ (-2147483647 ≤ valS s ∧ valS s ≤ 2147483647)) := by
  show (Lib.atoiAll (strB s) = _) ∨ (Lib.atoiAll (strB s) = _ ∧ _)
  have h1 : 0 < s.size := by
    rcases Nat.eq_zero_or_pos s.size with h0 | h0
    · have hs : signedB s = false := by
        rcases hq : signedB s with _ | _
        · rfl
        · have := signedB_pos hq; omega
      unfold numB at h
      rw [hs, if_neg (by decide), h0] at h
      simp at h
    · exact h0
  have hc := first_get s h1
  have hlist : strB s = s[0]'h1 :: (strB s).drop 1 := by
    cases hq : strB s with
    | nil => rw [hq] at hc; simp at hc
    | cons x xs => rw [hq] at hc; simp at hc; rw [hc]; rfl
  have htl : strB (tailS s) = (strB s).drop 1 := tailS_bytes s
  have hall : ∀ t : ByteArray, bytesAll t = true → ∀ b ∈ strB t, digitB b.toNat = true := fun t ht b hb => by unfold bytesAll at ht; exact List.all_eq_true.1 ht b hb
  by_cases h45 : s[0]'h1 = 45
  · have hsg : signedB s = true := by unfold signedB; rw [first_of s h1, first_of s h1, h45]; rfl
    have hv : valS s = - valD (strB (tailS s)) 0 := by unfold valS; rw [first_of s h1, h45, if_pos (by decide)]
    unfold numB at h
    rw [hsg, if_pos rfl, Bool.and_eq_true, decide_eq_true_iff] at h
    have hne : strB (tailS s) ≠ [] := fun e => by have := strB_len (tailS s); rw [e] at this; simp at this; omega
    rw [hlist, h45, Lib.atoiAll_minus, ← htl, hv]
    rcases mag_digits _ hne (hall _ h.1) with ⟨u, hu, huv⟩ | ⟨hr, hrv⟩
    · rw [hu]
      unfold Lib.signed
      dsimp only
      split
      · rename_i hq; exact .inr ⟨rfl, by omega⟩
      · exact .inl (by rw [huv])
    · rw [hr]; exact .inr ⟨rfl, by omega⟩
  · by_cases h43 : s[0]'h1 = 43
    · have hsg : signedB s = true := by unfold signedB; rw [first_of s h1, first_of s h1, h43]; rfl
      have hv : valS s = valD (strB (tailS s)) 0 := by unfold valS; rw [first_of s h1, first_of s h1, h43, if_neg (by decide), if_pos (by decide)]
      unfold numB at h
      rw [hsg, if_pos rfl, Bool.and_eq_true, decide_eq_true_iff] at h
      have hne : strB (tailS s) ≠ [] := fun e => by have := strB_len (tailS s); rw [e] at this; simp at this; omega
      rw [hlist, h43, Lib.atoiAll_plus, ← htl, hv]
      rcases mag_digits _ hne (hall _ h.1) with ⟨u, hu, huv⟩ | ⟨hr, hrv⟩
      · rw [hu]
        unfold Lib.signless
        dsimp only
        split
        · rename_i hq; exact .inr ⟨rfl, by omega⟩
        · exact .inl (by rw [huv])
      · rw [hr]; exact .inr ⟨rfl, by omega⟩
    · have hsg : signedB s = false := by unfold signedB; rw [first_of s h1, first_of s h1, decide_eq_false h45, decide_eq_false h43]; rfl
      have hv : valS s = valD (strB s) 0 := by unfold valS; rw [first_of s h1, first_of s h1, if_neg (by simpa using h45), if_neg (by simpa using h43)]
      unfold numB at h
      rw [hsg, if_neg (by decide), Bool.and_eq_true, decide_eq_true_iff] at h
      have hne : strB s ≠ [] := fun e => by have := strB_len s; rw [e] at this; simp at this; omega
      have e1 : Lib.atoiAll (strB s) = Lib.signless (Lib.parseMag (strB s)) := by
        conv => lhs; rw [hlist]
        rw [Lib.atoiAll_plain _ _ (fun e => h43 (UInt8.toNat_inj.1 (by rw [e]; rfl))) (fun e => h45 (UInt8.toNat_inj.1 (by rw [e]; rfl))), ← hlist]
      rw [e1, hv]
      rcases mag_digits _ hne (hall _ h.1) with ⟨u, hu, huv⟩ | ⟨hr, hrv⟩
      · rw [hu]
        unfold Lib.signless
        dsimp only
        split
        · rename_i hq; exact .inr ⟨rfl, by omega⟩
        · exact .inl (by rw [huv])
      · rw [hr]; exact .inr ⟨rfl, by omega⟩
end

section
open Go.RowKit Go.Extern.Stop Go.Stop Go.Extern

/-- strconv.ErrRange as the row lists it. -/
def HasERv (w : World) : Prop := ∃ p : Addr, w.var? Tryz.prog "strconv.ErrRange" = some #[.iface 170 (.pointer (some p))] ∧ w.cell? ⟨0, 0, none⟩ = some (.iface 170 (.pointer (some p)))

theorem Tryz.mUnwrapN (p : Value) (w : World) : (Go.method 326 142 p "Unwrap").run Tryz.prog w = .ok (229, p) w := by kernel_rfl
theorem Tryz.tOfES (v : Value) (w : World) : (ReflectliteType.typeOf #[.iface 170 v]).run Tryz.prog w = .ok (.iface 124 (.agg #[.pointer (some ⟨10, 170, none⟩)])) w := by kernel_rfl
theorem Tryz.comparableES (w : World) : (ReflectliteType.method (fun t => do Rtype.noPackHeld "Comparable" t; (fun a : TypeInfo => Value.bool a.comparable) <$> typeInfo t) #[.agg #[.pointer (some ⟨10, 170, none⟩)]]).run Tryz.prog w = .ok (.bool true) w := by kernel_rfl
theorem Tryz.eqNE (a b : Addr) (w : World) : (binOp .eql 35 (.iface 142 (.pointer (some a))) (.iface 170 (.pointer (some b)))).run Tryz.prog w = .ok (.bool false) w := by kernel_rfl
theorem Tryz.assertIsN (p : Addr) (w : World) : (Instr.typeAssert (.iface 142 (.pointer (some p))) 35 126 true).run Tryz.prog w = .ok (.tuple #[.nilIface, .bool false]) w :=
  run_typeAssert_lacksB Tryz.underlying126 (by kernel_rfl) (by kernel_rfl) _ _ w
theorem Tryz.assertUnwrapN (p : Addr) (w : World) : (Instr.typeAssert (.iface 142 (.pointer (some p))) 35 129 true).run Tryz.prog w = .ok (.tuple #[.iface 142 (.pointer (some p)), .bool true]) w := by kernel_rfl

set_option maxRecDepth 100000 in
set_option maxHeartbeats 2000000 in
theorem isRange_any (N : Nat) (p : Addr) (a b : Value) (w : World) (hB : Blk w N [a, b, .iface 170 (.pointer (some p))] 159) :
    Calls Tryz.prog 61 #[.iface 142 (.pointer (some ⟨N, 0, none⟩)), .iface 170 (.pointer (some p)), .bool true] w (Tells (.bool true) w) := by
  have c2 := hB.cell 2 _ rfl
  have m2 := Tryz.mUnwrapN
  have m3 := Tryz.eqNE
  have a2 := Tryz.assertIsN
  have a3 := Tryz.assertUnwrapN
  obtain ⟨j, hj, hj2⟩ := Option.map_eq_some_iff.1 (show (Tryz.prog.info? 170).map (fun i => i.comparable) = some true by kernel_rfl)
  obtain ⟨j3, hj3, _⟩ := Option.map_eq_some_iff.1 (show (Tryz.prog.info? 172).map (fun i => i.size) = some 1 by kernel_rfl)
  have m4 := fun w => Go.run_eql_iface_ptr_same (P := Tryz.prog) w p Tryz.underlying35 Tryz.underlying170 hj hj2 hj3
  go_enter Tryz.func61, Tryz.ntmps61
  go_wp2_with fail
  refine wp_loop_rounds 2 ?_
  rw [rounds_succ]
  go_wp2
  rw [rounds_succ]
  go_wp2
  go_ret
  exact ⟨rfl, rfl⟩
set_option maxRecDepth 100000 in
set_option maxHeartbeats 2000000 in
theorem IsRange_any (N : Nat) (p : Addr) (a b : Value) (w : World) (hB : Blk w N [a, b, .iface 170 (.pointer (some p))] 159) :
    Calls Tryz.prog 38 #[.iface 142 (.pointer (some ⟨N, 0, none⟩)), .iface 170 (.pointer (some p))] w (Tells (.bool true) w) := by
  have h := isRange_any N p a b w hB
  have h10 := @run_callFunc_extern Tryz.prog 60 _ ReflectliteType.typeOf Tryz.func60 (by kernel_rfl) (by kernel_rfl) (by kernel_rfl) (by kernel_rfl)
  have h11 := @run_callFunc_extern Tryz.prog 218 _ (ReflectliteType.method (fun t => do Rtype.noPackHeld "Comparable" t; pure (.bool (← typeInfo t).comparable))) Tryz.func218 (by kernel_rfl) (by kernel_rfl) (by kernel_rfl) (by kernel_rfl)
  have m1 := Tryz.mComparable
  have m2 := Tryz.tOfES
  have m3 := Tryz.comparableES
  go_enter Tryz.func38, Tryz.ntmps38
  go_wp2_with (go_at_call 61; refine h.mono ?_; rintro r w' ⟨rfl, hw⟩; replace hw := hw.symm; subst hw)
  go_ret
  exact ⟨rfl, rfl⟩

/-- What Whole tells of any text: the number, and the error's kind. -/
def wholeK (s : ByteArray) : Int × Int := if numB s = false then (0, 10) else if -2147483647 ≤ valS s ∧ valS s ≤ 2147483647 then (valS s, 0) else (0, 3)
def WholeP (k : Int × Int) (w : World) (r : Ending) (w' : World) : Prop :=
  Below w.heap.size w w' ∧ ((k.2 = 0 ∧ r = .returned (.tuple #[.int .i64 k.1, .nilIface])) ∨
    (k.1 = 0 ∧ k.2 ≠ 0 ∧ ∃ e, w.heap.size ≤ e ∧ r = .returned (.tuple #[.int .i64 0, fltV e]) ∧ Blk w' e [.int .i64 k.2, .int .i64 0, .nilIface] 73))

set_option maxRecDepth 100000 in
set_option maxHeartbeats 2000000 in
theorem wholeAll_any (s : ByteArray) (w : World) (hER : HasERv w) (hs : s.size ≤ 1000000) : Calls Tryz.prog 22 #[.string s] w (WholeP (wholeK s) w) := by
  have hn := isNumber_any s w hs
  obtain ⟨p, hvar, hcell⟩ := hER
  have hlt : 0 < w.heap.size := World.block_lt_of_cell? w _ hcell
  have HC := Lib.hid hcell; clear hcell
  have HV := Lib.hid hvar; clear hvar
  have hvl : ∀ w' : World, Below w.heap.size w w' → w'.var? Tryz.prog "strconv.ErrRange" = some #[.iface 170 (.pointer (some p))] ∧ w'.cell? ⟨0, 0, none⟩ = some (.iface 170 (.pointer (some p))) := fun w' hb => by
    refine ⟨?_, (hb.cell (p := ⟨0, 0, none⟩) hlt).trans HC.out⟩
    have h0 := HV.out
    unfold World.var? at h0 ⊢
    rw [Tryz.gER] at h0 ⊢
    simpa [hb.block _ hlt] using h0
  have HVL := Lib.hid hvl; clear hvl
  rcases hnum : numB s with _ | _
  · have hK : wholeK s = (0, 10) := by unfold wholeK; rw [hnum]; rfl
    rw [hK]
    rw [hnum] at hn
    go_enter Tryz.func22, Tryz.ntmps22
    go_wp2_with fail
    refine hn.mono ?_
    rintro e w1 ⟨rfl, hb1⟩
    go_wp2_with fail
    refine (fail_any 10 0 _).mono ?_
    rintro e w2 ⟨rfl, rfl⟩
    go_wp2
    go_ret2
    exact ⟨hb1.alloc hb1.size _, .inr ⟨rfl, by decide, _, hb1.size, rfl, Blk.alloc _ _⟩⟩
  · rw [hnum] at hn
    rcases atoiAll_num s hnum with hok | ⟨hrg, hov⟩
    · have hA := fun w => Tryz.strconv_Atoi_ok s (by omega) (valS s) hok w
      have hbd := Lib.atoiAll_bounds hok
      obtain ⟨q1, q2⟩ := hbd
      have hK : wholeK s = if -2147483647 ≤ valS s ∧ valS s ≤ 2147483647 then (valS s, 0) else (0, 3) := by unfold wholeK; rw [hnum, if_neg (by decide)]
      rw [hK]
      clear hK hok hnum
      generalize valS s = v at *
      rcases (show (v ≤ 2147483647 ∧ -2147483647 ≤ v) ∨ (2147483647 < v) ∨ (v ≤ 2147483647 ∧ v < -2147483647) from by omega) with ⟨b1, b2⟩ | b1 | ⟨b1, b2⟩
      all_goals
        go_enter Tryz.func22, Tryz.ntmps22
        go_wp2_with fail
        refine hn.mono ?_
        rintro e w1 ⟨rfl, hb1⟩
        go_wp2_with fail
        refine (hA _).mono ?_
        rintro e w2 ⟨rfl, hw2⟩
        have hb2 : Below w1.heap.size w1 w2 := by
          rcases hw2 with rfl | ⟨t, rfl⟩
          · exact Below.refl _ _
          · rw [show Lib.bytesWorld w1 5 t = w1.drew.alloc (.cells (Lib.bytesCells w1 5 t) 5 ((Lib.bytesCells w1 5 t).size, (Lib.bytesCells w1 5 t).size + 1)) from freeze_new w1.drew _ _ _]
            exact ((Below.refl _ w1).drew).alloc (Nat.le_refl _) _
        clear hw2
        have hb := hb1.trans (hb2.mono hb1.size)
        obtain ⟨_, hc⟩ := HVL.out _ hb
        have hi := fun w => is_nil_any 170 (.pointer (some p)) w
        go_wp2_with (go_at_call 38; refine (hi _).mono ?_; rintro e wq ⟨rfl, hwq⟩; replace hwq := hwq.symm; subst hwq)
      · go_ret2
        exact ⟨hb, .inl ⟨rfl, rfl⟩⟩
      · refine (fail_any 3 0 _).mono ?_
        rintro e w3 ⟨rfl, rfl⟩
        go_wp2
        go_ret2
        exact ⟨hb.alloc hb.size _, .inr ⟨rfl, by decide, _, hb.size, rfl, Blk.alloc _ _⟩⟩
      · refine (fail_any 3 0 _).mono ?_
        rintro e w3 ⟨rfl, rfl⟩
        go_wp2
        go_ret2
        exact ⟨hb.alloc hb.size _, .inr ⟨rfl, by decide, _, hb.size, rfl, Blk.alloc _ _⟩⟩
    · have hK : wholeK s = (0, 3) := by unfold wholeK; rw [hnum, if_neg (by decide), if_neg hov]
      rw [hK]
      go_enter Tryz.func22, Tryz.ntmps22
      go_wp2_with fail
      refine hn.mono ?_
      rintro e w1 ⟨rfl, hb1⟩
      go_wp2_with fail
      refine (Tryz.strconv_Atoi_range_var s (by omega) hrg 170 (.pointer (some p)) w1 (HVL.out _ hb1).1).mono ?_
      rintro e w2 ⟨N, rfl, hN, hNB, hb2⟩
      have hb := hb1.trans (hb2.mono hb1.size)
      obtain ⟨_, hc⟩ := HVL.out _ hb
      have hI := IsRange_any N p _ _ w2 hNB
      generalize Lib.atoiSat s.data.toList = sat at *
      go_wp2_with (go_at_call 38; refine hI.mono ?_; rintro e wq ⟨rfl, hwq⟩; replace hwq := hwq.symm; subst hwq)
      refine (fail_any 3 0 _).mono ?_
      rintro e w3 ⟨rfl, rfl⟩
      go_wp2
      go_ret2
      exact ⟨hb.alloc hb.size _, .inr ⟨rfl, by decide, _, hb.size, rfl, Blk.alloc _ _⟩⟩
end

section
open Go.RowKit

theorem get_at (s : ByteArray) (k : Nat) (h : k < s.size) : (strB s)[k]? = some (s[k]'h) := by
  unfold strB
  rw [Array.getElem?_toList]
  exact Array.getElem?_eq_getElem h
theorem part_snoc (s : ByteArray) (a k : Nat) (hk : k < s.size) (ha : a ≤ k) : ((strB s).drop a).take (k + 1 - a) = ((strB s).drop a).take (k - a) ++ [s[k]'hk] := by
  rw [show k + 1 - a = (k - a) + 1 from by omega, List.take_add_one, List.getElem?_drop, show a + (k - a) = k from by omega, get_at s k hk]
  rfl
def digD (l : List UInt8) : Bool := l.all fun b => digitB b.toNat
theorem numB_plain {s : ByteArray} (h : signedB s = false) : numB s = (digD ((strB s).drop 0) && decide (0 < s.size)) := by unfold numB; rw [h]; rfl
theorem numB_signed {s : ByteArray} (h : signedB s = true) : numB s = (digD ((strB s).drop 1) && decide (1 < s.size)) := by
  unfold numB
  rw [h, if_pos rfl, tailS_size]
  unfold bytesAll digD
  rw [tailS_bytes]
  congr 1
  exact decide_eq_decide.2 (by omega)

set_option maxRecDepth 100000 in
set_option maxHeartbeats 4000000 in
theorem rwhole_any (s : ByteArray) (w : World) (hs : s.size ≤ 1000000) : Calls Tryz.prog 23 #[.string s] w (Tells (.tuple #[.int .i64 (wholeK s).1, .int .i64 (wholeK s).2]) w) := by
  by_cases h1 : 0 < s.size
  · have h1' : (0 : Int) < (s.size : Int) := by omega
    by_cases h45 : s[0]'h1 = 45
    · have hsg : signedB s = true := by unfold signedB; rw [first_of s h1, first_of s h1, h45]; rfl
      have HVS : Hid (valS s = - valD ((strB s).drop 1) 0) := Lib.hid (by unfold valS; rw [first_of s h1, h45, if_pos (by decide), tailS_bytes])
      have HNB := Lib.hid (numB_signed hsg)
      have q0 : (((s[0]'h1).toNat : Nat) : Int) = 45 := by rw [h45]; rfl
      by_cases hpos : 1 < s.size
      · have hp1 : ¬ (1 : Int) = (s.size : Int) := by omega
        have hp2 : ((1 : Int) == (s.size : Int)) = false := beq_eq_false_iff_ne.2 (by omega)
        clear hsg h45
        go_enter Tryz.func23, Tryz.ntmps23
        go_wp2_with fail
        go_loopw [6, 5] (fun i c wr => ∃ (k : Nat) (m : Int), i = .int .i64 k ∧ c = .int .i64 m ∧ 1 ≤ k ∧ k ≤ s.size ∧ Hid (digD (((strB s).drop 1).take (k - 1)) = true) ∧ Hid ((m ≤ 2147483647 ∧ m = valD (((strB s).drop 1).take (k - 1)) 0) ∨ (2147483647 < m ∧ 2147483647 < valD (((strB s).drop 1).take (k - 1)) 0)) ∧ 0 ≤ m ∧ m ≤ 21474836479 ∧ wr = w) (fun i _ _ => s.size - (intOf i).toNat)
        case atStart => exact ⟨1, 0, rfl, rfl, by omega, by omega, Lib.hid (by simp [digD]), Lib.hid (.inl ⟨by omega, by simp [valD]⟩), by omega, by omega, rfl⟩
        case round =>
          obtain ⟨k, m, rfl, rfl, hak, hk, hdg, hrelv, hm0, hm1, rfl⟩ := hrel
          by_cases hks : k < s.size
          · have hks' : (k : Int) < (s.size : Int) := by omega
            have hsn := part_snoc s 1 k hks hak
            have hbl := (s[k]'hks).toNat_lt
            have hd := fun w => rdigit_any (((s[k]'hks).toNat : Nat) : Int) w ⟨by omega, by omega⟩
            have hw : wrap64 (((s[k]'hks).toNat : Nat) : Int) = (s[k]'hks).toNat := by unfold wrap64; omega
            have HD : Hid (digD (((strB s).drop 1).take (k + 1 - 1)) = digitB (((s[k]'hks).toNat : Nat) : Int)) := Lib.hid (by have := hdg.out; unfold digD at this ⊢; rw [hsn, List.all_append, this]; simp)
            have HV : Hid (valD (((strB s).drop 1).take (k + 1 - 1)) 0 = valD (((strB s).drop 1).take (k - 1)) 0 * 10 + ((((s[k]'hks).toNat : Nat) : Int) - 48)) := Lib.hid (by rw [hsn, valD_snoc])
            have hge : 0 ≤ valD (((strB s).drop 1).take (k - 1)) 0 := valD_ge _ 0 (by omega) (fun b hb => by have := hdg.out; unfold digD at this; exact List.all_eq_true.1 this b hb)
            have HF : Hid (digitB (((s[k]'hks).toNat : Nat) : Int) = false → digD ((strB s).drop 1) = false) := Lib.hid (fun h => by
              unfold digD
              rw [List.all_eq_false]
              refine ⟨s[k]'hks, ?_, by rw [h]; decide⟩
              have e := hsn
              have hmem : s[k]'hks ∈ ((strB s).drop 1).take (k + 1 - 1) := by rw [e]; simp
              exact List.mem_of_mem_take hmem)
            have hdd : digitB (((s[k]'hks).toNat : Nat) : Int) = true → 48 ≤ (((s[k]'hks).toNat : Nat) : Int) ∧ (((s[k]'hks).toNat : Nat) : Int) ≤ 57 := fun h => by unfold digitB at h; rwa [decide_eq_true_iff] at h
            have HDD := Lib.hid hdd
            have HG := Lib.hid hge
            clear hsn hdg hdd hge
            generalize valD (((strB s).drop 1).take (k - 1)) 0 = v0 at *
            generalize digitB (((s[k]'hks).toNat : Nat) : Int) = r at *
            generalize hx : (((s[k]'hks).toNat : Nat) : Int) = x at *
            cases r
            · have hK : wholeK s = (0, 10) := by unfold wholeK; rw [HNB.out, HF.out rfl]; rfl
              go_wp2_with (go_at_call 43; refine (hd _).mono ?_; rintro e wq ⟨rfl, hwq⟩; replace hwq := hwq.symm; subst hwq)
              go_ret2
              exact ⟨by first | rfl | (rw [hK]; rfl), rfl⟩
            · obtain ⟨x1, x2⟩ := HDD.out rfl
              by_cases hmM : m ≤ 2147483647
              · go_wp2_with (go_at_call 43; refine (hd _).mono ?_; rintro e wq ⟨rfl, hwq⟩; replace hwq := hwq.symm; subst hwq)
                go_roundw
                case rel => exact ⟨k + 1, 10 * m + x - 48, by go_num, by go_num, by omega, by omega, HD, Lib.hid (by have := HV.out; have := hrelv.out; omega), by omega, by omega, by first | rfl | trivial⟩
                case measure => simp [intOf]; omega
              · go_wp2_with (go_at_call 43; refine (hd _).mono ?_; rintro e wq ⟨rfl, hwq⟩; replace hwq := hwq.symm; subst hwq)
                go_roundw
                case rel => exact ⟨k + 1, m, by go_num, by go_num, by omega, by omega, HD, Lib.hid (by have := HV.out; have := hrelv.out; have := HG.out; omega), by omega, by omega, by first | rfl | trivial⟩
                case measure => simp [intOf]; omega
          · have hke : k = s.size := by omega
            have hfull : ((strB s).drop 1).take (k - 1) = (strB s).drop 1 := List.take_of_length_le (by rw [List.length_drop, strB_len]; omega)
            rw [hfull] at hdg hrelv
            have hN : numB s = true := by rw [HNB.out, hdg.out, Bool.true_and]; exact decide_eq_true hpos
            have hrv := hrelv.out
            have hvs := HVS.out
            clear hrelv hdg
            by_cases hmM : 2147483647 < m
            · have hK : wholeK s = (0, 3) := by unfold wholeK; rw [hN, if_neg (by decide), if_neg (by rw [hvs]; omega)]
              clear hrv hvs
              go_wp2
              go_ret2
              exact ⟨by first | rfl | (rw [hK]; rfl), rfl⟩
            · have hmv : m = valD ((strB s).drop 1) 0 := by omega
              have hK : wholeK s = (-m, 0) := by unfold wholeK; rw [hN, if_neg (by decide), if_pos (by rw [hvs]; omega), hvs, ← hmv]
              clear hrv hvs hmv
              go_wp2
              go_ret2
              exact ⟨by first | rfl | (rw [hK]; rfl), rfl⟩
      · have hK : wholeK s = (0, 10) := by unfold wholeK; rw [HNB.out, decide_eq_false hpos, Bool.and_false]; rfl
        have hz1 : s.size = 1 := by omega
        have hz2 : ((s.size : Nat) : Int) = 1 := by omega
        have hp2 : ((1 : Int) == (s.size : Int)) = true := beq_iff_eq.2 (by omega)
        clear hsg h45
        go_enter Tryz.func23, Tryz.ntmps23
        go_wp2
        go_ret2
        exact ⟨by first | rfl | (rw [hK]; rfl), rfl⟩
    · by_cases h43 : s[0]'h1 = 43
      · have hsg : signedB s = true := by unfold signedB; rw [first_of s h1, first_of s h1, h43]; rfl
        have HVS : Hid (valS s = valD ((strB s).drop 1) 0) := Lib.hid (by unfold valS; rw [first_of s h1, first_of s h1, h43, if_neg (by decide), if_pos (by decide), tailS_bytes])
        have HNB := Lib.hid (numB_signed hsg)
        have q0 : (((s[0]'h1).toNat : Nat) : Int) = 43 := by rw [h43]; rfl
        by_cases hpos : 1 < s.size
        · have hp1 : ¬ (1 : Int) = (s.size : Int) := by omega
          have hp2 : ((1 : Int) == (s.size : Int)) = false := beq_eq_false_iff_ne.2 (by omega)
          clear hsg h43
          go_enter Tryz.func23, Tryz.ntmps23
          go_wp2_with fail
          go_loopw [6, 5] (fun i c wr => ∃ (k : Nat) (m : Int), i = .int .i64 k ∧ c = .int .i64 m ∧ 1 ≤ k ∧ k ≤ s.size ∧ Hid (digD (((strB s).drop 1).take (k - 1)) = true) ∧ Hid ((m ≤ 2147483647 ∧ m = valD (((strB s).drop 1).take (k - 1)) 0) ∨ (2147483647 < m ∧ 2147483647 < valD (((strB s).drop 1).take (k - 1)) 0)) ∧ 0 ≤ m ∧ m ≤ 21474836479 ∧ wr = w) (fun i _ _ => s.size - (intOf i).toNat)
          case atStart => exact ⟨1, 0, rfl, rfl, by omega, by omega, Lib.hid (by simp [digD]), Lib.hid (.inl ⟨by omega, by simp [valD]⟩), by omega, by omega, rfl⟩
          case round =>
            obtain ⟨k, m, rfl, rfl, hak, hk, hdg, hrelv, hm0, hm1, rfl⟩ := hrel
            by_cases hks : k < s.size
            · have hks' : (k : Int) < (s.size : Int) := by omega
              have hsn := part_snoc s 1 k hks hak
              have hbl := (s[k]'hks).toNat_lt
              have hd := fun w => rdigit_any (((s[k]'hks).toNat : Nat) : Int) w ⟨by omega, by omega⟩
              have hw : wrap64 (((s[k]'hks).toNat : Nat) : Int) = (s[k]'hks).toNat := by unfold wrap64; omega
              have HD : Hid (digD (((strB s).drop 1).take (k + 1 - 1)) = digitB (((s[k]'hks).toNat : Nat) : Int)) := Lib.hid (by have := hdg.out; unfold digD at this ⊢; rw [hsn, List.all_append, this]; simp)
              have HV : Hid (valD (((strB s).drop 1).take (k + 1 - 1)) 0 = valD (((strB s).drop 1).take (k - 1)) 0 * 10 + ((((s[k]'hks).toNat : Nat) : Int) - 48)) := Lib.hid (by rw [hsn, valD_snoc])
              have hge : 0 ≤ valD (((strB s).drop 1).take (k - 1)) 0 := valD_ge _ 0 (by omega) (fun b hb => by have := hdg.out; unfold digD at this; exact List.all_eq_true.1 this b hb)
              have HF : Hid (digitB (((s[k]'hks).toNat : Nat) : Int) = false → digD ((strB s).drop 1) = false) := Lib.hid (fun h => by
                unfold digD
                rw [List.all_eq_false]
                refine ⟨s[k]'hks, ?_, by rw [h]; decide⟩
                have e := hsn
                have hmem : s[k]'hks ∈ ((strB s).drop 1).take (k + 1 - 1) := by rw [e]; simp
                exact List.mem_of_mem_take hmem)
              have hdd : digitB (((s[k]'hks).toNat : Nat) : Int) = true → 48 ≤ (((s[k]'hks).toNat : Nat) : Int) ∧ (((s[k]'hks).toNat : Nat) : Int) ≤ 57 := fun h => by unfold digitB at h; rwa [decide_eq_true_iff] at h
              have HDD := Lib.hid hdd
              have HG := Lib.hid hge
              clear hsn hdg hdd hge
              generalize valD (((strB s).drop 1).take (k - 1)) 0 = v0 at *
              generalize digitB (((s[k]'hks).toNat : Nat) : Int) = r at *
              generalize hx : (((s[k]'hks).toNat : Nat) : Int) = x at *
              cases r
              · have hK : wholeK s = (0, 10) := by unfold wholeK; rw [HNB.out, HF.out rfl]; rfl
                go_wp2_with (go_at_call 43; refine (hd _).mono ?_; rintro e wq ⟨rfl, hwq⟩; replace hwq := hwq.symm; subst hwq)
                go_ret2
                exact ⟨by first | rfl | (rw [hK]; rfl), rfl⟩
              · obtain ⟨x1, x2⟩ := HDD.out rfl
                by_cases hmM : m ≤ 2147483647
                · go_wp2_with (go_at_call 43; refine (hd _).mono ?_; rintro e wq ⟨rfl, hwq⟩; replace hwq := hwq.symm; subst hwq)
                  go_roundw
                  case rel => exact ⟨k + 1, 10 * m + x - 48, by go_num, by go_num, by omega, by omega, HD, Lib.hid (by have := HV.out; have := hrelv.out; omega), by omega, by omega, by first | rfl | trivial⟩
                  case measure => simp [intOf]; omega
                · go_wp2_with (go_at_call 43; refine (hd _).mono ?_; rintro e wq ⟨rfl, hwq⟩; replace hwq := hwq.symm; subst hwq)
                  go_roundw
                  case rel => exact ⟨k + 1, m, by go_num, by go_num, by omega, by omega, HD, Lib.hid (by have := HV.out; have := hrelv.out; have := HG.out; omega), by omega, by omega, by first | rfl | trivial⟩
                  case measure => simp [intOf]; omega
            · have hke : k = s.size := by omega
              have hfull : ((strB s).drop 1).take (k - 1) = (strB s).drop 1 := List.take_of_length_le (by rw [List.length_drop, strB_len]; omega)
              rw [hfull] at hdg hrelv
              have hN : numB s = true := by rw [HNB.out, hdg.out, Bool.true_and]; exact decide_eq_true hpos
              have hrv := hrelv.out
              have hvs := HVS.out
              clear hrelv hdg
              by_cases hmM : 2147483647 < m
              · have hK : wholeK s = (0, 3) := by unfold wholeK; rw [hN, if_neg (by decide), if_neg (by rw [hvs]; omega)]
                clear hrv hvs
                go_wp2
                go_ret2
                exact ⟨by first | rfl | (rw [hK]; rfl), rfl⟩
              · have hmv : m = valD ((strB s).drop 1) 0 := by omega
                have hK : wholeK s = (m, 0) := by unfold wholeK; rw [hN, if_neg (by decide), if_pos (by rw [hvs]; omega), hvs, ← hmv]
                clear hrv hvs hmv
                go_wp2
                go_ret2
                exact ⟨by first | rfl | (rw [hK]; rfl), rfl⟩
        · have hK : wholeK s = (0, 10) := by unfold wholeK; rw [HNB.out, decide_eq_false hpos, Bool.and_false]; rfl
          have hz1 : s.size = 1 := by omega
          have hz2 : ((s.size : Nat) : Int) = 1 := by omega
          have hp2 : ((1 : Int) == (s.size : Int)) = true := beq_iff_eq.2 (by omega)
          clear hsg h43
          go_enter Tryz.func23, Tryz.ntmps23
          go_wp2
          go_ret2
          exact ⟨by first | rfl | (rw [hK]; rfl), rfl⟩
      · have hsg : signedB s = false := by unfold signedB; rw [first_of s h1, first_of s h1, decide_eq_false h45, decide_eq_false h43]; rfl
        have HVS : Hid (valS s = valD ((strB s).drop 0) 0) := Lib.hid (by unfold valS; rw [first_of s h1, first_of s h1, if_neg (by simpa using h45), if_neg (by simpa using h43)]; rfl)
        have HNB := Lib.hid (numB_plain hsg)
        have q0 : ((((s[0]'h1).toNat : Nat) : Int) == 45) = false := beq_eq_false_iff_ne.2 fun e => h45 (UInt8.toNat_inj.1 (by have : (45 : UInt8).toNat = 45 := rfl; omega))
        have q1 : ((((s[0]'h1).toNat : Nat) : Int) == 43) = false := beq_eq_false_iff_ne.2 fun e => h43 (UInt8.toNat_inj.1 (by have : (43 : UInt8).toNat = 43 := rfl; omega))
        have hpos : 0 < s.size := h1
        have hp2 : ((0 : Int) == (s.size : Int)) = false := beq_eq_false_iff_ne.2 (by omega)
        clear hsg h45 h43
        go_enter Tryz.func23, Tryz.ntmps23
        go_wp2_with fail
        go_loopw [6, 5] (fun i c wr => ∃ (k : Nat) (m : Int), i = .int .i64 k ∧ c = .int .i64 m ∧ 0 ≤ k ∧ k ≤ s.size ∧ Hid (digD (((strB s).drop 0).take (k - 0)) = true) ∧ Hid ((m ≤ 2147483647 ∧ m = valD (((strB s).drop 0).take (k - 0)) 0) ∨ (2147483647 < m ∧ 2147483647 < valD (((strB s).drop 0).take (k - 0)) 0)) ∧ 0 ≤ m ∧ m ≤ 21474836479 ∧ wr = w) (fun i _ _ => s.size - (intOf i).toNat)
        case atStart => exact ⟨0, 0, rfl, rfl, by omega, by omega, Lib.hid (by simp [digD]), Lib.hid (.inl ⟨by omega, by simp [valD]⟩), by omega, by omega, rfl⟩
        case round =>
          obtain ⟨k, m, rfl, rfl, hak, hk, hdg, hrelv, hm0, hm1, rfl⟩ := hrel
          by_cases hks : k < s.size
          · have hks' : (k : Int) < (s.size : Int) := by omega
            have hsn := part_snoc s 0 k hks hak
            have hbl := (s[k]'hks).toNat_lt
            have hd := fun w => rdigit_any (((s[k]'hks).toNat : Nat) : Int) w ⟨by omega, by omega⟩
            have hw : wrap64 (((s[k]'hks).toNat : Nat) : Int) = (s[k]'hks).toNat := by unfold wrap64; omega
            have HD : Hid (digD (((strB s).drop 0).take (k + 1 - 0)) = digitB (((s[k]'hks).toNat : Nat) : Int)) := Lib.hid (by have := hdg.out; unfold digD at this ⊢; rw [hsn, List.all_append, this]; simp)
            have HV : Hid (valD (((strB s).drop 0).take (k + 1 - 0)) 0 = valD (((strB s).drop 0).take (k - 0)) 0 * 10 + ((((s[k]'hks).toNat : Nat) : Int) - 48)) := Lib.hid (by rw [hsn, valD_snoc])
            have hge : 0 ≤ valD (((strB s).drop 0).take (k - 0)) 0 := valD_ge _ 0 (by omega) (fun b hb => by have := hdg.out; unfold digD at this; exact List.all_eq_true.1 this b hb)
            have HF : Hid (digitB (((s[k]'hks).toNat : Nat) : Int) = false → digD ((strB s).drop 0) = false) := Lib.hid (fun h => by
              unfold digD
              rw [List.all_eq_false]
              refine ⟨s[k]'hks, ?_, by rw [h]; decide⟩
              have e := hsn
              have hmem : s[k]'hks ∈ ((strB s).drop 0).take (k + 1 - 0) := by rw [e]; simp
              exact List.mem_of_mem_take hmem)
            have hdd : digitB (((s[k]'hks).toNat : Nat) : Int) = true → 48 ≤ (((s[k]'hks).toNat : Nat) : Int) ∧ (((s[k]'hks).toNat : Nat) : Int) ≤ 57 := fun h => by unfold digitB at h; rwa [decide_eq_true_iff] at h
            have HDD := Lib.hid hdd
            have HG := Lib.hid hge
            clear hsn hdg hdd hge
            generalize valD (((strB s).drop 0).take (k - 0)) 0 = v0 at *
            generalize digitB (((s[k]'hks).toNat : Nat) : Int) = r at *
            generalize hx : (((s[k]'hks).toNat : Nat) : Int) = x at *
            cases r
            · have hK : wholeK s = (0, 10) := by unfold wholeK; rw [HNB.out, HF.out rfl]; rfl
              go_wp2_with (go_at_call 43; refine (hd _).mono ?_; rintro e wq ⟨rfl, hwq⟩; replace hwq := hwq.symm; subst hwq)
              go_ret2
              exact ⟨by first | rfl | (rw [hK]; rfl), rfl⟩
            · obtain ⟨x1, x2⟩ := HDD.out rfl
              by_cases hmM : m ≤ 2147483647
              · go_wp2_with (go_at_call 43; refine (hd _).mono ?_; rintro e wq ⟨rfl, hwq⟩; replace hwq := hwq.symm; subst hwq)
                go_roundw
                case rel => exact ⟨k + 1, 10 * m + x - 48, by go_num, by go_num, by omega, by omega, HD, Lib.hid (by have := HV.out; have := hrelv.out; omega), by omega, by omega, by first | rfl | trivial⟩
                case measure => simp [intOf]; omega
              · go_wp2_with (go_at_call 43; refine (hd _).mono ?_; rintro e wq ⟨rfl, hwq⟩; replace hwq := hwq.symm; subst hwq)
                go_roundw
                case rel => exact ⟨k + 1, m, by go_num, by go_num, by omega, by omega, HD, Lib.hid (by have := HV.out; have := hrelv.out; have := HG.out; omega), by omega, by omega, by first | rfl | trivial⟩
                case measure => simp [intOf]; omega
          · have hke : k = s.size := by omega
            have hfull : ((strB s).drop 0).take (k - 0) = (strB s).drop 0 := List.take_of_length_le (by rw [List.length_drop, strB_len]; omega)
            rw [hfull] at hdg hrelv
            have hN : numB s = true := by rw [HNB.out, hdg.out, Bool.true_and]; exact decide_eq_true hpos
            have hrv := hrelv.out
            have hvs := HVS.out
            clear hrelv hdg
            by_cases hmM : 2147483647 < m
            · have hK : wholeK s = (0, 3) := by unfold wholeK; rw [hN, if_neg (by decide), if_neg (by rw [hvs]; omega)]
              clear hrv hvs
              go_wp2
              go_ret2
              exact ⟨by first | rfl | (rw [hK]; rfl), rfl⟩
            · have hmv : m = valD ((strB s).drop 0) 0 := by omega
              have hK : wholeK s = (m, 0) := by unfold wholeK; rw [hN, if_neg (by decide), if_pos (by rw [hvs]; omega), hvs, ← hmv]
              clear hrv hvs hmv
              go_wp2
              go_ret2
              exact ⟨by first | rfl | (rw [hK]; rfl), rfl⟩
  · have hz : s.size = 0 := by omega
    have hN : numB s = false := by
      have hsg : signedB s = false := by
        rcases hq : signedB s with _ | _
        · rfl
        · have := signedB_pos hq; omega
      rw [numB_plain hsg, decide_eq_false h1, Bool.and_false]
    have hK : wholeK s = (0, 10) := by unfold wholeK; rw [hN]; rfl
    have hz2 : ((s.size : Nat) : Int) = 0 := by omega
    go_enter Tryz.func23, Tryz.ntmps23
    go_wp2
    go_ret2
    exact ⟨by first | rfl | (rw [hK]; rfl), rfl⟩

theorem kind_nil (w : World) : Calls Tryz.prog 20 #[.nilIface] w (Tells (.int .i64 0) w) := by
  go_enter Tryz.func20, Tryz.ntmps20
  go_wp2
  go_ret
  exact ⟨rfl, rfl⟩

set_option maxRecDepth 100000 in
set_option maxHeartbeats 4000000 in
theorem lawWholes_any (s : ByteArray) (w : World) (hE : HasERv w) (hT : HasET w) (hmax : s.size ≤ 9223372036854775807) : Calls Tryz.prog 5 #[.string s] w (Told (.bool true) w) := by
  have hER : HasER w := by obtain ⟨p, _, hc⟩ := hE; exact ⟨_, p, hc⟩
  have hltR : 0 < w.heap.size := by obtain ⟨p, _, hc⟩ := hE; exact World.block_lt_of_cell? w _ hc
  have hltT : 1 < w.heap.size := World.block_lt_of_cell? w _ hT
  have hS := speaks4_any w hER
  by_cases hbig : 500 < s.size
  · have hbig' : (500 : Int) < (s.size : Int) := by omega
    go_enter Tryz.func5, Tryz.ntmps5
    go_wp2_with fail
    refine hS.mono ?_
    rintro e w1 ⟨rfl, hb1⟩
    go_wp2
    go_ret
    exact ⟨rfl, hb1⟩
  · have hbig' : ¬ (500 : Int) < (s.size : Int) := by omega
    have HEV : Hid (∀ w' : World, Below w.heap.size w w' → HasERv w') := Lib.hid (fun w' hb => by
      obtain ⟨p, h0, hc⟩ := hE
      refine ⟨p, ?_, (hb.cell (p := ⟨0, 0, none⟩) hltR).trans hc⟩
      unfold World.var? at h0 ⊢
      rw [Tryz.gER] at h0 ⊢
      simpa [hb.block _ hltR] using h0)
    have HTV : Hid (∀ w' : World, Below w.heap.size w w' → HasET w') := Lib.hid (fun w' hb => hT.below hb hltT)
    have hr := fun w => rwhole_any s w (by omega)
    clear hE hT hER
    go_enter Tryz.func5, Tryz.ntmps5
    go_wp2_with fail
    refine hS.mono ?_
    rintro e w1 ⟨rfl, hb1⟩
    go_wp2_with fail
    refine (wholeAll_any s w1 (HEV.out w1 hb1) (by omega)).mono ?_
    rintro q w2 ⟨hb2, hq⟩
    have hb12 := hb1.trans (hb2.mono hb1.size)
    generalize wholeK s = K at *
    obtain ⟨n, k⟩ := K
    dsimp only at hq hr
    rcases hq with ⟨hk, rfl⟩ | ⟨hn0, hk, e, he, rfl, hB⟩
    · subst hk
      have kn := fun w => kind_nil w
      go_wp2_with ((first | (go_at_call 23; refine (hr _).mono ?_) | (go_at_call 20; refine (kn _).mono ?_)); rintro q wq ⟨rfl, hwq⟩; replace hwq := hwq.symm; subst hwq)
      go_ret
      exact ⟨rfl, hb12⟩
    · subst hn0
      have hET := HTV.out w2 hb12
      have kh := kind_hit e k 0 .nilIface w2 hB hET
      have kh2 : ∀ w', Below w2.heap.size w2 w' → Calls Tryz.prog 21 #[fltV e] w' fun r w'' => r = .returned (.int .i64 0) ∧ Below w'.heap.size w' w'' := fun w' hb => at_hit e k 0 .nilIface w' (hB.later hb hB.lt) (HTV.out w' (hb12.trans (hb.mono hb12.size)))
      have hz2 := hb12.size
      unfold fltV at *
      go_wp2_with (first | (go_at_call 23; refine (hr _).mono ?_; rintro q wq ⟨rfl, hwq⟩; replace hwq := hwq.symm; subst hwq) | (go_at_call 20; refine kh.mono ?_; rintro q w3 ⟨rfl, hb3⟩) | (go_at_call 21; refine (kh2 _ hb3).mono ?_; rintro q w4 ⟨rfl, hb4⟩))
      go_ret
      exact ⟨rfl, (hb12.trans (hb3.mono hz2)).trans (hb4.mono (Nat.le_trans hz2 hb3.size))⟩

/-- What a row's list gives of strconv.ErrRange, where it stands fourth among the plain ones. -/
theorem hasERv_4 {W : World} {a b c : String × DataW Unit} {text : List UInt8} {r : List (String × DataW Unit)}
    (h : laidMet Tryz.prog (a :: b :: c :: ("strconv.ErrRange", .iface "*errors.errorString" (.ptr (.agg [.lit (.string text)]))) :: r) W) : HasERv W := by
  obtain ⟨a1, s1, hv1, _, _, _⟩ := laid_sentinel (laidMet_tail (laidMet_tail (laidMet_tail h))) Tryz.gER Tryz.gERType Tryz.underlying35 Tryz.rowES Tryz.underlying170 Tryz.underlying172 rfl rfl Tryz.underlying9 Tryz.cellsES Tryz.cellsStr
  exact ⟨a1, hv1, by simpa using World.var?_cell Tryz.gER hv1 0⟩
end

section
open Go.ChangeShapes Go.WideShapes Go.RowKit

theorem Tryz.et : Tryz.prog.globalNamed "errors.errorType" = some 1 := by kernel_rfl
theorem Tryz.rt : (Tryz.prog.cutTypes.find? (·.1 == "internal/reflectlite.rtype")).map (·.2) = some 124 := by kernel_rfl
theorem Tryz.oneRow : ((List.range 226).filter fun t => Tryz.prog.rowNamed t [101, 114, 114, 111, 114]) = [35] := by kernel_rfl
theorem Tryz.sizeTypes : Tryz.prog.types.size = 226 := by kernel_rfl

theorem hasET_of_handles {W : World} {d : DataW Unit} (hd : d.handleName? = some [101, 114, 114, 111, 114]) (hf : d.funcsIn? = none) (h : handlesMet Tryz.prog [("errors.errorType", d)] W) : HasET W := by
  have h1 := h _ (List.mem_singleton.2 rfl)
  simp only [hf] at h1
  obtain ⟨name, u, ty, e1, e2, e3, e4, e5⟩ := h1
  have en : name = [101, 114, 114, 111, 114] := (Option.some.inj (hd.symm.trans e1)).symm
  subst en
  obtain rfl := Option.some.inj (Tryz.rt.symm.trans e2)
  have hm : ty ∈ (List.range 226).filter fun t => Tryz.prog.rowNamed t [101, 114, 114, 111, 114] := List.mem_filter.2 ⟨List.mem_range.2 (by rw [← Tryz.sizeTypes]; exact e3), e4⟩
  rw [Tryz.oneRow] at hm
  obtain rfl := List.mem_singleton.1 hm
  have hh : typeHandle Tryz.prog 35 = .pointer (some ⟨10, 35, none⟩) := by kernel_rfl
  rw [hh] at e5
  unfold HasET
  simpa using World.var?_cell Tryz.et e5 0
end
end Go.Proofs.YticlkjkombgchaaGreatDoor
