/- The set of an An+B: walks. -/
import Derived.Test.YtcfcoojnjdoeeaaDoorNthT
namespace Go.Proofs.YtcfcoojnjdoeeaaDoor
open Go.RowKit

def headF (a b : Int) : Nat := if 0 < a then (max 0 (max 0 b - a)).toNat else (max 0 b).toNat
def roundF (a : Int) : Nat := if 0 < a then a.toNat else 1
/-- The numbers of an An+B. -/
def hasN (a b : Int) (n : Nat) : Bool := hasF a b n

theorem mul_pos_of {a q : Int} (ha : 0 < a) (h : -a < a * q) : 0 ≤ a * q := by
  refine (sign_mul ha).2 ?_
  rcases Int.lt_or_le q 0 with hq | hq
  · have := Int.mul_le_mul_of_nonneg_left (show q ≤ -1 by omega) (show 0 ≤ a by omega)
    omega
  · exact hq

theorem least_of (a b : Int) : LeastP (hasN a b) (headF a b) (roundF a) := by
  unfold headF roundF hasN
  by_cases ha : 0 < a
  · rw [if_pos ha, if_pos ha]
    obtain ⟨A, rfl⟩ : ∃ A : Nat, a = A := ⟨a.toNat, by omega⟩
    have hS : ∀ n : Nat, 1 ≤ n → hasF A b n = (decide (b ≤ n) && decide (((n : Int) - b) % A = 0)) := fun n hn => by
      unfold hasF; rw [decide_eq_true (by omega), if_pos ha]; rfl
    have hmod : ∀ n : Nat, ((n + A : Nat) - b : Int) % A = (n - b) % A := fun n => by
      have : ((n + A : Nat) - b : Int) = (n - b) + A := by omega
      rw [this, Int.add_emod_right]
    refine ⟨by omega, fun n hn => ?_, ?_, fun q hq ⟨k, hk⟩ => ?_⟩
    · have hn' : b - A < n ∧ 1 ≤ n := by omega
      show hasF A b (n + (A : Int).toNat : Nat) = hasF A b n
      rw [Int.toNat_natCast, hS _ (by omega), hS n hn'.2, hmod]
      by_cases hz : ((n : Int) - b) % A = 0
      · have hd : ∃ q, (n : Int) - b = A * q := Int.dvd_of_emod_eq_zero hz
        obtain ⟨q, hq⟩ := hd
        have := mul_pos_of (q := q) ha (by omega)
        rw [decide_eq_true (show b ≤ ((n + A : Nat) : Int) by omega), decide_eq_true (show b ≤ (n : Int) by omega)]
      · rw [decide_eq_false hz, Bool.and_false, Bool.and_false]
    · by_cases hb : b ≤ A
      · exact .inl (by omega)
      · right
        have e : (max 0 (max 0 b - (A : Int))).toNat = (b - A).toNat := by omega
        rw [e, Int.toNat_natCast, hS _ (by omega), hS _ (by omega), decide_eq_false (show ¬ b ≤ ((b - A).toNat : Int) by omega), decide_eq_true (show b ≤ (((b - A).toNat + A : Nat) : Int) by omega)]
        have : ((((b - A).toNat + A : Nat) : Int) - b) = 0 := by omega
        rw [this]; simp
    · rw [Int.toNat_natCast]
      -- a number of the set far out
      have hn := hk (b + A * (k + b.natAbs + 1 : Nat)).toNat ?_
      · have hM : (k + b.natAbs + 1 : Int) ≤ A * (k + b.natAbs + 1 : Nat) := by
          have := Int.mul_le_mul_of_nonneg_right (show (1 : Int) ≤ A by omega) (show (0 : Int) ≤ (k + b.natAbs + 1 : Nat) by omega)
          omega
        rw [hS _ (by omega), hS _ (by omega)] at hn
        have e1 : (((b + A * (k + b.natAbs + 1 : Nat)).toNat : Nat) : Int) = b + A * (k + b.natAbs + 1 : Nat) := by omega
        have e2 : ((((b + A * (k + b.natAbs + 1 : Nat)).toNat + q : Nat) : Nat) : Int) = b + A * (k + b.natAbs + 1 : Nat) + q := by omega
        rw [e1, e2] at hn
        have z1 : (b + (A : Int) * (k + b.natAbs + 1 : Nat) - b) % A = 0 := by
          rw [show b + (A : Int) * (k + b.natAbs + 1 : Nat) - b = A * (k + b.natAbs + 1 : Nat) by omega]
          exact Int.mul_emod_right _ _
        rw [z1] at hn
        have e3 : (b + (A : Int) * (k + b.natAbs + 1 : Nat) + q - b) % A = q % A := by
          rw [show b + (A : Int) * (k + b.natAbs + 1 : Nat) + q - b = q + A * (k + b.natAbs + 1 : Nat) by omega, Int.add_mul_emod_self_left]
        rw [e3, decide_eq_true (show b ≤ b + (A : Int) * (k + b.natAbs + 1 : Nat) by omega)] at hn
        have hz : (q : Int) % A = 0 := by
          by_cases h : (q : Int) % A = 0
          · exact h
          · rw [decide_eq_false h] at hn; simp at hn
        have hd : A ∣ q := by
          have := Int.dvd_of_emod_eq_zero hz
          exact Int.natCast_dvd_natCast.1 this
        exact Nat.le_of_dvd hq hd
      · have hM : (k + b.natAbs + 1 : Int) ≤ A * (k + b.natAbs + 1 : Nat) := by
          have := Int.mul_le_mul_of_nonneg_right (show (1 : Int) ≤ A by omega) (show (0 : Int) ≤ (k + b.natAbs + 1 : Nat) by omega)
          omega
        omega
  · rw [if_neg ha, if_neg ha]
    have hS : ∀ n : Nat, b < n → hasF a b n = false := fun n hn => by
      unfold hasF
      rw [if_neg ha]
      by_cases h : a < 0
      · rw [if_pos h, decide_eq_false (show ¬ (n : Int) ≤ b by omega)]; simp
      · rw [if_neg h, decide_eq_false (show ¬ (n : Int) = b by omega)]; simp
    refine ⟨Nat.le_refl _, fun n hn => ?_, ?_, fun q hq _ => hq⟩
    · show hasF a b (n + 1 : Nat) = hasF a b n
      rw [hS _ (by omega), hS _ (by omega)]
    · by_cases hb : b ≤ 0
      · exact .inl (by omega)
      · right
        rw [show (max 0 b).toNat = b.toNat by omega, hS (b.toNat + 1) (by omega)]
        have : hasF a b (b.toNat : Nat) = true := by
          rw [show ((b.toNat : Nat) : Int) = b by omega]
          unfold hasF
          rw [decide_eq_true (by omega), if_neg ha]
          by_cases h : a < 0
          · rw [if_pos h, Int.sub_self]; simp
          · rw [if_neg h]; simp
        rw [this]; simp

theorem ret_tup {a b c d : Int} (h : a = c) (h2 : b = d) : Ending.returned (.tuple #[.int .i64 a, .int .i64 b]) = Ending.returned (.tuple #[.int .i64 c, .int .i64 d]) := by rw [h, h2]

set_option maxRecDepth 100000 in
set_option maxHeartbeats 1000000 in
theorem partsF_any (a b : Int) (w : World) (ha : -1099511627776 ≤ a ∧ a ≤ 1099511627776) (hb : -1099511627776 ≤ b ∧ b ≤ 1099511627776) :
    Calls Tryd.prog 28 #[.agg #[.int .i64 a, .int .i64 b]] w (ToldB (.tuple #[.int .i64 (headF a b : Nat), .int .i64 (roundF a : Nat)]) w) := by
  obtain ⟨a1, a2⟩ := ha
  obtain ⟨b1, b2⟩ := hb
  by_cases h : 0 < a
  · have e1 : ((headF a b : Nat) : Int) = max 0 (max 0 b - a) := by unfold headF; rw [if_pos h]; omega
    have e2 : ((roundF a : Nat) : Int) = a := by unfold roundF; rw [if_pos h]; omega
    rw [e1, e2]
    clear e1 e2
    by_cases hb : 0 < b
    · have hb' : ¬ b < 0 := by omega
      go_enter Tryd.func28, Tryd.ntmps28
      go_wp2
      go_quiet (fail)
      go_wp2
      all_goals
        go_ret2
        exact ⟨ret_tup (by omega) rfl, below_drewN ((Below.refl _ w).alloc (Nat.le_refl _) _) _⟩
    · go_enter Tryd.func28, Tryd.ntmps28
      go_wp2
      go_quiet (fail)
      go_wp2
      go_ret2
      exact ⟨ret_tup (by omega) rfl, below_drewN ((Below.refl _ w).alloc (Nat.le_refl _) _) _⟩
  · have e1 : ((headF a b : Nat) : Int) = max 0 b := by unfold headF; rw [if_neg h]; omega
    have e2 : ((roundF a : Nat) : Int) = 1 := by unfold roundF; rw [if_neg h]; rfl
    rw [e1, e2]
    clear e1 e2
    by_cases hb : 0 < b
    all_goals
      go_enter Tryd.func28, Tryd.ntmps28
      go_wp2
      go_ret2
      exact ⟨ret_tup (by omega) rfl, (Below.refl _ w).alloc (Nat.le_refl _) _⟩

set_option maxRecDepth 100000 in
set_option maxHeartbeats 1000000 in
theorem of1_any (a b : Int) (n bx : Nat) (w : World) (ha : -1099511627776 ≤ a ∧ a ≤ 1099511627776) (hb : -1099511627776 ≤ b ∧ b ≤ 1099511627776) (hn : n ≤ 1099511627776)
    (c0 : w.cell? ⟨bx, 0, none⟩ = some (.int .i64 a)) (c1 : w.cell? ⟨bx, 1, none⟩ = some (.int .i64 b)) :
    Calls Tryd.prog 30 #[.int .i64 n, .pointer (some ⟨bx, 0, none⟩)] w (ToldB (.bool (hasN a b n)) w) := by
  have hc := fun w => has_any a b n w ha hb ⟨by omega, by omega⟩
  have e : hasF a b n = hasN a b n := rfl
  rw [e] at hc
  clear e ha hb
  go_enter Tryd.func30, Tryd.ntmps30
  go_wp2_with (go_at_call 31; refine (hc _).mono ?_; rintro e w' ⟨rfl, hw⟩; replace hw := hw.symm; subst hw)
  go_ret
  exact ⟨rfl, Below.refl _ _⟩

theorem of1_enters : ∀ args w, (callFunc 30 args).run Tryd.prog w = .ok (.enter 30 args) w := enters_of Tryd.func30 (by kernel_rfl) rfl

set_option maxRecDepth 100000 in
set_option maxHeartbeats 1000000 in
theorem of_any (a b : Int) (w : World) (ha : -1099511627776 ≤ a ∧ a ≤ 1099511627776) (hb : -1099511627776 ≤ b ∧ b ≤ 1099511627776) (hsz : headF a b + roundF a ≤ 4096) :
    Calls Tryd.prog 11 #[.agg #[.int .i64 a, .int .i64 b]] w (GivesSetE (hasN a b) (headF a b) (roundF a) w) := by
  have B1 : Below w.heap.size w ((w.alloc (.cells #[.int .i64 a, .int .i64 b] 23)).alloc (.cells #[.int .i64 0, .slice none 0 0] 28)) := ((Below.refl _ w).alloc (Nat.le_refl _) _).alloc (by simp) _
  have hX := Lib.hid ((Blk.alloc (w := w) [.int .i64 a, .int .i64 b] 23).alloc_old (.cells #[.int .i64 0, .slice none 0 0] 28))
  have hA := Lib.hid (Blk.alloc (w := w.alloc (.cells #[.int .i64 a, .int .i64 b] 23)) [.int .i64 0, .slice none 0 0] 28)
  have hP := fun w => partsF_any a b w ha hb
  have hO := Lib.hid (fun n bx w hn => of1_any a b n bx w ha hb hn)
  have L := Lib.hid (least_of a b)
  generalize headF a b = h at *
  generalize roundF a = p at *
  clear ha hb
  go_enter Tryd.func11, Tryd.ntmps11
  go_wp2_with (first
    | (go_at_call 28; refine (hP _).mono ?_; rintro e w1 ⟨rfl, hb1⟩))
  have hXl := lt_of_block hX.out
  have hAl := lt_of_block hA.out
  have hX1 := Lib.hid (hX.out.later hb1 hXl)
  have hA1 := Lib.hid (hA.out.later hb1 hAl)
  have B2 := B1.trans (hb1.mono B1.size)
  have hs1 := hb1.size
  clear hX hA hP
  refine (bounded_any 30 #[.pointer (some ⟨w.heap.size, 0, none⟩)] (hasN a b) h p L.out hsz w1 ⟨of1_enters, fun W n hW h1 h2 => ?_⟩).mono ?_
  · have hXW := hX1.out.later hW (lt_of_block hX1.out)
    exact hO.out n w.heap.size W (by omega) (hXW.cell 0 _ rfl) (hXW.cell 1 _ rfl)
  · rintro e w2 ⟨v, rfl, hs, hf, hb2⟩
    have hs' := Lib.hid hs
    obtain ⟨-, -, a', n', cap', rfl, -⟩ := hs
    have hA2 := hA1.out.later hb2 (lt_of_block hA1.out)
    have e1 : (w.alloc (.cells #[.int .i64 a, .int .i64 b] 23)).heap.size = w.heap.size + 1 := by simp
    rw [e1] at hA2
    have hA20 := hA2.cell 0 _ rfl
    have hA21 := hA2.cell 1 _ rfl
    have fA20 := hA2.frozen 0
    have fA21 := hA2.frozen 1
    have B3 := B2.trans (hb2.mono B2.size)
    have hw1 : w.heap.size + 1 + 1 ≤ w1.heap.size := by simpa using hs1
    have hf' := hf.mono (C := w.heap.size + 1 + 1) (by omega)
    have hs3 := isSet_setCell (isSet_setCell hs'.out _ ⟨w.heap.size + 1, 0, none⟩ (.int .i64 h) hf' (by simp)) _ ⟨w.heap.size + 1, 1, none⟩ (.slice a' n' cap') hf' (by simp)
    have B4 := (B3.setCell (p := ⟨w.heap.size + 1, 0, none⟩) (by simp) (.int .i64 h)).setCell (p := ⟨w.heap.size + 1, 1, none⟩) (by simp) (.slice a' n' cap')
    have hf3 := hf'.mono (C := w.heap.size + 1) (by omega)
    have HS := Lib.hid hs3
    have HF := Lib.hid hf3
    clear hs3 hs' hf hf' hf3 hA2 hX1 hA1 hO
    go_wp2
    exact bodyPost_ret (v := .tuple #[.agg #[.int .i64 h, .slice a' n' cap'], .nilIface]) (by simp [results, Tryd.results11, go_sem, hA20, hA21]) rfl ⟨_, rfl, HS.out, HF.out, B4⟩

theorem isSet_val {w : World} {v : Value} {S : Nat → Bool} {h p : Nat} (s : IsSet w v S h p) : ∃ a n cap, v = .agg #[.int .i64 h, .slice a n cap] := by
  obtain ⟨-, -, a, n, cap, rfl, -⟩ := s
  exact ⟨a, n, cap, rfl⟩

set_option maxRecDepth 100000 in
set_option maxHeartbeats 1000000 in
/-- The examples of the document. -/
theorem speaks5_any (w : World) : Calls Tryd.prog 9 #[] w (ToldB (.bool true) w) := by
  have hO1 := fun w => of_any 2 1 w (by omega) (by omega) (by decide)
  have hO2 := fun w => of_any (-1) 3 w (by omega) (by omega) (by decide)
  rw [show headF 2 1 = 0 by decide, show roundF 2 = 2 by decide] at hO1
  rw [show headF (-1) 3 = 3 by decide, show roundF (-1) = 1 by decide] at hO2
  go_enter Tryd.func9, Tryd.ntmps9
  go_wp2_with fail
  refine (hO1 _).mono ?_
  rintro e w1 ⟨v1, rfl, hs1, -, hb1⟩
  obtain ⟨a1, n1, c1, rfl⟩ := isSet_val hs1
  have hs1' : IsSet w1 (.agg #[.int .i64 0, .slice a1 n1 c1]) (hasN 2 1) 0 2 := hs1
  have h1 := Lib.hid (hs1'.later ((Below.refl _ w1).alloc (Nat.le_refl _) (.cells #[.int .i64 0, .slice a1 n1 c1] 28)))
  have hc1 := Blk.alloc (w := w1) [.int .i64 0, .slice a1 n1 c1] 28
  have B1 := hb1.alloc hb1.size (.cells #[.int .i64 0, .slice a1 n1 c1] 28)
  clear hs1 hs1'
  go_wp2_with fail
  refine (hO2 _).mono ?_
  rintro e w2 ⟨v2, rfl, hs2, -, hb2⟩
  obtain ⟨a2, n2, c2, rfl⟩ := isSet_val hs2
  have hs2' : IsSet w2 (.agg #[.int .i64 3, .slice a2 n2 c2]) (hasN (-1) 3) 3 1 := hs2
  have h2 := Lib.hid (hs2'.later ((Below.refl _ w2).alloc (Nat.le_refl _) (.cells #[.int .i64 3, .slice a2 n2 c2] 28)))
  have B2 := B1.trans (hb2.mono B1.size)
  have B3 := B2.alloc B2.size (.cells #[.int .i64 3, .slice a2 n2 c2] 28)
  have h12 := Lib.hid ((h1.out.later hb2).later ((Below.refl _ w2).alloc (Nat.le_refl _) (.cells #[.int .i64 3, .slice a2 n2 c2] 28)))
  have hc12 := (hc1.later hb2 (lt_of_block hc1)).alloc_old (.cells #[.int .i64 3, .slice a2 n2 c2] 28)
  have hc2 := Blk.alloc (w := w2) [.int .i64 3, .slice a2 n2 c2] 28
  have c10 := hc12.cell 0 _ rfl
  have c11 := hc12.cell 1 _ rfl
  have hlt2 := lt_of_block hc2
  have HC2 := Lib.hid hc2
  clear hs2 hs2' hc1 hc12 h1 hO1 hO2 hc2
  go_wp2_with fail
  refine (parts_any _ _ _ 0 2 h12.out).mono ?_
  rintro e w3 ⟨rfl, hb3⟩
  have hc23 := HC2.out.later hb3 hlt2
  have c20 := hc23.cell 0 _ rfl
  have c21 := hc23.cell 1 _ rfl
  have B4 := B3.trans (hb3.mono B3.size)
  have h23 := Lib.hid (h2.out.later hb3)
  clear hc23 h12 h2
  go_wp2_with fail
  refine (parts_any _ _ _ 3 1 h23.out).mono ?_
  rintro e w4 ⟨rfl, hb4⟩
  have B5 := B4.trans (hb4.mono B4.size)
  go_wp2
  go_ret
  exact ⟨rfl, B5⟩
end Go.Proofs.YtcfcoojnjdoeeaaDoor
