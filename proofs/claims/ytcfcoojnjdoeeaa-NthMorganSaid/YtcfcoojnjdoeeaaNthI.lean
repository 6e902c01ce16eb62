/- Whether a set is the one that a row tells: walks. -/
import Derived.Test.YtcfcoojnjdoeeaaNthR
namespace Go.Proofs.Ytcfcoojnjdoeeaa
open Go.RowKit

/-- The first true one that was seen, among so many. -/
def fs (S : Nat → Bool) : Nat → Nat
  | 0 => 0
  | k + 1 => if S (k + 1) = true ∧ fs S k = 0 then k + 1 else fs S k
theorem fs_spec (S : Nat → Bool) (k : Nat) : (fs S k = 0 ∧ ∀ i, i < k → S (i + 1) = false) ∨ ∃ j, fs S k = j + 1 ∧ j < k ∧ S (j + 1) = true ∧ ∀ i, i < j → S (i + 1) = false := by
  induction k with
  | zero => exact .inl ⟨rfl, fun i h => by omega⟩
  | succ k ih =>
    unfold fs
    rcases ih with ⟨h1, h2⟩ | ⟨j, h1, h2, h3, h4⟩
    · by_cases c : S (k + 1) = true
      · rw [if_pos ⟨c, h1⟩]
        exact .inr ⟨k, rfl, by omega, c, h2⟩
      · rw [if_neg (fun h => c h.1)]
        refine .inl ⟨h1, fun i hi => ?_⟩
        rcases Nat.lt_or_ge i k with h | h
        · exact h2 i h
        · obtain rfl : i = k := by omega
          simpa using c
    · rw [if_neg (fun h => by omega)]
      exact .inr ⟨j, h1, by omega, h3, h4⟩
theorem firstT_spec (f : Nat → Bool) (n : Nat) : ∀ k, k ≤ n → (∀ i, i < n - k → f i = false) → (firstT f n k = -1 ∧ ∀ i, i < n → f i = false) ∨ ∃ j : Nat, firstT f n k = j ∧ j < n ∧ f j = true ∧ ∀ i, i < j → f i = false
  | 0, _, h => .inl ⟨rfl, fun i hi => h i (by omega)⟩
  | k + 1, hk, h => by
    unfold firstT
    by_cases c : f (n - (k + 1)) = true
    · rw [if_pos c]
      exact .inr ⟨n - (k + 1), rfl, by omega, c, h⟩
    · rw [if_neg c]
      refine firstT_spec f n k (by omega) (fun i hi => ?_)
      rcases Nat.lt_or_ge i (n - (k + 1)) with h' | h'
      · exact h i h'
      · obtain rfl : i = n - (k + 1) := by omega
        simpa using c
theorem fs_least {S : Nat → Bool} {h p N : Nat} (L : LeastP S h p) (hN : h + p ≤ N) : ((fs S N : Nat) : Int) = leastF S (h + p) := by
  unfold leastF
  rcases firstT_spec (fun i => S (i + 1)) (h + p) (h + p) (Nat.le_refl _) (fun i hi => by omega) with ⟨e, ha⟩ | ⟨j, e, hj, hS, hl⟩
  · rw [e]
    rcases fs_spec S N with ⟨e2, _⟩ | ⟨j, e2, hj, hS, _⟩
    · rw [e2]; rfl
    · exfalso
      have hf := foldN_lt (h := h) L.pos (show 1 ≤ j + 1 by omega)
      have := ha (foldN h p (j + 1) - 1) (by omega)
      simp only [Nat.sub_add_cancel hf.1, foldN_of L.per] at this
      rw [hS] at this
      cases this
  · rw [e]
    rcases fs_spec S N with ⟨e2, ha⟩ | ⟨j2, e2, hj2, hS2, hl2⟩
    · have := ha j (by omega)
      rw [hS] at this
      cases this
    · rcases Nat.lt_trichotomy j j2 with c | c | c
      · have := hl2 j c
        rw [hS] at this; cases this
      · rw [e2, c]; rfl
      · have := hl j2 c
        simp only [hS2] at this; cases this

set_option maxRecDepth 100000 in
set_option maxHeartbeats 4000000 in
theorem is_any (w : World) (v : Value) (S : Nat → Bool) (h p : Nat) (a : Option Addr) (cap : Nat) (hs : IsSet w v S h p) (hsz : h + p ≤ 200) (hr : RdB w a 400 cap (fun i => S (i + 1))) :
    Calls Try.prog 11 #[v, .slice a 400 cap] w (ToldB (.bool true) w) := by
  have L := Lib.hid hs.parts
  have H := Lib.hid hs
  obtain ⟨a', m, c, rfl⟩ := isSet_val hs
  clear hs
  have HR := Lib.hid hr
  clear hr
  have B1 : Below w.heap.size w (w.alloc (.cells #[.int .i64 h, .slice a' m c] 28)) := ((Below.refl _ w).alloc (Nat.le_refl _) _)
  have hX := Lib.hid (Blk.alloc (w := w) [.int .i64 h, .slice a' m c] 28)
  go_enter Try.func11, Try.ntmps11
  go_wp2_with fail
  refine (hasS_low _ _ S h p (H.out.later B1) 0 (by omega)).mono ?_
  rintro e w1 ⟨rfl, hb1⟩
  have B2 := B1.trans (hb1.mono B1.size)
  have hX1 := hX.out.later hb1 (lt_of_block hX.out)
  have c0 := hX1.cell 0 _ rfl
  have c1 := hX1.cell 1 _ rfl
  go_wp2_with fail
  refine (hasS_low _ _ S h p (H.out.later B2) (-5) (by omega)).mono ?_
  rintro e w2 ⟨rfl, hb2⟩
  have B3 := B2.trans (hb2.mono B2.size)
  have hX2 := hX1.later hb2 (lt_of_block hX1)
  have c0 := hX2.cell 0 _ rfl
  have c1 := hX2.cell 1 _ rfl
  go_wp2_with fail
  refine (least_any _ _ S h p (H.out.later B3)).mono ?_
  rintro e w3 ⟨rfl, hb3⟩
  have B4 := Lib.hid (B3.trans (hb3.mono B3.size))
  have hX3 := Lib.hid (hX2.later hb3 (lt_of_block hX2))
  have hFL := Lib.hid (fs_least (N := 400) L.out (by omega))
  generalize leastF S (h + p) = lf at *
  clear hX hX1 hX2 c0 c1 hb1 hb2 hb3 B1 B2 B3
  go_wp2
  go_loopw [7, 8, 9, 27] (fun fv _ _ i wr => ∃ k : Nat, k ≤ 400 ∧ i = .int .i64 k ∧ fv = .int .i64 (fs S k : Nat) ∧ Blk wr w.heap.size [.int .i64 h, .slice a' m c] 28 ∧ Below w.heap.size w wr) (fun _ _ _ i _ => 400 - (intOf i).toNat)
  case atStart => exact ⟨0, by omega, rfl, rfl, hX3.out, B4.out⟩
  case round =>
    obtain ⟨k, hk, rfl, rfl, hX, hbl⟩ := hrel
    clear B4 hX3
    by_cases hlt : k < 400
    · obtain ⟨b, off, rfl, hc⟩ := rdB_at (HR.out.later hbl) k hlt
      have hkI : (0 : Int) ≤ (k : Int) := by omega
      have hkI2 : (k : Int) < 400 := by omega
      have c0 := hX.cell 0 _ rfl
      have c1 := hX.cell 1 _ rfl
      have hSr := H.out.later hbl
      have cH := fun w' (hs : IsSet w' (.agg #[.int .i64 h, .slice a' m c]) S h p) => hasS_any w' _ S h p hs (k + 1) ⟨by omega, by omega⟩
      rw [show ((k + 1 : Nat) : Int) = (k : Int) + 1 by omega] at cH
      have hfs : fs S (k + 1) = if S (k + 1) = true ∧ fs S k = 0 then k + 1 else fs S k := rfl
      have HX := Lib.hid hX
      clear hX
      cases hv : S (k + 1)
      · rw [hv] at hc cH hfs
        have HF := Lib.hid (show fs S (k + 1) = fs S k from hfs)
        clear hfs hv
        generalize fs S k = fk at *
        have nr : (false != false) = false := rfl
        go_wp2_with (go_at_call 22; refine (cH _ hSr).mono ?_; rintro e w5 ⟨rfl, hb5⟩)
        have B6 := hbl.trans (hb5.mono hbl.size)
        have hX6 := HX.out.later hb5 (lt_of_block HX.out)
        go_roundw
        case rel => exact ⟨k + 1, by omega, by go_num, by rw [HF.out] <;> first | rfl | go_num, hX6, B6⟩
        case measure => simp [intOf]; omega
      · rw [hv] at hc cH hfs
        by_cases hz : fs S k = 0
        · rw [if_pos ⟨rfl, hz⟩] at hfs
          rw [hz]
          have HF := Lib.hid hfs
          clear hfs hv hz
          go_wp2_with (go_at_call 22; refine (cH _ hSr).mono ?_; rintro e w5 ⟨rfl, hb5⟩)
          have B6 := hbl.trans (hb5.mono hbl.size)
          have hX6 := HX.out.later hb5 (lt_of_block HX.out)
          go_roundw
          case rel => exact ⟨k + 1, by omega, by go_num, by rw [HF.out] <;> first | rfl | go_num, hX6, B6⟩
          case measure => simp [intOf]; omega
        · rw [if_neg (fun x => hz x.2)] at hfs
          have HF := Lib.hid hfs
          clear hfs hv
          generalize fs S k = fk at *
          have nz : ((fk : Int) == 0) = false := beq_eq_false_iff_ne.2 (by omega)
          go_wp2_with (go_at_call 22; refine (cH _ hSr).mono ?_; rintro e w5 ⟨rfl, hb5⟩)
          have B6 := hbl.trans (hb5.mono hbl.size)
          have hX6 := HX.out.later hb5 (lt_of_block HX.out)
          go_roundw
          case rel => exact ⟨k + 1, by omega, by go_num, by rw [HF.out] <;> first | rfl | go_num, hX6, B6⟩
          case measure => simp [intOf]; omega
    · obtain rfl : k = 400 := by omega
      have hlf := hFL.out
      generalize fs S 400 = fk at *
      subst hlf
      have c0 := hX.cell 0 _ rfl
      have c1 := hX.cell 1 _ rfl
      have hSr := Lib.hid (H.out.later hbl)
      have hRr := Lib.hid (HR.out.later hbl)
      have n1 : ((fk : Int) == (fk : Int)) = true := beq_self_eq_true _
      have n2 : ((h : Int) == (h : Int)) = true := beq_self_eq_true _
      have n3 : ((p : Int) == (p : Int)) = true := beq_self_eq_true _
      have n4 : (decide (0 < (fk : Int)) == decide (0 < (fk : Int))) = true := beq_self_eq_true _
      clear hX hFL
      go_wp2_with (first
        | (go_at_call 23; refine (parts_any _ _ S h p hSr.out).mono ?_; rintro e w6 ⟨rfl, hb6⟩)
        | (go_at_call 29; refine (rparts_any a cap S h p _ (hRr.out.later hb6) L.out hsz).mono ?_; rintro e w7 ⟨rfl, hb7⟩))
      all_goals
        go_ret
        exact ⟨rfl, (hbl.trans (hb6.mono hbl.size)).trans (hb7.mono (Nat.le_trans hbl.size hb6.size))⟩
end Go.Proofs.Ytcfcoojnjdoeeaa
