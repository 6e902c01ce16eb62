/- What sets tell of one another: Not, Same, Least: walks. -/
import Derived.Test.YtcfcoojnjdoeeaaNthO
namespace Go.Proofs.Ytcfcoojnjdoeeaa
open Go.RowKit

set_option maxRecDepth 100000 in
set_option maxHeartbeats 1000000 in
theorem not1_any (v : Value) (S : Nat → Bool) (h p : Nat) (n bx : Nat) (w : World) (hs : IsSet w v S h p) (hn : 1 ≤ n ∧ n ≤ 4611686018427387904) (hT : ∃ a m c, v = .agg #[.int .i64 h, .slice a m c] ∧ Blk w bx [.int .i64 h, .slice a m c] 28) :
    Calls Try.prog 31 #[.int .i64 n, .pointer (some ⟨bx, 0, none⟩)] w (ToldB (.bool (!S n)) w) := by
  obtain ⟨a, m, c, rfl, hB⟩ := hT
  have c0 := hB.cell 0 _ rfl
  have c1 := hB.cell 1 _ rfl
  have hc := hasS_any w _ S h p hs n hn
  clear hs hB hn
  go_enter Try.func31, Try.ntmps31
  go_wp2_with (go_at_call 22; refine (hc).mono ?_; rintro e w' ⟨rfl, hb⟩)
  go_ret
  exact ⟨rfl, hb⟩

theorem not1_enters : ∀ args w, (callFunc 31 args).run Try.prog w = .ok (.enter 31 args) w := enters_of Try.func31 (by kernel_rfl) rfl

set_option maxRecDepth 100000 in
set_option maxHeartbeats 2000000 in
theorem not_any (w : World) (v : Value) (S : Nat → Bool) (h p : Nat) (hs : IsSet w v S h p) :
    Calls Try.prog 12 #[v] w (GivesSet (fun n => !S n) h p w) := by
  have L := Lib.hid hs.parts
  have hsz := hs.small
  have H := Lib.hid hs
  obtain ⟨a, m, c, rfl⟩ := isSet_val hs
  clear hs
  have B1 : Below w.heap.size w ((w.alloc (.cells #[.int .i64 h, .slice a m c] 28)).alloc (.cells #[.int .i64 0, .slice none 0 0] 28)) := ((Below.refl _ w).alloc (Nat.le_refl _) _).alloc (by simp) _
  have hX := Lib.hid ((Blk.alloc (w := w) [.int .i64 h, .slice a m c] 28).alloc_old (.cells #[.int .i64 0, .slice none 0 0] 28))
  have hA := Lib.hid (Blk.alloc (w := w.alloc (.cells #[.int .i64 h, .slice a m c] 28)) [.int .i64 0, .slice none 0 0] 28)
  have H1 := Lib.hid (H.out.later B1)
  have c0 := hX.out.cell 0 _ rfl
  have c1 := hX.out.cell 1 _ rfl
  go_enter Try.func12, Try.ntmps12
  go_wp2_with fail
  refine (parts_any _ _ S h p H1.out).mono ?_
  rintro e w1 ⟨rfl, hb1⟩
  have hXl := lt_of_block hX.out
  have hAl := lt_of_block hA.out
  have hX1 := Lib.hid (hX.out.later hb1 hXl)
  have hA1 := Lib.hid (hA.out.later hb1 hAl)
  have B2 := B1.trans (hb1.mono B1.size)
  have hs1 := hb1.size
  have HS1 := Lib.hid (H1.out.later hb1)
  clear hX hA H1 c0 c1
  go_wp2_with fail
  refine (told_any 31 #[.pointer (some ⟨w.heap.size, 0, none⟩)] (fun n => !S n) h p hsz w1 ⟨not1_enters, fun W n hW h1 h2 => ?_⟩).mono ?_
  · exact not1_any _ S h p n w.heap.size W (HS1.out.later hW) ⟨h1, by omega⟩ ⟨a, m, c, rfl, hX1.out.later hW (lt_of_block hX1.out)⟩
  · rintro e w2 ⟨a', c', rfl, hr, hf, hb2⟩
    have hA2 := hA1.out.later hb2 (lt_of_block hA1.out)
    have e1 : (w.alloc (.cells #[.int .i64 h, .slice a m c] 28)).heap.size = w.heap.size + 1 := by simp
    rw [e1] at hA2
    have hA20 := hA2.cell 0 _ rfl
    have hA21 := hA2.cell 1 _ rfl
    have fA20 := hA2.frozen 0
    have fA21 := hA2.frozen 1
    have B3 := B2.trans (hb2.mono B2.size)
    have hw1 : w.heap.size + 1 + 1 ≤ w1.heap.size := by simpa using hs1
    have hf' := hf.mono (C := w.heap.size + 1 + 1) (by omega)
    have hs' : IsSet w2 (.agg #[.int .i64 h, .slice a' (h + p) c']) (fun n => !S n) h p := ⟨L.out.not, hsz, a', h + p, c', rfl, .inl ⟨rfl, hr⟩⟩
    have hs3 := isSet_setCell (isSet_setCell hs' _ ⟨w.heap.size + 1, 0, none⟩ (.int .i64 h) hf' (by simp)) _ ⟨w.heap.size + 1, 1, none⟩ (.slice a' (h + p) c') hf' (by simp)
    have B4 := (B3.setCell (p := ⟨w.heap.size + 1, 0, none⟩) (by simp) (.int .i64 h)).setCell (p := ⟨w.heap.size + 1, 1, none⟩) (by simp) (.slice a' (h + p) c')
    have hf3 := hf'.mono (C := w.heap.size + 1) (by omega)
    have HS := Lib.hid hs3
    have HF := Lib.hid hf3
    clear hs3 hs' hf hf' hf3 hA2 hX1 hA1 hr HS1 L H
    go_wp2
    exact bodyPost_ret (v := .agg #[.int .i64 h, .slice a' (h + p) c']) (by simp [results, Try.results12, go_sem, hA20, hA21]) rfl ⟨_, rfl, HS.out, HF.out, B4⟩

/-- The first place of a true one. -/
def firstT (f : Nat → Bool) (n : Nat) : Nat → Int
  | 0 => -1
  | k + 1 => if f (n - (k + 1)) then ((n - (k + 1) : Nat) : Int) else firstT f n k

set_option maxRecDepth 100000 in
set_option maxHeartbeats 1000000 in
theorem index_any (a : Option Addr) (n cap : Nat) (f : Nat → Bool) (w : World) (hr : RdB w a n cap f) :
    Calls Try.prog 42 #[.slice a n cap, .bool true] w (ToldB (.int .i64 (firstT f n n)) w) := by
  have hm : n ≤ 9223372036854775807 := by have := hr.1; have := hr.2.1; unfold maxLen at this; omega
  have HR := Lib.hid hr
  obtain ⟨F, hF⟩ : ∃ F, firstT f n n = F := ⟨_, rfl⟩
  have HF := Lib.hid hF
  rw [hF]
  clear hF hr
  go_enter Try.func42, Try.ntmps42
  go_wp2
  go_loop [5, 8] (fun _ i => ∃ k : Nat, k ≤ n ∧ i = .int .i64 k ∧ Hid (firstT f n (n - k) = F)) (fun _ i => n - (intOf i).toNat)
  case atStart => exact ⟨0, by omega, rfl, HF⟩
  case round =>
    obtain ⟨k, hk, rfl, hf⟩ := hrel
    clear HF
    by_cases hlt : k < n
    · obtain ⟨b, off, rfl, hc⟩ := rdB_at HR.out k hlt
      have hkI : (0 : Int) ≤ (k : Int) := by omega
      have hkI2 : (k : Int) < (n : Int) := by omega
      have hf2 := hf.out
      rw [show n - k = (n - (k + 1)) + 1 by omega, firstT, show n - (n - (k + 1) + 1) = k by omega] at hf2
      have HF2 := Lib.hid hf2
      clear hf2 hf
      cases hb : f k
      · rw [hb] at HF2 hc
        clear hb
        have HF3 := Lib.hid (show firstT f n (n - (k + 1)) = F from HF2.out)
        go_wp2
        go_round
        case rel => exact ⟨k + 1, by omega, by go_num, HF3⟩
        case measure => simp [intOf]; omega
      · rw [hb] at HF2 hc
        clear hb
        obtain rfl : (k : Int) = F := HF2.out
        go_wp2
        go_ret
        exact ⟨rfl, Below.refl _ _⟩
    · obtain rfl : k = n := by omega
      obtain rfl : (-1 : Int) = F := by have := hf.out; rw [Nat.sub_self] at this; exact this
      clear hf
      go_wp2
      go_ret
      exact ⟨rfl, Below.refl _ _⟩

set_option maxRecDepth 100000 in
set_option maxHeartbeats 1000000 in
theorem equal_any (a a' : Option Addr) (n n' cap cap' : Nat) (f g : Nat → Bool) (w : World) (hr : RdB w a n cap f) (hr' : RdB w a' n' cap' g) :
    Calls Try.prog 32 #[.slice a n cap, .slice a' n' cap'] w (ToldB (.bool (decide (n = n' ∧ ∀ i, i < n → f i = g i))) w) := by
  have hm : n ≤ 9223372036854775807 := by have := hr.1; have := hr.2.1; unfold maxLen at this; omega
  have hm' : n' ≤ 9223372036854775807 := by have := hr'.1; have := hr'.2.1; unfold maxLen at this; omega
  have HR := Lib.hid hr
  have HR' := Lib.hid hr'
  clear hr hr'
  by_cases hl : n = n'
  · subst hl
    have n0 : ((n : Int) != (n : Int)) = false := by simp
    by_cases hd : ∀ i, i < n → f i = g i
    · rw [decide_eq_true ⟨rfl, hd⟩]
      have HD := Lib.hid hd
      clear hd
      go_enter Try.func32, Try.ntmps32
      go_wp2
      go_loopw [5, 13] (fun _ i wr => ∃ k : Nat, k ≤ n ∧ i = .int .i64 k ∧ Below w.heap.size w wr) (fun _ i _ => n - (intOf i).toNat)
      case atStart => exact ⟨0, by omega, rfl, Below.refl _ _⟩
      case round =>
        obtain ⟨k, hk, rfl, hbl⟩ := hrel
        by_cases hlt : k < n
        · obtain ⟨b, off, rfl, hc⟩ := rdB_at (HR.out.later hbl) k hlt
          obtain ⟨b', off', rfl, hc'⟩ := rdB_at (HR'.out.later hbl) k hlt
          have hkI : (0 : Int) ≤ (k : Int) := by omega
          have hkI2 : (k : Int) < (n : Int) := by omega
          rw [← HD.out k hlt] at hc'
          generalize f k = r at *
          have nr : (r != r) = false := by simp
          go_wp2_with fail
          go_quiet (fail)
          go_wp2
          go_roundw
          case rel => exact ⟨k + 1, by omega, by go_num, below_drewN hbl _⟩
          case measure => simp [intOf]; omega
        · obtain rfl : k = n := by omega
          go_wp2
          go_ret
          exact ⟨rfl, hbl⟩
    · rw [decide_eq_false (fun x => hd x.2)]
      have HD := Lib.hid hd
      clear hd
      go_enter Try.func32, Try.ntmps32
      go_wp2
      go_loopw [5, 13] (fun _ i wr => ∃ k : Nat, k ≤ n ∧ i = .int .i64 k ∧ Hid (∀ j, j < k → f j = g j) ∧ Below w.heap.size w wr) (fun _ i _ => n - (intOf i).toNat)
      case atStart => exact ⟨0, by omega, rfl, Lib.hid (fun j hj => by omega), Below.refl _ _⟩
      case round =>
        obtain ⟨k, hk, rfl, hj, hbl⟩ := hrel
        by_cases hlt : k < n
        · obtain ⟨b, off, rfl, hc⟩ := rdB_at (HR.out.later hbl) k hlt
          obtain ⟨b', off', rfl, hc'⟩ := rdB_at (HR'.out.later hbl) k hlt
          have hkI : (0 : Int) ≤ (k : Int) := by omega
          have hkI2 : (k : Int) < (n : Int) := by omega
          by_cases he : f k = g k
          · have HJ := Lib.hid (show ∀ j, j < k + 1 → f j = g j from fun j h => by
              rcases Nat.lt_or_ge j k with h' | h'
              · exact hj.out j h'
              · obtain rfl : j = k := by omega
                exact he)
            rw [← he] at hc'
            clear he hj
            generalize f k = r at *
            have nr : (r != r) = false := by simp
            go_wp2_with fail
            go_quiet (fail)
            go_wp2
            go_roundw
            case rel => exact ⟨k + 1, by omega, by go_num, HJ, below_drewN hbl _⟩
            case measure => simp [intOf]; omega
          · generalize f k = r at *
            generalize g k = s at *
            cases r <;> cases s
            · exact absurd rfl he
            · clear he
              go_wp2_with fail
              go_quiet (fail)
              go_wp2
              go_ret
              exact ⟨rfl, below_drewN hbl _⟩
            · clear he
              go_wp2_with fail
              go_quiet (fail)
              go_wp2
              go_ret
              exact ⟨rfl, below_drewN hbl _⟩
            · exact absurd rfl he
        · obtain rfl : k = n := by omega
          exact absurd hj.out HD.out
  · rw [decide_eq_false (fun x => hl x.1)]
    have n0 : ((n : Int) != (n' : Int)) = true := by rw [bne, beq_eq_false_iff_ne.2 (by omega)]; rfl
    go_enter Try.func32, Try.ntmps32
    go_wp2
    go_ret
    exact ⟨rfl, Below.refl _ _⟩

theorem ret_tupB {a c : Int} {b d : Bool} (h : a = c) (h2 : b = d) : Ending.returned (.tuple #[.int .i64 a, .bool b]) = Ending.returned (.tuple #[.int .i64 c, .bool d]) := by rw [h, h2]
/-- The least number of a set. -/
def leastF (S : Nat → Bool) (m : Nat) : Int := firstT (fun i => S (i + 1)) m m + 1
theorem firstT_ge (f : Nat → Bool) (n : Nat) : ∀ k, k ≤ n → -1 ≤ firstT f n k ∧ firstT f n k < n
  | 0, _ => ⟨Int.le_refl _, by show (-1 : Int) < n; omega⟩
  | k + 1, h => by
    unfold firstT
    split
    · omega
    · exact firstT_ge f n k (by omega)

set_option maxRecDepth 100000 in
set_option maxHeartbeats 1000000 in
theorem least_any (w : World) (v : Value) (S : Nat → Bool) (h p : Nat) (hs : IsSet w v S h p) :
    Calls Try.prog 28 #[v] w (ToldB (.tuple #[.int .i64 (leastF S (h + p)), .bool (decide (0 < leastF S (h + p)))]) w) := by
  have hsz := hs.small
  obtain ⟨h1, h2, a, n, cap, rfl, h3⟩ := hs
  have B1 : Below w.heap.size w (w.alloc (.cells #[.int .i64 h, .slice a n cap] 28)) := ((Below.refl _ w).alloc (Nat.le_refl _) _)
  have hge := firstT_ge (fun i => S (i + 1)) (h + p) (h + p) (Nat.le_refl _)
  obtain ⟨F, hF, hI⟩ : ∃ F, firstT (fun i => S (i + 1)) (h + p) (h + p) = F ∧ Calls Try.prog 42 #[.slice a n cap, .bool true] (w.alloc (.cells #[.int .i64 h, .slice a n cap] 28)) (ToldB (.int .i64 F) (w.alloc (.cells #[.int .i64 h, .slice a n cap] 28))) := by
    refine ⟨_, rfl, ?_⟩
    rcases h3 with ⟨rfl, h3⟩ | ⟨rfl, rfl, rfl, rfl, rfl, h4⟩
    · exact index_any a _ cap _ _ (h3.later B1)
    · have := index_any none 0 0 (fun i => S (i + 1)) (w.alloc (.cells #[.int .i64 (0 : Nat), .slice none 0 0] 28)) ⟨Nat.le_refl _, by unfold maxLen; omega, .inl rfl⟩
      have e : firstT (fun i => S (i + 1)) (0 + 1) (0 + 1) = firstT (fun i => S (i + 1)) 0 0 := by
        show (if S (0 + 1 - (0 + 1) + 1) = true then _ else _) = _
        rw [if_neg (by rw [show 0 + 1 - (0 + 1) + 1 = 1 from rfl, h4]; simp)]
        rfl
      rw [e]
      exact this
  have hL : leastF S (h + p) = F + 1 := by unfold leastF; rw [hF]
  rw [hF] at hge
  rw [hL]
  have hdec : decide (0 < F + 1) = decide (0 ≤ F) := decide_eq_decide.2 (by omega)
  rw [hdec]
  clear hF hL h3 h1 hdec
  obtain ⟨g1, g2⟩ := hge
  by_cases hp : 0 ≤ F
  all_goals
    have hw : wrap64 (F + 1) = F + 1 := by unfold wrap64; omega
    go_enter Try.func28, Try.ntmps28
    go_wp2_with (go_at_call 42; refine hI.mono ?_; rintro e w' ⟨rfl, hb⟩)
    go_ret2
    exact ⟨ret_tupB (by first | rfl | exact hw) (by first | exact (decide_eq_true hp).symm | exact (decide_eq_false hp).symm | rfl), B1.trans (hb.mono B1.size)⟩

theorem same_dec {S T : Nat → Bool} {h p k q : Nat} (L : LeastP S h p) (M : LeastP T k q) (b : Bool) (hb : b = true ↔ ∀ n, 1 ≤ n → S n = T n) :
    (decide ((h : Int) = (k : Int)) && decide (h + p = k + q ∧ ∀ i, i < h + p → S (i + 1) = T (i + 1))) = b := by
  rw [Bool.eq_iff_iff, hb, ← same_iff L M]
  simp only [Bool.and_eq_true, decide_eq_true_eq]
  constructor
  · rintro ⟨h1, h2, h3⟩
    refine ⟨by omega, ?_⟩
    rw [← h2]
    exact rowOf_congr fun i h4 h5 => by have := h3 (i - 1) (by omega); rwa [Nat.sub_add_cancel h4] at this
  · rintro ⟨h1, h2⟩
    have hl : h + p = k + q := by have := congrArg List.length h2; rwa [rowOf_len, rowOf_len] at this
    refine ⟨by omega, hl, fun i hi => ?_⟩
    have a := rowOf_at S hi
    have b := rowOf_at T (n := k + q) (i := i) (by omega)
    rw [h2, b] at a
    exact (Option.some.inj a).symm

theorem keepS {w w1 w2 : World} {b0 b1 : Nat} {c0 c1 c2 c3 v u : Value} {S T : Nat → Bool} {h p k q : Nat} (hb : Below w1.heap.size w1 w2)
    (hh : w1.cell? ⟨b0, 0, none⟩ = some c0 ∧ w1.cell? ⟨b0, 1, none⟩ = some c1 ∧ w1.cell? ⟨b1, 0, none⟩ = some c2 ∧ w1.cell? ⟨b1, 1, none⟩ = some c3 ∧ IsSet w1 v S h p ∧ IsSet w1 u T k q ∧ Below w.heap.size w w1) :
    w2.cell? ⟨b0, 0, none⟩ = some c0 ∧ w2.cell? ⟨b0, 1, none⟩ = some c1 ∧ w2.cell? ⟨b1, 0, none⟩ = some c2 ∧ w2.cell? ⟨b1, 1, none⟩ = some c3 ∧ IsSet w2 v S h p ∧ IsSet w2 u T k q ∧ Below w.heap.size w w2 := by
  obtain ⟨h1, h2, h3, h4, h5, h6, h7⟩ := hh
  exact ⟨(hb.cell (p := ⟨b0, 0, none⟩) (World.block_lt_of_cell? _ _ h1)).trans h1, (hb.cell (p := ⟨b0, 1, none⟩) (World.block_lt_of_cell? _ _ h2)).trans h2, (hb.cell (p := ⟨b1, 0, none⟩) (World.block_lt_of_cell? _ _ h3)).trans h3, (hb.cell (p := ⟨b1, 1, none⟩) (World.block_lt_of_cell? _ _ h4)).trans h4, h5.later hb, h6.later hb, h7.trans (hb.mono h7.size)⟩

set_option maxRecDepth 100000 in
set_option maxHeartbeats 4000000 in
theorem same_set (w : World) (v u : Value) (S T : Nat → Bool) (h p k q : Nat) (hs : IsSet w v S h p) (ht : IsSet w u T k q) (r : Bool) (hr : r = true ↔ ∀ n, 1 ≤ n → S n = T n) :
    Calls Try.prog 13 #[v, u] w (ToldB (.bool r) w) := by
  have hd := same_dec hs.parts ht.parts r hr
  have H := Lib.hid hs
  have H' := Lib.hid ht
  obtain ⟨a, n, c, rfl⟩ := isSet_val hs
  obtain ⟨a', n', c', rfl⟩ := isSet_val ht
  have hsz := hs.small
  have hsz' := ht.small
  clear hs ht hr
  rw [← hd]
  clear hd
  have B1 : Below w.heap.size w ((w.alloc (.cells #[.int .i64 h, .slice a n c] 28)).alloc (.cells #[.int .i64 k, .slice a' n' c'] 28)).drew := (((Below.refl _ w).alloc (Nat.le_refl _) _).alloc (by simp) _).drew
  have hX : Blk ((w.alloc (.cells #[.int .i64 h, .slice a n c] 28)).alloc (.cells #[.int .i64 k, .slice a' n' c'] 28)).drew w.heap.size [.int .i64 h, .slice a n c] 28 := (Blk.alloc (w := w) [.int .i64 h, .slice a n c] 28).alloc_old (.cells #[.int .i64 k, .slice a' n' c'] 28)
  have hY : Blk ((w.alloc (.cells #[.int .i64 h, .slice a n c] 28)).alloc (.cells #[.int .i64 k, .slice a' n' c'] 28)).drew (w.heap.size + 1) [.int .i64 k, .slice a' n' c'] 28 := by
    have := Blk.alloc (w := w.alloc (.cells #[.int .i64 h, .slice a n c] 28)) [.int .i64 k, .slice a' n' c'] 28
    rw [show (w.alloc (.cells #[.int .i64 h, .slice a n c] 28)).heap.size = w.heap.size + 1 by simp] at this
    exact this
  have x0 := hX.cell 0 _ rfl
  have x1 := hX.cell 1 _ rfl
  have y0 := hY.cell 0 _ rfl
  have y1 := hY.cell 1 _ rfl
  have H1 := Lib.hid (H.out.later B1)
  have H1' := Lib.hid (H'.out.later B1)
  clear H H'
  have HX := Lib.hid hX
  have HY := Lib.hid hY
  clear hX hY
  by_cases hk : h = k
  · subst hk
    rw [decide_eq_true rfl, Bool.true_and]
    obtain ⟨r2, hr2⟩ : ∃ r2, decide (h + p = h + q ∧ ∀ i, i < h + p → S (i + 1) = T (i + 1)) = r2 := ⟨_, rfl⟩
    rw [hr2]
    have HR2 := Lib.hid hr2
    clear hr2
    have n0 : ((h : Int) == (h : Int)) = true := beq_self_eq_true _
    go_enter Try.func13, Try.ntmps13
    go_wp2
    go_region_held3 (fun w' => w'.cell? ⟨w.heap.size, 0, none⟩ = some (.int .i64 h) ∧ w'.cell? ⟨w.heap.size, 1, none⟩ = some (.slice a n c) ∧ w'.cell? ⟨w.heap.size + 1, 0, none⟩ = some (.int .i64 h) ∧ w'.cell? ⟨w.heap.size + 1, 1, none⟩ = some (.slice a' n' c') ∧
        IsSet w' (.agg #[.int .i64 h, .slice a n c]) S h p ∧ IsSet w' (.agg #[.int .i64 h, .slice a' n' c']) T h q ∧ Below w.heap.size w w')
      (first
        | exact ⟨x0, x1, y0, y1, H1.out, H1'.out, B1⟩
        | exact keepS hbE (by assumption)
        | exact keepS hbu (by assumption)
        | exact keepS hbv (by assumption))
      (first
        | (go_at_call 33; (with_reducible refine (list_any _ (.agg #[.int .i64 h, .slice a n c]) S h p ?_).mono ?_); exact H1.out; rintro e wv ⟨av, cv, rfl, hrv, hbv⟩)
        | (go_at_call 33; (with_reducible refine (list_any _ (.agg #[.int .i64 h, .slice a' n' c']) T h q ?_).mono ?_); exact H1'.out.later hbv; rintro e wu ⟨au, cu, rfl, hru, hbu⟩)
        | (go_at_call 32; have cE := equal_any av au (h + p) (h + q) cv cu _ _ _ (hrv.later hbu) hru; rw [HR2.out] at cE; refine cE.mono ?_; rintro e wE ⟨rfl, hbE⟩))
    all_goals
      go_wp2
      go_ret
      exact ⟨rfl, ((B1.trans (hbv.mono B1.size)).trans (hbu.mono (Nat.le_trans B1.size hbv.size))).trans (hbE.mono (Nat.le_trans (Nat.le_trans B1.size hbv.size) hbu.size))⟩
  · rw [decide_eq_false (show ¬ (h : Int) = (k : Int) by omega), Bool.false_and]
    have n0 : ((h : Int) == (k : Int)) = false := beq_eq_false_iff_ne.2 (by omega)
    go_enter Try.func13, Try.ntmps13
    go_wp2_with fail
    go_quiet (fail)
    go_wp2
    go_ret
    exact ⟨rfl, below_drewN (((Below.refl _ w).alloc (Nat.le_refl _) _).alloc (by simp) _) _⟩
end Go.Proofs.Ytcfcoojnjdoeeaa
