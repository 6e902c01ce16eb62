/- Implies: the program's walk. -/
import Derived.Test.YtlbmpggkllkiaaaDoorVu
namespace Go.Proofs.YtlbmpggkllkiaaaDoor
open Go.RowKit
set_option linter.unusedVariables false
set_option linter.unusedSimpArgs false

set_option maxRecDepth 100000 in
set_option maxHeartbeats 4000000 in
theorem impl_c1 (op : Int) (fold : Bool) (t : ByteArray) (op' : Int) (fold' : Bool) (t' : ByteArray) (w : World) (hL : LibW w) (ht : t.size ≤ 999999) (ht' : t'.size ≤ 999999) (hn : neverF op (strB t) fold = true) : Calls Tryd.prog 32 #[.agg #[.int .i64 op, .string t, .bool fold], .agg #[.int .i64 op', .string t', .bool fold']] w (Told (.bool true) w) := by
  have cN := fun w h => never_any op fold t w h (by omega)
  rw [hn] at cN
  have hA := (Blk.alloc (w := w) [.int .i64 op, .string t, .bool fold] 34).alloc_old (.cells #[.int .i64 op', .string t', .bool fold'] 34)
  have hB := Blk.alloc (w := w.alloc (.cells #[.int .i64 op, .string t, .bool fold] 34)) [.int .i64 op', .string t', .bool fold'] 34
  have B0 : Below w.heap.size w ((w.alloc (.cells #[.int .i64 op, .string t, .bool fold] 34)).alloc (.cells #[.int .i64 op', .string t', .bool fold'] 34)) := ((Below.refl _ w).alloc (Nat.le_refl _) _).alloc (by simp) _
  have hs : (w.alloc (.cells #[.int .i64 op, .string t, .bool fold] 34)).heap.size = w.heap.size + 1 := by simp
  rw [hs] at hB
  have HA := Lib.hid hA
  have HB := Lib.hid hB
  obtain ⟨a0, a1, a2⟩ := cells3 hA
  obtain ⟨b0, b1, b2⟩ := cells3 hB
  clear hA hB hs
  have HL := Lib.hid hL
  clear hL
  go_enter Tryd.func32, Tryd.ntmps32
  go_wp2_with fail
  refine (cN _ (HL.out.later B0)).mono ?_
  rintro e w1 ⟨rfl, hb1⟩
  have HA1 := Lib.hid (HA.out.later hb1 HA.out.lt)
  have HB1 := Lib.hid (HB.out.later hb1 HB.out.lt)
  have B1 := below_trans B0 hb1
  clear a0 a1 a2 b0 b1 b2 HA HB
  obtain ⟨a0, a1, a2⟩ := cells3 HA1.out
  obtain ⟨b0, b1, b2⟩ := cells3 HB1.out
  go_wp2
  go_ret
  exact ⟨rfl, B1⟩

set_option maxRecDepth 100000 in
set_option maxHeartbeats 4000000 in
theorem impl_c2 (op : Int) (fold : Bool) (t : ByteArray) (fold' : Bool) (t' : ByteArray) (w : World) (hL : LibW w) (ht : t.size ≤ 999999) (ht' : t'.size ≤ 999999) (hn : neverF op (strB t) fold = false) : Calls Tryd.prog 32 #[.agg #[.int .i64 op, .string t, .bool fold], .agg #[.int .i64 1, .string t', .bool fold']] w (Told (.bool true) w) := by
  have cN := fun w h => never_any op fold t w h (by omega)
  rw [hn] at cN
  have hA := (Blk.alloc (w := w) [.int .i64 op, .string t, .bool fold] 34).alloc_old (.cells #[.int .i64 1, .string t', .bool fold'] 34)
  have hB := Blk.alloc (w := w.alloc (.cells #[.int .i64 op, .string t, .bool fold] 34)) [.int .i64 1, .string t', .bool fold'] 34
  have B0 : Below w.heap.size w ((w.alloc (.cells #[.int .i64 op, .string t, .bool fold] 34)).alloc (.cells #[.int .i64 1, .string t', .bool fold'] 34)) := ((Below.refl _ w).alloc (Nat.le_refl _) _).alloc (by simp) _
  have hs : (w.alloc (.cells #[.int .i64 op, .string t, .bool fold] 34)).heap.size = w.heap.size + 1 := by simp
  rw [hs] at hB
  have HA := Lib.hid hA
  have HB := Lib.hid hB
  obtain ⟨a0, a1, a2⟩ := cells3 hA
  obtain ⟨b0, b1, b2⟩ := cells3 hB
  clear hA hB hs
  have HL := Lib.hid hL
  clear hL
  go_enter Tryd.func32, Tryd.ntmps32
  go_wp2_with fail
  refine (cN _ (HL.out.later B0)).mono ?_
  rintro e w1 ⟨rfl, hb1⟩
  have HA1 := Lib.hid (HA.out.later hb1 HA.out.lt)
  have HB1 := Lib.hid (HB.out.later hb1 HB.out.lt)
  have B1 := below_trans B0 hb1
  clear a0 a1 a2 b0 b1 b2 HA HB
  obtain ⟨a0, a1, a2⟩ := cells3 HA1.out
  obtain ⟨b0, b1, b2⟩ := cells3 HB1.out
  go_wp2
  go_ret
  exact ⟨rfl, B1⟩

set_option maxRecDepth 100000 in
set_option maxHeartbeats 4000000 in
theorem impl_c3 (op : Int) (t : ByteArray) (op' : Int) (t' : ByteArray) (w : World) (hL : LibW w) (ht : t.size ≤ 999999) (ht' : t'.size ≤ 999999) (hn : neverF op (strB t) true = false) (h1 : op' ≠ 1) : Calls Tryd.prog 32 #[.agg #[.int .i64 op, .string t, .bool true], .agg #[.int .i64 op', .string t', .bool false]] w (Told (.bool false) w) := by
  have cN := fun w h => never_any op true t w h (by omega)
  rw [hn] at cN
  have m1 : (op' == 1) = false := beq_eq_false_iff_ne.2 (by omega)
  have hA := (Blk.alloc (w := w) [.int .i64 op, .string t, .bool true] 34).alloc_old (.cells #[.int .i64 op', .string t', .bool false] 34)
  have hB := Blk.alloc (w := w.alloc (.cells #[.int .i64 op, .string t, .bool true] 34)) [.int .i64 op', .string t', .bool false] 34
  have B0 : Below w.heap.size w ((w.alloc (.cells #[.int .i64 op, .string t, .bool true] 34)).alloc (.cells #[.int .i64 op', .string t', .bool false] 34)) := ((Below.refl _ w).alloc (Nat.le_refl _) _).alloc (by simp) _
  have hs : (w.alloc (.cells #[.int .i64 op, .string t, .bool true] 34)).heap.size = w.heap.size + 1 := by simp
  rw [hs] at hB
  have HA := Lib.hid hA
  have HB := Lib.hid hB
  obtain ⟨a0, a1, a2⟩ := cells3 hA
  obtain ⟨b0, b1, b2⟩ := cells3 hB
  clear hA hB hs
  have HL := Lib.hid hL
  clear hL
  go_enter Tryd.func32, Tryd.ntmps32
  go_wp2_with fail
  refine (cN _ (HL.out.later B0)).mono ?_
  rintro e w1 ⟨rfl, hb1⟩
  have HA1 := Lib.hid (HA.out.later hb1 HA.out.lt)
  have HB1 := Lib.hid (HB.out.later hb1 HB.out.lt)
  have B1 := below_trans B0 hb1
  clear a0 a1 a2 b0 b1 b2 HA HB
  obtain ⟨a0, a1, a2⟩ := cells3 HA1.out
  obtain ⟨b0, b1, b2⟩ := cells3 HB1.out
  go_wp2
  go_ret
  exact ⟨rfl, B1⟩

set_option maxRecDepth 100000 in
set_option maxHeartbeats 4000000 in
theorem impl_c4ff (t : ByteArray) (t' : ByteArray) (w : World) (hL : LibW w) (ht : t.size ≤ 999999) (ht' : t'.size ≤ 999999) (hn : neverF 4 (strB t) false = false) : Calls Tryd.prog 32 #[.agg #[.int .i64 4, .string t, .bool false], .agg #[.int .i64 4, .string t', .bool false]] w (Told (.bool (oneF false (strB t) (strB t'))) w) := by
  have cN := fun w h => never_any 4 false t w h (by omega)
  rw [hn] at cN
  have cS := fun w => sameText_any 4 false t 4 false t' w (by omega)
  generalize oneF false (strB t) (strB t') = z at *
  have hA := (Blk.alloc (w := w) [.int .i64 4, .string t, .bool false] 34).alloc_old (.cells #[.int .i64 4, .string t', .bool false] 34)
  have hB := Blk.alloc (w := w.alloc (.cells #[.int .i64 4, .string t, .bool false] 34)) [.int .i64 4, .string t', .bool false] 34
  have B0 : Below w.heap.size w ((w.alloc (.cells #[.int .i64 4, .string t, .bool false] 34)).alloc (.cells #[.int .i64 4, .string t', .bool false] 34)) := ((Below.refl _ w).alloc (Nat.le_refl _) _).alloc (by simp) _
  have hs : (w.alloc (.cells #[.int .i64 4, .string t, .bool false] 34)).heap.size = w.heap.size + 1 := by simp
  rw [hs] at hB
  have HA := Lib.hid hA
  have HB := Lib.hid hB
  obtain ⟨a0, a1, a2⟩ := cells3 hA
  obtain ⟨b0, b1, b2⟩ := cells3 hB
  clear hA hB hs
  have HL := Lib.hid hL
  clear hL
  go_enter Tryd.func32, Tryd.ntmps32
  go_wp2_with fail
  refine (cN _ (HL.out.later B0)).mono ?_
  rintro e w1 ⟨rfl, hb1⟩
  have HA1 := Lib.hid (HA.out.later hb1 HA.out.lt)
  have HB1 := Lib.hid (HB.out.later hb1 HB.out.lt)
  have B1 := below_trans B0 hb1
  clear a0 a1 a2 b0 b1 b2 HA HB
  obtain ⟨a0, a1, a2⟩ := cells3 HA1.out
  obtain ⟨b0, b1, b2⟩ := cells3 HB1.out
  go_wp2_with fail
  refine (cS _).mono ?_
  rintro e w2 ⟨rfl, hb2⟩
  have HA2 := Lib.hid (HA1.out.later hb2 HA1.out.lt)
  have HB2 := Lib.hid (HB1.out.later hb2 HB1.out.lt)
  have B2 := below_trans B1 hb2
  clear a0 a1 a2 b0 b1 b2 HA1 HB1
  obtain ⟨a0, a1, a2⟩ := cells3 HA2.out
  obtain ⟨b0, b1, b2⟩ := cells3 HB2.out
  go_wp2
  go_ret
  exact ⟨rfl, B2⟩

set_option maxRecDepth 100000 in
set_option maxHeartbeats 4000000 in
theorem impl_c5ff (t : ByteArray) (op' : Int) (t' : ByteArray) (w : World) (hL : LibW w) (ht : t.size ≤ 999999) (ht' : t'.size ≤ 999999) (hn : neverF 2 (strB t) false = false) (h1 : op' ≠ 1) : Calls Tryd.prog 32 #[.agg #[.int .i64 2, .string t, .bool false], .agg #[.int .i64 op', .string t', .bool false]] w (Told (.bool (holdsF op' (strB t') false (strB t))) w) := by
  have cN := fun w h => never_any 2 false t w h (by omega)
  rw [hn] at cN
  have m1 : (op' == 1) = false := beq_eq_false_iff_ne.2 (by omega)
  have cH := fun w h => holds_any op' false t' t w (by omega) (by omega) h
  generalize holdsF op' (strB t') false (strB t) = z at *
  have hA := (Blk.alloc (w := w) [.int .i64 2, .string t, .bool false] 34).alloc_old (.cells #[.int .i64 op', .string t', .bool false] 34)
  have hB := Blk.alloc (w := w.alloc (.cells #[.int .i64 2, .string t, .bool false] 34)) [.int .i64 op', .string t', .bool false] 34
  have B0 : Below w.heap.size w ((w.alloc (.cells #[.int .i64 2, .string t, .bool false] 34)).alloc (.cells #[.int .i64 op', .string t', .bool false] 34)) := ((Below.refl _ w).alloc (Nat.le_refl _) _).alloc (by simp) _
  have hs : (w.alloc (.cells #[.int .i64 2, .string t, .bool false] 34)).heap.size = w.heap.size + 1 := by simp
  rw [hs] at hB
  have HA := Lib.hid hA
  have HB := Lib.hid hB
  obtain ⟨a0, a1, a2⟩ := cells3 hA
  obtain ⟨b0, b1, b2⟩ := cells3 hB
  clear hA hB hs
  have HL := Lib.hid hL
  clear hL
  go_enter Tryd.func32, Tryd.ntmps32
  go_wp2_with fail
  refine (cN _ (HL.out.later B0)).mono ?_
  rintro e w1 ⟨rfl, hb1⟩
  have HA1 := Lib.hid (HA.out.later hb1 HA.out.lt)
  have HB1 := Lib.hid (HB.out.later hb1 HB.out.lt)
  have B1 := below_trans B0 hb1
  clear a0 a1 a2 b0 b1 b2 HA HB
  obtain ⟨a0, a1, a2⟩ := cells3 HA1.out
  obtain ⟨b0, b1, b2⟩ := cells3 HB1.out
  go_wp2_with fail
  refine (cH _ (HL.out.later B1)).mono ?_
  rintro e w2 ⟨rfl, hb2⟩
  have HA2 := Lib.hid (HA1.out.later hb2 HA1.out.lt)
  have HB2 := Lib.hid (HB1.out.later hb2 HB1.out.lt)
  have B2 := below_trans B1 hb2
  clear a0 a1 a2 b0 b1 b2 HA1 HB1
  obtain ⟨a0, a1, a2⟩ := cells3 HA2.out
  obtain ⟨b0, b1, b2⟩ := cells3 HB2.out
  go_wp2
  go_ret
  exact ⟨rfl, B2⟩

set_option maxRecDepth 100000 in
set_option maxHeartbeats 4000000 in
theorem impl_c6ff (op : Int) (t : ByteArray) (t' : ByteArray) (w : World) (hL : LibW w) (ht : t.size ≤ 999999) (ht' : t'.size ≤ 999999) (hn : neverF op (strB t) false = false) (h1 : op ≠ 1) (h2 : op ≠ 2) (h4 : op ≠ 4) : Calls Tryd.prog 32 #[.agg #[.int .i64 op, .string t, .bool false], .agg #[.int .i64 op, .string t', .bool false]] w (Told (.bool (holdsF op (strB t') false (strB t))) w) := by
  have cN := fun w h => never_any op false t w h (by omega)
  rw [hn] at cN
  have m1 : (op == 1) = false := beq_eq_false_iff_ne.2 (by omega)
  have cH := fun w h => holds_any op false t' t w (by omega) (by omega) h
  generalize holdsF op (strB t') false (strB t) = z at *
  have k1 : (op == 4) = false := beq_eq_false_iff_ne.2 (by omega)
  have k2 : (op == 2) = false := beq_eq_false_iff_ne.2 (by omega)
  have k3 : (op == op) = true := beq_self_eq_true op
  have hA := (Blk.alloc (w := w) [.int .i64 op, .string t, .bool false] 34).alloc_old (.cells #[.int .i64 op, .string t', .bool false] 34)
  have hB := Blk.alloc (w := w.alloc (.cells #[.int .i64 op, .string t, .bool false] 34)) [.int .i64 op, .string t', .bool false] 34
  have B0 : Below w.heap.size w ((w.alloc (.cells #[.int .i64 op, .string t, .bool false] 34)).alloc (.cells #[.int .i64 op, .string t', .bool false] 34)) := ((Below.refl _ w).alloc (Nat.le_refl _) _).alloc (by simp) _
  have hs : (w.alloc (.cells #[.int .i64 op, .string t, .bool false] 34)).heap.size = w.heap.size + 1 := by simp
  rw [hs] at hB
  have HA := Lib.hid hA
  have HB := Lib.hid hB
  obtain ⟨a0, a1, a2⟩ := cells3 hA
  obtain ⟨b0, b1, b2⟩ := cells3 hB
  clear hA hB hs
  have HL := Lib.hid hL
  clear hL
  go_enter Tryd.func32, Tryd.ntmps32
  go_wp2_with fail
  refine (cN _ (HL.out.later B0)).mono ?_
  rintro e w1 ⟨rfl, hb1⟩
  have HA1 := Lib.hid (HA.out.later hb1 HA.out.lt)
  have HB1 := Lib.hid (HB.out.later hb1 HB.out.lt)
  have B1 := below_trans B0 hb1
  clear a0 a1 a2 b0 b1 b2 HA HB
  obtain ⟨a0, a1, a2⟩ := cells3 HA1.out
  obtain ⟨b0, b1, b2⟩ := cells3 HB1.out
  go_wp2_with fail
  refine (cH _ (HL.out.later B1)).mono ?_
  rintro e w2 ⟨rfl, hb2⟩
  have HA2 := Lib.hid (HA1.out.later hb2 HA1.out.lt)
  have HB2 := Lib.hid (HB1.out.later hb2 HB1.out.lt)
  have B2 := below_trans B1 hb2
  clear a0 a1 a2 b0 b1 b2 HA1 HB1
  obtain ⟨a0, a1, a2⟩ := cells3 HA2.out
  obtain ⟨b0, b1, b2⟩ := cells3 HB2.out
  go_wp2
  go_ret
  exact ⟨rfl, B2⟩

set_option maxRecDepth 100000 in
set_option maxHeartbeats 4000000 in
theorem impl_c7ff (op : Int) (t : ByteArray) (t' : ByteArray) (w : World) (hL : LibW w) (ht : t.size ≤ 999999) (ht' : t'.size ≤ 999999) (hn : neverF op (strB t) false = false) (h2 : op ≠ 2) (h4 : op ≠ 4) (he : op ≠ 7) (hp : op = 3 ∨ op = 5 ∨ op = 6) : Calls Tryd.prog 32 #[.agg #[.int .i64 op, .string t, .bool false], .agg #[.int .i64 7, .string t', .bool false]] w (Told (.bool (holdsF 7 (strB t') false (strB t))) w) := by
  have cN := fun w h => never_any op false t w h (by omega)
  rw [hn] at cN
  have cH := fun w h => holds_any 7 false t' t w (by omega) (by omega) h
  generalize holdsF 7 (strB t') false (strB t) = z at *
  have cP := fun w => isPart_any op w
  rw [decide_eq_true hp] at cP
  have k1 : (op == 4) = false := beq_eq_false_iff_ne.2 (by omega)
  have k2 : (op == 2) = false := beq_eq_false_iff_ne.2 (by omega)
  have k3 : (op == 7) = false := beq_eq_false_iff_ne.2 (by omega)
  clear hp
  have hA := (Blk.alloc (w := w) [.int .i64 op, .string t, .bool false] 34).alloc_old (.cells #[.int .i64 7, .string t', .bool false] 34)
  have hB := Blk.alloc (w := w.alloc (.cells #[.int .i64 op, .string t, .bool false] 34)) [.int .i64 7, .string t', .bool false] 34
  have B0 : Below w.heap.size w ((w.alloc (.cells #[.int .i64 op, .string t, .bool false] 34)).alloc (.cells #[.int .i64 7, .string t', .bool false] 34)) := ((Below.refl _ w).alloc (Nat.le_refl _) _).alloc (by simp) _
  have hs : (w.alloc (.cells #[.int .i64 op, .string t, .bool false] 34)).heap.size = w.heap.size + 1 := by simp
  rw [hs] at hB
  have HA := Lib.hid hA
  have HB := Lib.hid hB
  obtain ⟨a0, a1, a2⟩ := cells3 hA
  obtain ⟨b0, b1, b2⟩ := cells3 hB
  clear hA hB hs
  have HL := Lib.hid hL
  clear hL
  go_enter Tryd.func32, Tryd.ntmps32
  go_wp2_with fail
  refine (cN _ (HL.out.later B0)).mono ?_
  rintro e w1 ⟨rfl, hb1⟩
  have HA1 := Lib.hid (HA.out.later hb1 HA.out.lt)
  have HB1 := Lib.hid (HB.out.later hb1 HB.out.lt)
  have B1 := below_trans B0 hb1
  clear a0 a1 a2 b0 b1 b2 HA HB
  obtain ⟨a0, a1, a2⟩ := cells3 HA1.out
  obtain ⟨b0, b1, b2⟩ := cells3 HB1.out
  go_wp2_with (go_at_call 62; refine (cP _).mono ?_; rintro e w9 ⟨rfl, hw9⟩; replace hw9 := hw9.symm; subst hw9)
  refine (cH _ (HL.out.later B1)).mono ?_
  rintro e w2 ⟨rfl, hb2⟩
  have HA2 := Lib.hid (HA1.out.later hb2 HA1.out.lt)
  have HB2 := Lib.hid (HB1.out.later hb2 HB1.out.lt)
  have B2 := below_trans B1 hb2
  clear a0 a1 a2 b0 b1 b2 HA1 HB1
  obtain ⟨a0, a1, a2⟩ := cells3 HA2.out
  obtain ⟨b0, b1, b2⟩ := cells3 HB2.out
  go_wp2
  go_ret
  exact ⟨rfl, B2⟩

set_option maxRecDepth 100000 in
set_option maxHeartbeats 4000000 in
theorem impl_c8ffa (t : ByteArray) (t' : ByteArray) (w : World) (hL : LibW w) (ht : t.size ≤ 999999) (ht' : t'.size ≤ 999999) (hn : neverF 4 (strB t) false = false) : Calls Tryd.prog 32 #[.agg #[.int .i64 4, .string t, .bool false], .agg #[.int .i64 7, .string t', .bool false]] w (Told (.bool false) w) := by
  have cN := fun w h => never_any 4 false t w h (by omega)
  rw [hn] at cN
  have cP := fun w => isPart_any 4 w
  rw [decide_eq_false (by omega)] at cP
  have hA := (Blk.alloc (w := w) [.int .i64 4, .string t, .bool false] 34).alloc_old (.cells #[.int .i64 7, .string t', .bool false] 34)
  have hB := Blk.alloc (w := w.alloc (.cells #[.int .i64 4, .string t, .bool false] 34)) [.int .i64 7, .string t', .bool false] 34
  have B0 : Below w.heap.size w ((w.alloc (.cells #[.int .i64 4, .string t, .bool false] 34)).alloc (.cells #[.int .i64 7, .string t', .bool false] 34)) := ((Below.refl _ w).alloc (Nat.le_refl _) _).alloc (by simp) _
  have hs : (w.alloc (.cells #[.int .i64 4, .string t, .bool false] 34)).heap.size = w.heap.size + 1 := by simp
  rw [hs] at hB
  have HA := Lib.hid hA
  have HB := Lib.hid hB
  obtain ⟨a0, a1, a2⟩ := cells3 hA
  obtain ⟨b0, b1, b2⟩ := cells3 hB
  clear hA hB hs
  have HL := Lib.hid hL
  clear hL
  go_enter Tryd.func32, Tryd.ntmps32
  go_wp2_with fail
  refine (cN _ (HL.out.later B0)).mono ?_
  rintro e w1 ⟨rfl, hb1⟩
  have HA1 := Lib.hid (HA.out.later hb1 HA.out.lt)
  have HB1 := Lib.hid (HB.out.later hb1 HB.out.lt)
  have B1 := below_trans B0 hb1
  clear a0 a1 a2 b0 b1 b2 HA HB
  obtain ⟨a0, a1, a2⟩ := cells3 HA1.out
  obtain ⟨b0, b1, b2⟩ := cells3 HB1.out
  go_wp2_with (go_at_call 62; refine (cP _).mono ?_; rintro e w9 ⟨rfl, hw9⟩; replace hw9 := hw9.symm; subst hw9)
  go_ret
  exact ⟨rfl, B1⟩

set_option maxRecDepth 100000 in
set_option maxHeartbeats 4000000 in
theorem impl_c8ffb (op : Int) (t : ByteArray) (t' : ByteArray) (w : World) (hL : LibW w) (ht : t.size ≤ 999999) (ht' : t'.size ≤ 999999) (hn : neverF op (strB t) false = false) (h2 : op ≠ 2) (h4 : op ≠ 4) (he : op ≠ 7) (hp : ¬ (op = 3 ∨ op = 5 ∨ op = 6)) : Calls Tryd.prog 32 #[.agg #[.int .i64 op, .string t, .bool false], .agg #[.int .i64 7, .string t', .bool false]] w (Told (.bool false) w) := by
  have cN := fun w h => never_any op false t w h (by omega)
  rw [hn] at cN
  have cP := fun w => isPart_any op w
  rw [decide_eq_false hp] at cP
  have k1 : (op == 4) = false := beq_eq_false_iff_ne.2 (by omega)
  have k2 : (op == 2) = false := beq_eq_false_iff_ne.2 (by omega)
  have k3 : (op == 7) = false := beq_eq_false_iff_ne.2 (by omega)
  clear hp
  have hA := (Blk.alloc (w := w) [.int .i64 op, .string t, .bool false] 34).alloc_old (.cells #[.int .i64 7, .string t', .bool false] 34)
  have hB := Blk.alloc (w := w.alloc (.cells #[.int .i64 op, .string t, .bool false] 34)) [.int .i64 7, .string t', .bool false] 34
  have B0 : Below w.heap.size w ((w.alloc (.cells #[.int .i64 op, .string t, .bool false] 34)).alloc (.cells #[.int .i64 7, .string t', .bool false] 34)) := ((Below.refl _ w).alloc (Nat.le_refl _) _).alloc (by simp) _
  have hs : (w.alloc (.cells #[.int .i64 op, .string t, .bool false] 34)).heap.size = w.heap.size + 1 := by simp
  rw [hs] at hB
  have HA := Lib.hid hA
  have HB := Lib.hid hB
  obtain ⟨a0, a1, a2⟩ := cells3 hA
  obtain ⟨b0, b1, b2⟩ := cells3 hB
  clear hA hB hs
  have HL := Lib.hid hL
  clear hL
  go_enter Tryd.func32, Tryd.ntmps32
  go_wp2_with fail
  refine (cN _ (HL.out.later B0)).mono ?_
  rintro e w1 ⟨rfl, hb1⟩
  have HA1 := Lib.hid (HA.out.later hb1 HA.out.lt)
  have HB1 := Lib.hid (HB.out.later hb1 HB.out.lt)
  have B1 := below_trans B0 hb1
  clear a0 a1 a2 b0 b1 b2 HA HB
  obtain ⟨a0, a1, a2⟩ := cells3 HA1.out
  obtain ⟨b0, b1, b2⟩ := cells3 HB1.out
  go_wp2_with (go_at_call 62; refine (cP _).mono ?_; rintro e w9 ⟨rfl, hw9⟩; replace hw9 := hw9.symm; subst hw9)
  go_ret
  exact ⟨rfl, B1⟩

set_option maxRecDepth 100000 in
set_option maxHeartbeats 4000000 in
theorem impl_c9ffa (t : ByteArray) (op' : Int) (t' : ByteArray) (w : World) (hL : LibW w) (ht : t.size ≤ 999999) (ht' : t'.size ≤ 999999) (hn : neverF 4 (strB t) false = false) (h1 : op' ≠ 1) (h4' : op' ≠ 4) (h7 : op' ≠ 7) : Calls Tryd.prog 32 #[.agg #[.int .i64 4, .string t, .bool false], .agg #[.int .i64 op', .string t', .bool false]] w (Told (.bool false) w) := by
  have cN := fun w h => never_any 4 false t w h (by omega)
  rw [hn] at cN
  have m1 : (op' == 1) = false := beq_eq_false_iff_ne.2 (by omega)
  have k5 : (op' == 4) = false := beq_eq_false_iff_ne.2 (by omega)
  have k3 : (4 == op') = false := beq_eq_false_iff_ne.2 (by omega)
  have k4 : (op' == 7) = false := beq_eq_false_iff_ne.2 (by omega)
  have hA := (Blk.alloc (w := w) [.int .i64 4, .string t, .bool false] 34).alloc_old (.cells #[.int .i64 op', .string t', .bool false] 34)
  have hB := Blk.alloc (w := w.alloc (.cells #[.int .i64 4, .string t, .bool false] 34)) [.int .i64 op', .string t', .bool false] 34
  have B0 : Below w.heap.size w ((w.alloc (.cells #[.int .i64 4, .string t, .bool false] 34)).alloc (.cells #[.int .i64 op', .string t', .bool false] 34)) := ((Below.refl _ w).alloc (Nat.le_refl _) _).alloc (by simp) _
  have hs : (w.alloc (.cells #[.int .i64 4, .string t, .bool false] 34)).heap.size = w.heap.size + 1 := by simp
  rw [hs] at hB
  have HA := Lib.hid hA
  have HB := Lib.hid hB
  obtain ⟨a0, a1, a2⟩ := cells3 hA
  obtain ⟨b0, b1, b2⟩ := cells3 hB
  clear hA hB hs
  have HL := Lib.hid hL
  clear hL
  go_enter Tryd.func32, Tryd.ntmps32
  go_wp2_with fail
  refine (cN _ (HL.out.later B0)).mono ?_
  rintro e w1 ⟨rfl, hb1⟩
  have HA1 := Lib.hid (HA.out.later hb1 HA.out.lt)
  have HB1 := Lib.hid (HB.out.later hb1 HB.out.lt)
  have B1 := below_trans B0 hb1
  clear a0 a1 a2 b0 b1 b2 HA HB
  obtain ⟨a0, a1, a2⟩ := cells3 HA1.out
  obtain ⟨b0, b1, b2⟩ := cells3 HB1.out
  go_wp2
  go_ret
  exact ⟨rfl, B1⟩

set_option maxRecDepth 100000 in
set_option maxHeartbeats 4000000 in
theorem impl_c9ffb (op : Int) (t : ByteArray) (op' : Int) (t' : ByteArray) (w : World) (hL : LibW w) (ht : t.size ≤ 999999) (ht' : t'.size ≤ 999999) (hn : neverF op (strB t) false = false) (h1 : op' ≠ 1) (h2 : op ≠ 2) (h4 : op ≠ 4) (he : op ≠ op') (h7 : op' ≠ 7) : Calls Tryd.prog 32 #[.agg #[.int .i64 op, .string t, .bool false], .agg #[.int .i64 op', .string t', .bool false]] w (Told (.bool false) w) := by
  have cN := fun w h => never_any op false t w h (by omega)
  rw [hn] at cN
  have m1 : (op' == 1) = false := beq_eq_false_iff_ne.2 (by omega)
  have k1 : (op == 4) = false := beq_eq_false_iff_ne.2 (by omega)
  have k2 : (op == 2) = false := beq_eq_false_iff_ne.2 (by omega)
  have k3 : (op == op') = false := beq_eq_false_iff_ne.2 (by omega)
  have k4 : (op' == 7) = false := beq_eq_false_iff_ne.2 (by omega)
  have hA := (Blk.alloc (w := w) [.int .i64 op, .string t, .bool false] 34).alloc_old (.cells #[.int .i64 op', .string t', .bool false] 34)
  have hB := Blk.alloc (w := w.alloc (.cells #[.int .i64 op, .string t, .bool false] 34)) [.int .i64 op', .string t', .bool false] 34
  have B0 : Below w.heap.size w ((w.alloc (.cells #[.int .i64 op, .string t, .bool false] 34)).alloc (.cells #[.int .i64 op', .string t', .bool false] 34)) := ((Below.refl _ w).alloc (Nat.le_refl _) _).alloc (by simp) _
  have hs : (w.alloc (.cells #[.int .i64 op, .string t, .bool false] 34)).heap.size = w.heap.size + 1 := by simp
  rw [hs] at hB
  have HA := Lib.hid hA
  have HB := Lib.hid hB
  obtain ⟨a0, a1, a2⟩ := cells3 hA
  obtain ⟨b0, b1, b2⟩ := cells3 hB
  clear hA hB hs
  have HL := Lib.hid hL
  clear hL
  go_enter Tryd.func32, Tryd.ntmps32
  go_wp2_with fail
  refine (cN _ (HL.out.later B0)).mono ?_
  rintro e w1 ⟨rfl, hb1⟩
  have HA1 := Lib.hid (HA.out.later hb1 HA.out.lt)
  have HB1 := Lib.hid (HB.out.later hb1 HB.out.lt)
  have B1 := below_trans B0 hb1
  clear a0 a1 a2 b0 b1 b2 HA HB
  obtain ⟨a0, a1, a2⟩ := cells3 HA1.out
  obtain ⟨b0, b1, b2⟩ := cells3 HB1.out
  go_wp2
  go_ret
  exact ⟨rfl, B1⟩

set_option maxRecDepth 100000 in
set_option maxHeartbeats 4000000 in
theorem impl_c4ft (t : ByteArray) (t' : ByteArray) (w : World) (hL : LibW w) (ht : t.size ≤ 999999) (ht' : t'.size ≤ 999999) (hn : neverF 4 (strB t) false = false) : Calls Tryd.prog 32 #[.agg #[.int .i64 4, .string t, .bool false], .agg #[.int .i64 4, .string t', .bool true]] w (Told (.bool (oneF true (strB t) (strB t'))) w) := by
  have cN := fun w h => never_any 4 false t w h (by omega)
  rw [hn] at cN
  have cS := fun w => sameText_any 4 false t 4 true t' w (by omega)
  generalize oneF true (strB t) (strB t') = z at *
  have hA := (Blk.alloc (w := w) [.int .i64 4, .string t, .bool false] 34).alloc_old (.cells #[.int .i64 4, .string t', .bool true] 34)
  have hB := Blk.alloc (w := w.alloc (.cells #[.int .i64 4, .string t, .bool false] 34)) [.int .i64 4, .string t', .bool true] 34
  have B0 : Below w.heap.size w ((w.alloc (.cells #[.int .i64 4, .string t, .bool false] 34)).alloc (.cells #[.int .i64 4, .string t', .bool true] 34)) := ((Below.refl _ w).alloc (Nat.le_refl _) _).alloc (by simp) _
  have hs : (w.alloc (.cells #[.int .i64 4, .string t, .bool false] 34)).heap.size = w.heap.size + 1 := by simp
  rw [hs] at hB
  have HA := Lib.hid hA
  have HB := Lib.hid hB
  obtain ⟨a0, a1, a2⟩ := cells3 hA
  obtain ⟨b0, b1, b2⟩ := cells3 hB
  clear hA hB hs
  have HL := Lib.hid hL
  clear hL
  go_enter Tryd.func32, Tryd.ntmps32
  go_wp2_with fail
  refine (cN _ (HL.out.later B0)).mono ?_
  rintro e w1 ⟨rfl, hb1⟩
  have HA1 := Lib.hid (HA.out.later hb1 HA.out.lt)
  have HB1 := Lib.hid (HB.out.later hb1 HB.out.lt)
  have B1 := below_trans B0 hb1
  clear a0 a1 a2 b0 b1 b2 HA HB
  obtain ⟨a0, a1, a2⟩ := cells3 HA1.out
  obtain ⟨b0, b1, b2⟩ := cells3 HB1.out
  go_wp2_with fail
  refine (cS _).mono ?_
  rintro e w2 ⟨rfl, hb2⟩
  have HA2 := Lib.hid (HA1.out.later hb2 HA1.out.lt)
  have HB2 := Lib.hid (HB1.out.later hb2 HB1.out.lt)
  have B2 := below_trans B1 hb2
  clear a0 a1 a2 b0 b1 b2 HA1 HB1
  obtain ⟨a0, a1, a2⟩ := cells3 HA2.out
  obtain ⟨b0, b1, b2⟩ := cells3 HB2.out
  go_wp2
  go_ret
  exact ⟨rfl, B2⟩

set_option maxRecDepth 100000 in
set_option maxHeartbeats 4000000 in
theorem impl_c5ft (t : ByteArray) (op' : Int) (t' : ByteArray) (w : World) (hL : LibW w) (ht : t.size ≤ 999999) (ht' : t'.size ≤ 999999) (hn : neverF 2 (strB t) false = false) (h1 : op' ≠ 1) : Calls Tryd.prog 32 #[.agg #[.int .i64 2, .string t, .bool false], .agg #[.int .i64 op', .string t', .bool true]] w (Told (.bool (holdsF op' (strB t') true (strB t))) w) := by
  have cN := fun w h => never_any 2 false t w h (by omega)
  rw [hn] at cN
  have m1 : (op' == 1) = false := beq_eq_false_iff_ne.2 (by omega)
  have cH := fun w h => holds_any op' true t' t w (by omega) (by omega) h
  generalize holdsF op' (strB t') true (strB t) = z at *
  have hA := (Blk.alloc (w := w) [.int .i64 2, .string t, .bool false] 34).alloc_old (.cells #[.int .i64 op', .string t', .bool true] 34)
  have hB := Blk.alloc (w := w.alloc (.cells #[.int .i64 2, .string t, .bool false] 34)) [.int .i64 op', .string t', .bool true] 34
  have B0 : Below w.heap.size w ((w.alloc (.cells #[.int .i64 2, .string t, .bool false] 34)).alloc (.cells #[.int .i64 op', .string t', .bool true] 34)) := ((Below.refl _ w).alloc (Nat.le_refl _) _).alloc (by simp) _
  have hs : (w.alloc (.cells #[.int .i64 2, .string t, .bool false] 34)).heap.size = w.heap.size + 1 := by simp
  rw [hs] at hB
  have HA := Lib.hid hA
  have HB := Lib.hid hB
  obtain ⟨a0, a1, a2⟩ := cells3 hA
  obtain ⟨b0, b1, b2⟩ := cells3 hB
  clear hA hB hs
  have HL := Lib.hid hL
  clear hL
  go_enter Tryd.func32, Tryd.ntmps32
  go_wp2_with fail
  refine (cN _ (HL.out.later B0)).mono ?_
  rintro e w1 ⟨rfl, hb1⟩
  have HA1 := Lib.hid (HA.out.later hb1 HA.out.lt)
  have HB1 := Lib.hid (HB.out.later hb1 HB.out.lt)
  have B1 := below_trans B0 hb1
  clear a0 a1 a2 b0 b1 b2 HA HB
  obtain ⟨a0, a1, a2⟩ := cells3 HA1.out
  obtain ⟨b0, b1, b2⟩ := cells3 HB1.out
  go_wp2_with fail
  refine (cH _ (HL.out.later B1)).mono ?_
  rintro e w2 ⟨rfl, hb2⟩
  have HA2 := Lib.hid (HA1.out.later hb2 HA1.out.lt)
  have HB2 := Lib.hid (HB1.out.later hb2 HB1.out.lt)
  have B2 := below_trans B1 hb2
  clear a0 a1 a2 b0 b1 b2 HA1 HB1
  obtain ⟨a0, a1, a2⟩ := cells3 HA2.out
  obtain ⟨b0, b1, b2⟩ := cells3 HB2.out
  go_wp2
  go_ret
  exact ⟨rfl, B2⟩

set_option maxRecDepth 100000 in
set_option maxHeartbeats 4000000 in
theorem impl_c6ft (op : Int) (t : ByteArray) (t' : ByteArray) (w : World) (hL : LibW w) (ht : t.size ≤ 999999) (ht' : t'.size ≤ 999999) (hn : neverF op (strB t) false = false) (h1 : op ≠ 1) (h2 : op ≠ 2) (h4 : op ≠ 4) : Calls Tryd.prog 32 #[.agg #[.int .i64 op, .string t, .bool false], .agg #[.int .i64 op, .string t', .bool true]] w (Told (.bool (holdsF op (strB t') true (strB t))) w) := by
  have cN := fun w h => never_any op false t w h (by omega)
  rw [hn] at cN
  have m1 : (op == 1) = false := beq_eq_false_iff_ne.2 (by omega)
  have cH := fun w h => holds_any op true t' t w (by omega) (by omega) h
  generalize holdsF op (strB t') true (strB t) = z at *
  have k1 : (op == 4) = false := beq_eq_false_iff_ne.2 (by omega)
  have k2 : (op == 2) = false := beq_eq_false_iff_ne.2 (by omega)
  have k3 : (op == op) = true := beq_self_eq_true op
  have hA := (Blk.alloc (w := w) [.int .i64 op, .string t, .bool false] 34).alloc_old (.cells #[.int .i64 op, .string t', .bool true] 34)
  have hB := Blk.alloc (w := w.alloc (.cells #[.int .i64 op, .string t, .bool false] 34)) [.int .i64 op, .string t', .bool true] 34
  have B0 : Below w.heap.size w ((w.alloc (.cells #[.int .i64 op, .string t, .bool false] 34)).alloc (.cells #[.int .i64 op, .string t', .bool true] 34)) := ((Below.refl _ w).alloc (Nat.le_refl _) _).alloc (by simp) _
  have hs : (w.alloc (.cells #[.int .i64 op, .string t, .bool false] 34)).heap.size = w.heap.size + 1 := by simp
  rw [hs] at hB
  have HA := Lib.hid hA
  have HB := Lib.hid hB
  obtain ⟨a0, a1, a2⟩ := cells3 hA
  obtain ⟨b0, b1, b2⟩ := cells3 hB
  clear hA hB hs
  have HL := Lib.hid hL
  clear hL
  go_enter Tryd.func32, Tryd.ntmps32
  go_wp2_with fail
  refine (cN _ (HL.out.later B0)).mono ?_
  rintro e w1 ⟨rfl, hb1⟩
  have HA1 := Lib.hid (HA.out.later hb1 HA.out.lt)
  have HB1 := Lib.hid (HB.out.later hb1 HB.out.lt)
  have B1 := below_trans B0 hb1
  clear a0 a1 a2 b0 b1 b2 HA HB
  obtain ⟨a0, a1, a2⟩ := cells3 HA1.out
  obtain ⟨b0, b1, b2⟩ := cells3 HB1.out
  go_wp2_with fail
  refine (cH _ (HL.out.later B1)).mono ?_
  rintro e w2 ⟨rfl, hb2⟩
  have HA2 := Lib.hid (HA1.out.later hb2 HA1.out.lt)
  have HB2 := Lib.hid (HB1.out.later hb2 HB1.out.lt)
  have B2 := below_trans B1 hb2
  clear a0 a1 a2 b0 b1 b2 HA1 HB1
  obtain ⟨a0, a1, a2⟩ := cells3 HA2.out
  obtain ⟨b0, b1, b2⟩ := cells3 HB2.out
  go_wp2
  go_ret
  exact ⟨rfl, B2⟩

set_option maxRecDepth 100000 in
set_option maxHeartbeats 4000000 in
theorem impl_c7ft (op : Int) (t : ByteArray) (t' : ByteArray) (w : World) (hL : LibW w) (ht : t.size ≤ 999999) (ht' : t'.size ≤ 999999) (hn : neverF op (strB t) false = false) (h2 : op ≠ 2) (h4 : op ≠ 4) (he : op ≠ 7) (hp : op = 3 ∨ op = 5 ∨ op = 6) : Calls Tryd.prog 32 #[.agg #[.int .i64 op, .string t, .bool false], .agg #[.int .i64 7, .string t', .bool true]] w (Told (.bool (holdsF 7 (strB t') true (strB t))) w) := by
  have cN := fun w h => never_any op false t w h (by omega)
  rw [hn] at cN
  have cH := fun w h => holds_any 7 true t' t w (by omega) (by omega) h
  generalize holdsF 7 (strB t') true (strB t) = z at *
  have cP := fun w => isPart_any op w
  rw [decide_eq_true hp] at cP
  have k1 : (op == 4) = false := beq_eq_false_iff_ne.2 (by omega)
  have k2 : (op == 2) = false := beq_eq_false_iff_ne.2 (by omega)
  have k3 : (op == 7) = false := beq_eq_false_iff_ne.2 (by omega)
  clear hp
  have hA := (Blk.alloc (w := w) [.int .i64 op, .string t, .bool false] 34).alloc_old (.cells #[.int .i64 7, .string t', .bool true] 34)
  have hB := Blk.alloc (w := w.alloc (.cells #[.int .i64 op, .string t, .bool false] 34)) [.int .i64 7, .string t', .bool true] 34
  have B0 : Below w.heap.size w ((w.alloc (.cells #[.int .i64 op, .string t, .bool false] 34)).alloc (.cells #[.int .i64 7, .string t', .bool true] 34)) := ((Below.refl _ w).alloc (Nat.le_refl _) _).alloc (by simp) _
  have hs : (w.alloc (.cells #[.int .i64 op, .string t, .bool false] 34)).heap.size = w.heap.size + 1 := by simp
  rw [hs] at hB
  have HA := Lib.hid hA
  have HB := Lib.hid hB
  obtain ⟨a0, a1, a2⟩ := cells3 hA
  obtain ⟨b0, b1, b2⟩ := cells3 hB
  clear hA hB hs
  have HL := Lib.hid hL
  clear hL
  go_enter Tryd.func32, Tryd.ntmps32
  go_wp2_with fail
  refine (cN _ (HL.out.later B0)).mono ?_
  rintro e w1 ⟨rfl, hb1⟩
  have HA1 := Lib.hid (HA.out.later hb1 HA.out.lt)
  have HB1 := Lib.hid (HB.out.later hb1 HB.out.lt)
  have B1 := below_trans B0 hb1
  clear a0 a1 a2 b0 b1 b2 HA HB
  obtain ⟨a0, a1, a2⟩ := cells3 HA1.out
  obtain ⟨b0, b1, b2⟩ := cells3 HB1.out
  go_wp2_with (go_at_call 62; refine (cP _).mono ?_; rintro e w9 ⟨rfl, hw9⟩; replace hw9 := hw9.symm; subst hw9)
  refine (cH _ (HL.out.later B1)).mono ?_
  rintro e w2 ⟨rfl, hb2⟩
  have HA2 := Lib.hid (HA1.out.later hb2 HA1.out.lt)
  have HB2 := Lib.hid (HB1.out.later hb2 HB1.out.lt)
  have B2 := below_trans B1 hb2
  clear a0 a1 a2 b0 b1 b2 HA1 HB1
  obtain ⟨a0, a1, a2⟩ := cells3 HA2.out
  obtain ⟨b0, b1, b2⟩ := cells3 HB2.out
  go_wp2
  go_ret
  exact ⟨rfl, B2⟩

set_option maxRecDepth 100000 in
set_option maxHeartbeats 4000000 in
theorem impl_c8fta (t : ByteArray) (t' : ByteArray) (w : World) (hL : LibW w) (ht : t.size ≤ 999999) (ht' : t'.size ≤ 999999) (hn : neverF 4 (strB t) false = false) : Calls Tryd.prog 32 #[.agg #[.int .i64 4, .string t, .bool false], .agg #[.int .i64 7, .string t', .bool true]] w (Told (.bool false) w) := by
  have cN := fun w h => never_any 4 false t w h (by omega)
  rw [hn] at cN
  have cP := fun w => isPart_any 4 w
  rw [decide_eq_false (by omega)] at cP
  have hA := (Blk.alloc (w := w) [.int .i64 4, .string t, .bool false] 34).alloc_old (.cells #[.int .i64 7, .string t', .bool true] 34)
  have hB := Blk.alloc (w := w.alloc (.cells #[.int .i64 4, .string t, .bool false] 34)) [.int .i64 7, .string t', .bool true] 34
  have B0 : Below w.heap.size w ((w.alloc (.cells #[.int .i64 4, .string t, .bool false] 34)).alloc (.cells #[.int .i64 7, .string t', .bool true] 34)) := ((Below.refl _ w).alloc (Nat.le_refl _) _).alloc (by simp) _
  have hs : (w.alloc (.cells #[.int .i64 4, .string t, .bool false] 34)).heap.size = w.heap.size + 1 := by simp
  rw [hs] at hB
  have HA := Lib.hid hA
  have HB := Lib.hid hB
  obtain ⟨a0, a1, a2⟩ := cells3 hA
  obtain ⟨b0, b1, b2⟩ := cells3 hB
  clear hA hB hs
  have HL := Lib.hid hL
  clear hL
  go_enter Tryd.func32, Tryd.ntmps32
  go_wp2_with fail
  refine (cN _ (HL.out.later B0)).mono ?_
  rintro e w1 ⟨rfl, hb1⟩
  have HA1 := Lib.hid (HA.out.later hb1 HA.out.lt)
  have HB1 := Lib.hid (HB.out.later hb1 HB.out.lt)
  have B1 := below_trans B0 hb1
  clear a0 a1 a2 b0 b1 b2 HA HB
  obtain ⟨a0, a1, a2⟩ := cells3 HA1.out
  obtain ⟨b0, b1, b2⟩ := cells3 HB1.out
  go_wp2_with (go_at_call 62; refine (cP _).mono ?_; rintro e w9 ⟨rfl, hw9⟩; replace hw9 := hw9.symm; subst hw9)
  go_ret
  exact ⟨rfl, B1⟩

set_option maxRecDepth 100000 in
set_option maxHeartbeats 4000000 in
theorem impl_c8ftb (op : Int) (t : ByteArray) (t' : ByteArray) (w : World) (hL : LibW w) (ht : t.size ≤ 999999) (ht' : t'.size ≤ 999999) (hn : neverF op (strB t) false = false) (h2 : op ≠ 2) (h4 : op ≠ 4) (he : op ≠ 7) (hp : ¬ (op = 3 ∨ op = 5 ∨ op = 6)) : Calls Tryd.prog 32 #[.agg #[.int .i64 op, .string t, .bool false], .agg #[.int .i64 7, .string t', .bool true]] w (Told (.bool false) w) := by
  have cN := fun w h => never_any op false t w h (by omega)
  rw [hn] at cN
  have cP := fun w => isPart_any op w
  rw [decide_eq_false hp] at cP
  have k1 : (op == 4) = false := beq_eq_false_iff_ne.2 (by omega)
  have k2 : (op == 2) = false := beq_eq_false_iff_ne.2 (by omega)
  have k3 : (op == 7) = false := beq_eq_false_iff_ne.2 (by omega)
  clear hp
  have hA := (Blk.alloc (w := w) [.int .i64 op, .string t, .bool false] 34).alloc_old (.cells #[.int .i64 7, .string t', .bool true] 34)
  have hB := Blk.alloc (w := w.alloc (.cells #[.int .i64 op, .string t, .bool false] 34)) [.int .i64 7, .string t', .bool true] 34
  have B0 : Below w.heap.size w ((w.alloc (.cells #[.int .i64 op, .string t, .bool false] 34)).alloc (.cells #[.int .i64 7, .string t', .bool true] 34)) := ((Below.refl _ w).alloc (Nat.le_refl _) _).alloc (by simp) _
  have hs : (w.alloc (.cells #[.int .i64 op, .string t, .bool false] 34)).heap.size = w.heap.size + 1 := by simp
  rw [hs] at hB
  have HA := Lib.hid hA
  have HB := Lib.hid hB
  obtain ⟨a0, a1, a2⟩ := cells3 hA
  obtain ⟨b0, b1, b2⟩ := cells3 hB
  clear hA hB hs
  have HL := Lib.hid hL
  clear hL
  go_enter Tryd.func32, Tryd.ntmps32
  go_wp2_with fail
  refine (cN _ (HL.out.later B0)).mono ?_
  rintro e w1 ⟨rfl, hb1⟩
  have HA1 := Lib.hid (HA.out.later hb1 HA.out.lt)
  have HB1 := Lib.hid (HB.out.later hb1 HB.out.lt)
  have B1 := below_trans B0 hb1
  clear a0 a1 a2 b0 b1 b2 HA HB
  obtain ⟨a0, a1, a2⟩ := cells3 HA1.out
  obtain ⟨b0, b1, b2⟩ := cells3 HB1.out
  go_wp2_with (go_at_call 62; refine (cP _).mono ?_; rintro e w9 ⟨rfl, hw9⟩; replace hw9 := hw9.symm; subst hw9)
  go_ret
  exact ⟨rfl, B1⟩

set_option maxRecDepth 100000 in
set_option maxHeartbeats 4000000 in
theorem impl_c9fta (t : ByteArray) (op' : Int) (t' : ByteArray) (w : World) (hL : LibW w) (ht : t.size ≤ 999999) (ht' : t'.size ≤ 999999) (hn : neverF 4 (strB t) false = false) (h1 : op' ≠ 1) (h4' : op' ≠ 4) (h7 : op' ≠ 7) : Calls Tryd.prog 32 #[.agg #[.int .i64 4, .string t, .bool false], .agg #[.int .i64 op', .string t', .bool true]] w (Told (.bool false) w) := by
  have cN := fun w h => never_any 4 false t w h (by omega)
  rw [hn] at cN
  have m1 : (op' == 1) = false := beq_eq_false_iff_ne.2 (by omega)
  have k5 : (op' == 4) = false := beq_eq_false_iff_ne.2 (by omega)
  have k3 : (4 == op') = false := beq_eq_false_iff_ne.2 (by omega)
  have k4 : (op' == 7) = false := beq_eq_false_iff_ne.2 (by omega)
  have hA := (Blk.alloc (w := w) [.int .i64 4, .string t, .bool false] 34).alloc_old (.cells #[.int .i64 op', .string t', .bool true] 34)
  have hB := Blk.alloc (w := w.alloc (.cells #[.int .i64 4, .string t, .bool false] 34)) [.int .i64 op', .string t', .bool true] 34
  have B0 : Below w.heap.size w ((w.alloc (.cells #[.int .i64 4, .string t, .bool false] 34)).alloc (.cells #[.int .i64 op', .string t', .bool true] 34)) := ((Below.refl _ w).alloc (Nat.le_refl _) _).alloc (by simp) _
  have hs : (w.alloc (.cells #[.int .i64 4, .string t, .bool false] 34)).heap.size = w.heap.size + 1 := by simp
  rw [hs] at hB
  have HA := Lib.hid hA
  have HB := Lib.hid hB
  obtain ⟨a0, a1, a2⟩ := cells3 hA
  obtain ⟨b0, b1, b2⟩ := cells3 hB
  clear hA hB hs
  have HL := Lib.hid hL
  clear hL
  go_enter Tryd.func32, Tryd.ntmps32
  go_wp2_with fail
  refine (cN _ (HL.out.later B0)).mono ?_
  rintro e w1 ⟨rfl, hb1⟩
  have HA1 := Lib.hid (HA.out.later hb1 HA.out.lt)
  have HB1 := Lib.hid (HB.out.later hb1 HB.out.lt)
  have B1 := below_trans B0 hb1
  clear a0 a1 a2 b0 b1 b2 HA HB
  obtain ⟨a0, a1, a2⟩ := cells3 HA1.out
  obtain ⟨b0, b1, b2⟩ := cells3 HB1.out
  go_wp2
  go_ret
  exact ⟨rfl, B1⟩

set_option maxRecDepth 100000 in
set_option maxHeartbeats 4000000 in
theorem impl_c9ftb (op : Int) (t : ByteArray) (op' : Int) (t' : ByteArray) (w : World) (hL : LibW w) (ht : t.size ≤ 999999) (ht' : t'.size ≤ 999999) (hn : neverF op (strB t) false = false) (h1 : op' ≠ 1) (h2 : op ≠ 2) (h4 : op ≠ 4) (he : op ≠ op') (h7 : op' ≠ 7) : Calls Tryd.prog 32 #[.agg #[.int .i64 op, .string t, .bool false], .agg #[.int .i64 op', .string t', .bool true]] w (Told (.bool false) w) := by
  have cN := fun w h => never_any op false t w h (by omega)
  rw [hn] at cN
  have m1 : (op' == 1) = false := beq_eq_false_iff_ne.2 (by omega)
  have k1 : (op == 4) = false := beq_eq_false_iff_ne.2 (by omega)
  have k2 : (op == 2) = false := beq_eq_false_iff_ne.2 (by omega)
  have k3 : (op == op') = false := beq_eq_false_iff_ne.2 (by omega)
  have k4 : (op' == 7) = false := beq_eq_false_iff_ne.2 (by omega)
  have hA := (Blk.alloc (w := w) [.int .i64 op, .string t, .bool false] 34).alloc_old (.cells #[.int .i64 op', .string t', .bool true] 34)
  have hB := Blk.alloc (w := w.alloc (.cells #[.int .i64 op, .string t, .bool false] 34)) [.int .i64 op', .string t', .bool true] 34
  have B0 : Below w.heap.size w ((w.alloc (.cells #[.int .i64 op, .string t, .bool false] 34)).alloc (.cells #[.int .i64 op', .string t', .bool true] 34)) := ((Below.refl _ w).alloc (Nat.le_refl _) _).alloc (by simp) _
  have hs : (w.alloc (.cells #[.int .i64 op, .string t, .bool false] 34)).heap.size = w.heap.size + 1 := by simp
  rw [hs] at hB
  have HA := Lib.hid hA
  have HB := Lib.hid hB
  obtain ⟨a0, a1, a2⟩ := cells3 hA
  obtain ⟨b0, b1, b2⟩ := cells3 hB
  clear hA hB hs
  have HL := Lib.hid hL
  clear hL
  go_enter Tryd.func32, Tryd.ntmps32
  go_wp2_with fail
  refine (cN _ (HL.out.later B0)).mono ?_
  rintro e w1 ⟨rfl, hb1⟩
  have HA1 := Lib.hid (HA.out.later hb1 HA.out.lt)
  have HB1 := Lib.hid (HB.out.later hb1 HB.out.lt)
  have B1 := below_trans B0 hb1
  clear a0 a1 a2 b0 b1 b2 HA HB
  obtain ⟨a0, a1, a2⟩ := cells3 HA1.out
  obtain ⟨b0, b1, b2⟩ := cells3 HB1.out
  go_wp2
  go_ret
  exact ⟨rfl, B1⟩

set_option maxRecDepth 100000 in
set_option maxHeartbeats 4000000 in
theorem impl_c4tt (t : ByteArray) (t' : ByteArray) (w : World) (hL : LibW w) (ht : t.size ≤ 999999) (ht' : t'.size ≤ 999999) (hn : neverF 4 (strB t) true = false) : Calls Tryd.prog 32 #[.agg #[.int .i64 4, .string t, .bool true], .agg #[.int .i64 4, .string t', .bool true]] w (Told (.bool (oneF true (strB t) (strB t'))) w) := by
  have cN := fun w h => never_any 4 true t w h (by omega)
  rw [hn] at cN
  have cS := fun w => sameText_any 4 true t 4 true t' w (by omega)
  generalize oneF true (strB t) (strB t') = z at *
  have hA := (Blk.alloc (w := w) [.int .i64 4, .string t, .bool true] 34).alloc_old (.cells #[.int .i64 4, .string t', .bool true] 34)
  have hB := Blk.alloc (w := w.alloc (.cells #[.int .i64 4, .string t, .bool true] 34)) [.int .i64 4, .string t', .bool true] 34
  have B0 : Below w.heap.size w ((w.alloc (.cells #[.int .i64 4, .string t, .bool true] 34)).alloc (.cells #[.int .i64 4, .string t', .bool true] 34)) := ((Below.refl _ w).alloc (Nat.le_refl _) _).alloc (by simp) _
  have hs : (w.alloc (.cells #[.int .i64 4, .string t, .bool true] 34)).heap.size = w.heap.size + 1 := by simp
  rw [hs] at hB
  have HA := Lib.hid hA
  have HB := Lib.hid hB
  obtain ⟨a0, a1, a2⟩ := cells3 hA
  obtain ⟨b0, b1, b2⟩ := cells3 hB
  clear hA hB hs
  have HL := Lib.hid hL
  clear hL
  go_enter Tryd.func32, Tryd.ntmps32
  go_wp2_with fail
  refine (cN _ (HL.out.later B0)).mono ?_
  rintro e w1 ⟨rfl, hb1⟩
  have HA1 := Lib.hid (HA.out.later hb1 HA.out.lt)
  have HB1 := Lib.hid (HB.out.later hb1 HB.out.lt)
  have B1 := below_trans B0 hb1
  clear a0 a1 a2 b0 b1 b2 HA HB
  obtain ⟨a0, a1, a2⟩ := cells3 HA1.out
  obtain ⟨b0, b1, b2⟩ := cells3 HB1.out
  go_wp2_with fail
  refine (cS _).mono ?_
  rintro e w2 ⟨rfl, hb2⟩
  have HA2 := Lib.hid (HA1.out.later hb2 HA1.out.lt)
  have HB2 := Lib.hid (HB1.out.later hb2 HB1.out.lt)
  have B2 := below_trans B1 hb2
  clear a0 a1 a2 b0 b1 b2 HA1 HB1
  obtain ⟨a0, a1, a2⟩ := cells3 HA2.out
  obtain ⟨b0, b1, b2⟩ := cells3 HB2.out
  go_wp2
  go_ret
  exact ⟨rfl, B2⟩

set_option maxRecDepth 100000 in
set_option maxHeartbeats 4000000 in
theorem impl_c5tt (t : ByteArray) (op' : Int) (t' : ByteArray) (w : World) (hL : LibW w) (ht : t.size ≤ 999999) (ht' : t'.size ≤ 999999) (hn : neverF 2 (strB t) true = false) (h1 : op' ≠ 1) : Calls Tryd.prog 32 #[.agg #[.int .i64 2, .string t, .bool true], .agg #[.int .i64 op', .string t', .bool true]] w (Told (.bool (holdsF op' (strB t') true (strB t))) w) := by
  have cN := fun w h => never_any 2 true t w h (by omega)
  rw [hn] at cN
  have m1 : (op' == 1) = false := beq_eq_false_iff_ne.2 (by omega)
  have cH := fun w h => holds_any op' true t' t w (by omega) (by omega) h
  generalize holdsF op' (strB t') true (strB t) = z at *
  have hA := (Blk.alloc (w := w) [.int .i64 2, .string t, .bool true] 34).alloc_old (.cells #[.int .i64 op', .string t', .bool true] 34)
  have hB := Blk.alloc (w := w.alloc (.cells #[.int .i64 2, .string t, .bool true] 34)) [.int .i64 op', .string t', .bool true] 34
  have B0 : Below w.heap.size w ((w.alloc (.cells #[.int .i64 2, .string t, .bool true] 34)).alloc (.cells #[.int .i64 op', .string t', .bool true] 34)) := ((Below.refl _ w).alloc (Nat.le_refl _) _).alloc (by simp) _
  have hs : (w.alloc (.cells #[.int .i64 2, .string t, .bool true] 34)).heap.size = w.heap.size + 1 := by simp
  rw [hs] at hB
  have HA := Lib.hid hA
  have HB := Lib.hid hB
  obtain ⟨a0, a1, a2⟩ := cells3 hA
  obtain ⟨b0, b1, b2⟩ := cells3 hB
  clear hA hB hs
  have HL := Lib.hid hL
  clear hL
  go_enter Tryd.func32, Tryd.ntmps32
  go_wp2_with fail
  refine (cN _ (HL.out.later B0)).mono ?_
  rintro e w1 ⟨rfl, hb1⟩
  have HA1 := Lib.hid (HA.out.later hb1 HA.out.lt)
  have HB1 := Lib.hid (HB.out.later hb1 HB.out.lt)
  have B1 := below_trans B0 hb1
  clear a0 a1 a2 b0 b1 b2 HA HB
  obtain ⟨a0, a1, a2⟩ := cells3 HA1.out
  obtain ⟨b0, b1, b2⟩ := cells3 HB1.out
  go_wp2_with fail
  refine (cH _ (HL.out.later B1)).mono ?_
  rintro e w2 ⟨rfl, hb2⟩
  have HA2 := Lib.hid (HA1.out.later hb2 HA1.out.lt)
  have HB2 := Lib.hid (HB1.out.later hb2 HB1.out.lt)
  have B2 := below_trans B1 hb2
  clear a0 a1 a2 b0 b1 b2 HA1 HB1
  obtain ⟨a0, a1, a2⟩ := cells3 HA2.out
  obtain ⟨b0, b1, b2⟩ := cells3 HB2.out
  go_wp2
  go_ret
  exact ⟨rfl, B2⟩

set_option maxRecDepth 100000 in
set_option maxHeartbeats 4000000 in
theorem impl_c6tt (op : Int) (t : ByteArray) (t' : ByteArray) (w : World) (hL : LibW w) (ht : t.size ≤ 999999) (ht' : t'.size ≤ 999999) (hn : neverF op (strB t) true = false) (h1 : op ≠ 1) (h2 : op ≠ 2) (h4 : op ≠ 4) : Calls Tryd.prog 32 #[.agg #[.int .i64 op, .string t, .bool true], .agg #[.int .i64 op, .string t', .bool true]] w (Told (.bool (holdsF op (strB t') true (strB t))) w) := by
  have cN := fun w h => never_any op true t w h (by omega)
  rw [hn] at cN
  have m1 : (op == 1) = false := beq_eq_false_iff_ne.2 (by omega)
  have cH := fun w h => holds_any op true t' t w (by omega) (by omega) h
  generalize holdsF op (strB t') true (strB t) = z at *
  have k1 : (op == 4) = false := beq_eq_false_iff_ne.2 (by omega)
  have k2 : (op == 2) = false := beq_eq_false_iff_ne.2 (by omega)
  have k3 : (op == op) = true := beq_self_eq_true op
  have hA := (Blk.alloc (w := w) [.int .i64 op, .string t, .bool true] 34).alloc_old (.cells #[.int .i64 op, .string t', .bool true] 34)
  have hB := Blk.alloc (w := w.alloc (.cells #[.int .i64 op, .string t, .bool true] 34)) [.int .i64 op, .string t', .bool true] 34
  have B0 : Below w.heap.size w ((w.alloc (.cells #[.int .i64 op, .string t, .bool true] 34)).alloc (.cells #[.int .i64 op, .string t', .bool true] 34)) := ((Below.refl _ w).alloc (Nat.le_refl _) _).alloc (by simp) _
  have hs : (w.alloc (.cells #[.int .i64 op, .string t, .bool true] 34)).heap.size = w.heap.size + 1 := by simp
  rw [hs] at hB
  have HA := Lib.hid hA
  have HB := Lib.hid hB
  obtain ⟨a0, a1, a2⟩ := cells3 hA
  obtain ⟨b0, b1, b2⟩ := cells3 hB
  clear hA hB hs
  have HL := Lib.hid hL
  clear hL
  go_enter Tryd.func32, Tryd.ntmps32
  go_wp2_with fail
  refine (cN _ (HL.out.later B0)).mono ?_
  rintro e w1 ⟨rfl, hb1⟩
  have HA1 := Lib.hid (HA.out.later hb1 HA.out.lt)
  have HB1 := Lib.hid (HB.out.later hb1 HB.out.lt)
  have B1 := below_trans B0 hb1
  clear a0 a1 a2 b0 b1 b2 HA HB
  obtain ⟨a0, a1, a2⟩ := cells3 HA1.out
  obtain ⟨b0, b1, b2⟩ := cells3 HB1.out
  go_wp2_with fail
  refine (cH _ (HL.out.later B1)).mono ?_
  rintro e w2 ⟨rfl, hb2⟩
  have HA2 := Lib.hid (HA1.out.later hb2 HA1.out.lt)
  have HB2 := Lib.hid (HB1.out.later hb2 HB1.out.lt)
  have B2 := below_trans B1 hb2
  clear a0 a1 a2 b0 b1 b2 HA1 HB1
  obtain ⟨a0, a1, a2⟩ := cells3 HA2.out
  obtain ⟨b0, b1, b2⟩ := cells3 HB2.out
  go_wp2
  go_ret
  exact ⟨rfl, B2⟩

set_option maxRecDepth 100000 in
set_option maxHeartbeats 4000000 in
theorem impl_c7tt (op : Int) (t : ByteArray) (t' : ByteArray) (w : World) (hL : LibW w) (ht : t.size ≤ 999999) (ht' : t'.size ≤ 999999) (hn : neverF op (strB t) true = false) (h2 : op ≠ 2) (h4 : op ≠ 4) (he : op ≠ 7) (hp : op = 3 ∨ op = 5 ∨ op = 6) : Calls Tryd.prog 32 #[.agg #[.int .i64 op, .string t, .bool true], .agg #[.int .i64 7, .string t', .bool true]] w (Told (.bool (holdsF 7 (strB t') true (strB t))) w) := by
  have cN := fun w h => never_any op true t w h (by omega)
  rw [hn] at cN
  have cH := fun w h => holds_any 7 true t' t w (by omega) (by omega) h
  generalize holdsF 7 (strB t') true (strB t) = z at *
  have cP := fun w => isPart_any op w
  rw [decide_eq_true hp] at cP
  have k1 : (op == 4) = false := beq_eq_false_iff_ne.2 (by omega)
  have k2 : (op == 2) = false := beq_eq_false_iff_ne.2 (by omega)
  have k3 : (op == 7) = false := beq_eq_false_iff_ne.2 (by omega)
  clear hp
  have hA := (Blk.alloc (w := w) [.int .i64 op, .string t, .bool true] 34).alloc_old (.cells #[.int .i64 7, .string t', .bool true] 34)
  have hB := Blk.alloc (w := w.alloc (.cells #[.int .i64 op, .string t, .bool true] 34)) [.int .i64 7, .string t', .bool true] 34
  have B0 : Below w.heap.size w ((w.alloc (.cells #[.int .i64 op, .string t, .bool true] 34)).alloc (.cells #[.int .i64 7, .string t', .bool true] 34)) := ((Below.refl _ w).alloc (Nat.le_refl _) _).alloc (by simp) _
  have hs : (w.alloc (.cells #[.int .i64 op, .string t, .bool true] 34)).heap.size = w.heap.size + 1 := by simp
  rw [hs] at hB
  have HA := Lib.hid hA
  have HB := Lib.hid hB
  obtain ⟨a0, a1, a2⟩ := cells3 hA
  obtain ⟨b0, b1, b2⟩ := cells3 hB
  clear hA hB hs
  have HL := Lib.hid hL
  clear hL
  go_enter Tryd.func32, Tryd.ntmps32
  go_wp2_with fail
  refine (cN _ (HL.out.later B0)).mono ?_
  rintro e w1 ⟨rfl, hb1⟩
  have HA1 := Lib.hid (HA.out.later hb1 HA.out.lt)
  have HB1 := Lib.hid (HB.out.later hb1 HB.out.lt)
  have B1 := below_trans B0 hb1
  clear a0 a1 a2 b0 b1 b2 HA HB
  obtain ⟨a0, a1, a2⟩ := cells3 HA1.out
  obtain ⟨b0, b1, b2⟩ := cells3 HB1.out
  go_wp2_with (go_at_call 62; refine (cP _).mono ?_; rintro e w9 ⟨rfl, hw9⟩; replace hw9 := hw9.symm; subst hw9)
  refine (cH _ (HL.out.later B1)).mono ?_
  rintro e w2 ⟨rfl, hb2⟩
  have HA2 := Lib.hid (HA1.out.later hb2 HA1.out.lt)
  have HB2 := Lib.hid (HB1.out.later hb2 HB1.out.lt)
  have B2 := below_trans B1 hb2
  clear a0 a1 a2 b0 b1 b2 HA1 HB1
  obtain ⟨a0, a1, a2⟩ := cells3 HA2.out
  obtain ⟨b0, b1, b2⟩ := cells3 HB2.out
  go_wp2
  go_ret
  exact ⟨rfl, B2⟩

set_option maxRecDepth 100000 in
set_option maxHeartbeats 4000000 in
theorem impl_c8tta (t : ByteArray) (t' : ByteArray) (w : World) (hL : LibW w) (ht : t.size ≤ 999999) (ht' : t'.size ≤ 999999) (hn : neverF 4 (strB t) true = false) : Calls Tryd.prog 32 #[.agg #[.int .i64 4, .string t, .bool true], .agg #[.int .i64 7, .string t', .bool true]] w (Told (.bool false) w) := by
  have cN := fun w h => never_any 4 true t w h (by omega)
  rw [hn] at cN
  have cP := fun w => isPart_any 4 w
  rw [decide_eq_false (by omega)] at cP
  have hA := (Blk.alloc (w := w) [.int .i64 4, .string t, .bool true] 34).alloc_old (.cells #[.int .i64 7, .string t', .bool true] 34)
  have hB := Blk.alloc (w := w.alloc (.cells #[.int .i64 4, .string t, .bool true] 34)) [.int .i64 7, .string t', .bool true] 34
  have B0 : Below w.heap.size w ((w.alloc (.cells #[.int .i64 4, .string t, .bool true] 34)).alloc (.cells #[.int .i64 7, .string t', .bool true] 34)) := ((Below.refl _ w).alloc (Nat.le_refl _) _).alloc (by simp) _
  have hs : (w.alloc (.cells #[.int .i64 4, .string t, .bool true] 34)).heap.size = w.heap.size + 1 := by simp
  rw [hs] at hB
  have HA := Lib.hid hA
  have HB := Lib.hid hB
  obtain ⟨a0, a1, a2⟩ := cells3 hA
  obtain ⟨b0, b1, b2⟩ := cells3 hB
  clear hA hB hs
  have HL := Lib.hid hL
  clear hL
  go_enter Tryd.func32, Tryd.ntmps32
  go_wp2_with fail
  refine (cN _ (HL.out.later B0)).mono ?_
  rintro e w1 ⟨rfl, hb1⟩
  have HA1 := Lib.hid (HA.out.later hb1 HA.out.lt)
  have HB1 := Lib.hid (HB.out.later hb1 HB.out.lt)
  have B1 := below_trans B0 hb1
  clear a0 a1 a2 b0 b1 b2 HA HB
  obtain ⟨a0, a1, a2⟩ := cells3 HA1.out
  obtain ⟨b0, b1, b2⟩ := cells3 HB1.out
  go_wp2_with (go_at_call 62; refine (cP _).mono ?_; rintro e w9 ⟨rfl, hw9⟩; replace hw9 := hw9.symm; subst hw9)
  go_ret
  exact ⟨rfl, B1⟩

set_option maxRecDepth 100000 in
set_option maxHeartbeats 4000000 in
theorem impl_c8ttb (op : Int) (t : ByteArray) (t' : ByteArray) (w : World) (hL : LibW w) (ht : t.size ≤ 999999) (ht' : t'.size ≤ 999999) (hn : neverF op (strB t) true = false) (h2 : op ≠ 2) (h4 : op ≠ 4) (he : op ≠ 7) (hp : ¬ (op = 3 ∨ op = 5 ∨ op = 6)) : Calls Tryd.prog 32 #[.agg #[.int .i64 op, .string t, .bool true], .agg #[.int .i64 7, .string t', .bool true]] w (Told (.bool false) w) := by
  have cN := fun w h => never_any op true t w h (by omega)
  rw [hn] at cN
  have cP := fun w => isPart_any op w
  rw [decide_eq_false hp] at cP
  have k1 : (op == 4) = false := beq_eq_false_iff_ne.2 (by omega)
  have k2 : (op == 2) = false := beq_eq_false_iff_ne.2 (by omega)
  have k3 : (op == 7) = false := beq_eq_false_iff_ne.2 (by omega)
  clear hp
  have hA := (Blk.alloc (w := w) [.int .i64 op, .string t, .bool true] 34).alloc_old (.cells #[.int .i64 7, .string t', .bool true] 34)
  have hB := Blk.alloc (w := w.alloc (.cells #[.int .i64 op, .string t, .bool true] 34)) [.int .i64 7, .string t', .bool true] 34
  have B0 : Below w.heap.size w ((w.alloc (.cells #[.int .i64 op, .string t, .bool true] 34)).alloc (.cells #[.int .i64 7, .string t', .bool true] 34)) := ((Below.refl _ w).alloc (Nat.le_refl _) _).alloc (by simp) _
  have hs : (w.alloc (.cells #[.int .i64 op, .string t, .bool true] 34)).heap.size = w.heap.size + 1 := by simp
  rw [hs] at hB
  have HA := Lib.hid hA
  have HB := Lib.hid hB
  obtain ⟨a0, a1, a2⟩ := cells3 hA
  obtain ⟨b0, b1, b2⟩ := cells3 hB
  clear hA hB hs
  have HL := Lib.hid hL
  clear hL
  go_enter Tryd.func32, Tryd.ntmps32
  go_wp2_with fail
  refine (cN _ (HL.out.later B0)).mono ?_
  rintro e w1 ⟨rfl, hb1⟩
  have HA1 := Lib.hid (HA.out.later hb1 HA.out.lt)
  have HB1 := Lib.hid (HB.out.later hb1 HB.out.lt)
  have B1 := below_trans B0 hb1
  clear a0 a1 a2 b0 b1 b2 HA HB
  obtain ⟨a0, a1, a2⟩ := cells3 HA1.out
  obtain ⟨b0, b1, b2⟩ := cells3 HB1.out
  go_wp2_with (go_at_call 62; refine (cP _).mono ?_; rintro e w9 ⟨rfl, hw9⟩; replace hw9 := hw9.symm; subst hw9)
  go_ret
  exact ⟨rfl, B1⟩

set_option maxRecDepth 100000 in
set_option maxHeartbeats 4000000 in
theorem impl_c9tta (t : ByteArray) (op' : Int) (t' : ByteArray) (w : World) (hL : LibW w) (ht : t.size ≤ 999999) (ht' : t'.size ≤ 999999) (hn : neverF 4 (strB t) true = false) (h1 : op' ≠ 1) (h4' : op' ≠ 4) (h7 : op' ≠ 7) : Calls Tryd.prog 32 #[.agg #[.int .i64 4, .string t, .bool true], .agg #[.int .i64 op', .string t', .bool true]] w (Told (.bool false) w) := by
  have cN := fun w h => never_any 4 true t w h (by omega)
  rw [hn] at cN
  have m1 : (op' == 1) = false := beq_eq_false_iff_ne.2 (by omega)
  have k5 : (op' == 4) = false := beq_eq_false_iff_ne.2 (by omega)
  have k3 : (4 == op') = false := beq_eq_false_iff_ne.2 (by omega)
  have k4 : (op' == 7) = false := beq_eq_false_iff_ne.2 (by omega)
  have hA := (Blk.alloc (w := w) [.int .i64 4, .string t, .bool true] 34).alloc_old (.cells #[.int .i64 op', .string t', .bool true] 34)
  have hB := Blk.alloc (w := w.alloc (.cells #[.int .i64 4, .string t, .bool true] 34)) [.int .i64 op', .string t', .bool true] 34
  have B0 : Below w.heap.size w ((w.alloc (.cells #[.int .i64 4, .string t, .bool true] 34)).alloc (.cells #[.int .i64 op', .string t', .bool true] 34)) := ((Below.refl _ w).alloc (Nat.le_refl _) _).alloc (by simp) _
  have hs : (w.alloc (.cells #[.int .i64 4, .string t, .bool true] 34)).heap.size = w.heap.size + 1 := by simp
  rw [hs] at hB
  have HA := Lib.hid hA
  have HB := Lib.hid hB
  obtain ⟨a0, a1, a2⟩ := cells3 hA
  obtain ⟨b0, b1, b2⟩ := cells3 hB
  clear hA hB hs
  have HL := Lib.hid hL
  clear hL
  go_enter Tryd.func32, Tryd.ntmps32
  go_wp2_with fail
  refine (cN _ (HL.out.later B0)).mono ?_
  rintro e w1 ⟨rfl, hb1⟩
  have HA1 := Lib.hid (HA.out.later hb1 HA.out.lt)
  have HB1 := Lib.hid (HB.out.later hb1 HB.out.lt)
  have B1 := below_trans B0 hb1
  clear a0 a1 a2 b0 b1 b2 HA HB
  obtain ⟨a0, a1, a2⟩ := cells3 HA1.out
  obtain ⟨b0, b1, b2⟩ := cells3 HB1.out
  go_wp2
  go_ret
  exact ⟨rfl, B1⟩

set_option maxRecDepth 100000 in
set_option maxHeartbeats 4000000 in
theorem impl_c9ttb (op : Int) (t : ByteArray) (op' : Int) (t' : ByteArray) (w : World) (hL : LibW w) (ht : t.size ≤ 999999) (ht' : t'.size ≤ 999999) (hn : neverF op (strB t) true = false) (h1 : op' ≠ 1) (h2 : op ≠ 2) (h4 : op ≠ 4) (he : op ≠ op') (h7 : op' ≠ 7) : Calls Tryd.prog 32 #[.agg #[.int .i64 op, .string t, .bool true], .agg #[.int .i64 op', .string t', .bool true]] w (Told (.bool false) w) := by
  have cN := fun w h => never_any op true t w h (by omega)
  rw [hn] at cN
  have m1 : (op' == 1) = false := beq_eq_false_iff_ne.2 (by omega)
  have k1 : (op == 4) = false := beq_eq_false_iff_ne.2 (by omega)
  have k2 : (op == 2) = false := beq_eq_false_iff_ne.2 (by omega)
  have k3 : (op == op') = false := beq_eq_false_iff_ne.2 (by omega)
  have k4 : (op' == 7) = false := beq_eq_false_iff_ne.2 (by omega)
  have hA := (Blk.alloc (w := w) [.int .i64 op, .string t, .bool true] 34).alloc_old (.cells #[.int .i64 op', .string t', .bool true] 34)
  have hB := Blk.alloc (w := w.alloc (.cells #[.int .i64 op, .string t, .bool true] 34)) [.int .i64 op', .string t', .bool true] 34
  have B0 : Below w.heap.size w ((w.alloc (.cells #[.int .i64 op, .string t, .bool true] 34)).alloc (.cells #[.int .i64 op', .string t', .bool true] 34)) := ((Below.refl _ w).alloc (Nat.le_refl _) _).alloc (by simp) _
  have hs : (w.alloc (.cells #[.int .i64 op, .string t, .bool true] 34)).heap.size = w.heap.size + 1 := by simp
  rw [hs] at hB
  have HA := Lib.hid hA
  have HB := Lib.hid hB
  obtain ⟨a0, a1, a2⟩ := cells3 hA
  obtain ⟨b0, b1, b2⟩ := cells3 hB
  clear hA hB hs
  have HL := Lib.hid hL
  clear hL
  go_enter Tryd.func32, Tryd.ntmps32
  go_wp2_with fail
  refine (cN _ (HL.out.later B0)).mono ?_
  rintro e w1 ⟨rfl, hb1⟩
  have HA1 := Lib.hid (HA.out.later hb1 HA.out.lt)
  have HB1 := Lib.hid (HB.out.later hb1 HB.out.lt)
  have B1 := below_trans B0 hb1
  clear a0 a1 a2 b0 b1 b2 HA HB
  obtain ⟨a0, a1, a2⟩ := cells3 HA1.out
  obtain ⟨b0, b1, b2⟩ := cells3 HB1.out
  go_wp2
  go_ret
  exact ⟨rfl, B1⟩

theorem impl_any (op : Int) (fold : Bool) (t : ByteArray) (op' : Int) (fold' : Bool) (t' : ByteArray) (w : World) (hL : LibW w) (ht : t.size ≤ 999999) (ht' : t'.size ≤ 999999) : Calls Tryd.prog 32 #[.agg #[.int .i64 op, .string t, .bool fold], .agg #[.int .i64 op', .string t', .bool fold']] w (Told (.bool (implF op (strB t) fold op' (strB t') fold')) w) := by
  unfold implF
  cases hn : neverF op (strB t) fold
  case true => rw [if_pos (.inl rfl)]; exact impl_c1 op fold t op' fold' t' w hL ht ht' hn
  by_cases h1 : op' = 1
  · rw [if_pos (.inr h1)]; subst h1; exact impl_c2 op fold t fold' t' w hL ht ht' hn
  rw [if_neg (by simp [h1])]
  by_cases hf : fold = true ∧ fold' = false
  · rw [if_pos hf]
    obtain ⟨rfl, rfl⟩ := hf
    exact impl_c3 op t op' t' w hL ht ht' hn h1
  rw [if_neg hf]
  by_cases h44 : op = 4 ∧ op' = 4
  · rw [if_pos h44]
    obtain ⟨rfl, rfl⟩ := h44
    cases fold <;> cases fold'
    · exact impl_c4ff t t' w hL ht ht' hn
    · exact impl_c4ft t t' w hL ht ht' hn
    · simp at hf
    · exact impl_c4tt t t' w hL ht ht' hn
  rw [if_neg h44]
  by_cases h2 : op = 2
  · rw [if_pos (.inl h2)]
    subst h2
    cases fold <;> cases fold'
    · exact impl_c5ff t op' t' w hL ht ht' hn h1
    · exact impl_c5ft t op' t' w hL ht ht' hn h1
    · simp at hf
    · exact impl_c5tt t op' t' w hL ht ht' hn h1
  by_cases he : op = op'
  · rw [if_pos (.inr (.inl he))]
    subst he
    have h4 : op ≠ 4 := fun h => h44 ⟨h, h⟩
    cases fold <;> cases fold'
    · exact impl_c6ff op t t' w hL ht ht' hn h1 h2 h4
    · exact impl_c6ft op t t' w hL ht ht' hn h1 h2 h4
    · simp at hf
    · exact impl_c6tt op t t' w hL ht ht' hn h1 h2 h4
  by_cases h7 : op' = 7
  · by_cases hp : op = 3 ∨ op = 5 ∨ op = 6
    · rw [if_pos (.inr (.inr ⟨h7, hp⟩))]
      subst h7
      have h4 : op ≠ 4 := by omega
      cases fold <;> cases fold'
      · exact impl_c7ff op t t' w hL ht ht' hn h2 h4 he hp
      · exact impl_c7ft op t t' w hL ht ht' hn h2 h4 he hp
      · simp at hf
      · exact impl_c7tt op t t' w hL ht ht' hn h2 h4 he hp
    · rw [if_neg (by omega)]
      subst h7
      by_cases h4 : op = 4
      · subst h4
        cases fold <;> cases fold'
        · exact impl_c8ffa t t' w hL ht ht' hn
        · exact impl_c8fta t t' w hL ht ht' hn
        · simp at hf
        · exact impl_c8tta t t' w hL ht ht' hn
      · cases fold <;> cases fold'
        · exact impl_c8ffb op t t' w hL ht ht' hn h2 h4 he hp
        · exact impl_c8ftb op t t' w hL ht ht' hn h2 h4 he hp
        · simp at hf
        · exact impl_c8ttb op t t' w hL ht ht' hn h2 h4 he hp
  · rw [if_neg (by omega)]
    by_cases h4 : op = 4
    · have h4' : op' ≠ 4 := fun h => h44 ⟨h4, h⟩
      subst h4
      cases fold <;> cases fold'
      · exact impl_c9ffa t op' t' w hL ht ht' hn h1 h4' h7
      · exact impl_c9fta t op' t' w hL ht ht' hn h1 h4' h7
      · simp at hf
      · exact impl_c9tta t op' t' w hL ht ht' hn h1 h4' h7
    · cases fold <;> cases fold'
      · exact impl_c9ffb op t op' t' w hL ht ht' hn h1 h2 h4 he h7
      · exact impl_c9ftb op t op' t' w hL ht ht' hn h1 h2 h4 he h7
      · simp at hf
      · exact impl_c9ttb op t op' t' w hL ht ht' hn h1 h2 h4 he h7
end Go.Proofs.YtlbmpggkllkiaaaDoor
