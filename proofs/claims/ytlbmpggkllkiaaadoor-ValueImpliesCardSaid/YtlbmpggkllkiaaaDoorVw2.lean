/- Implies, by the document: the walk. -/
import Derived.Test.YtlbmpggkllkiaaaDoorVu
namespace Go.Proofs.YtlbmpggkllkiaaaDoor
open Go.RowKit
set_option linter.unusedVariables false
set_option linter.unusedSimpArgs false

/-- What the region of two small texts reads and keeps. -/
def LowS (c c' : List Value) (w0 w' : World) : Prop := Blk w' w0.heap.size c 34 ∧ Blk w' (w0.heap.size + 1) c' 34 ∧ Below w0.heap.size w0 w'
theorem LowS.later {c c' : List Value} {w0 w1 w2 : World} (h : LowS c c' w0 w1) (hb : Below w1.heap.size w1 w2) : LowS c c' w0 w2 := ⟨h.1.later hb h.1.lt, h.2.1.later hb h.2.1.lt, below_trans h.2.2 hb⟩
theorem one_beq (t t' : ByteArray) : (t.toList == t'.toList) = oneF false (strB t) (strB t') := list_beq t t'
theorem low_beq (t t' : ByteArray) : ((lowS t).toList == (lowS t').toList) = oneF true (strB t) (strB t') := by rw [list_beq, strB_low, strB_low]; rfl

set_option maxRecDepth 100000 in
set_option maxHeartbeats 4000000 in
theorem rimpl_c1 (op : Int) (fold : Bool) (t : ByteArray) (op' : Int) (fold' : Bool) (t' : ByteArray) (w : World) (ht : t.size ≤ 999999) (ht' : t'.size ≤ 999999) (hn : neverF op (strB t) fold = true) : Calls Tryd.prog 33 #[.agg #[.int .i64 op, .string t, .bool fold], .agg #[.int .i64 op', .string t', .bool fold']] w (Told (.bool true) w) := by
  have cN := fun w => rnever_any op fold t w ht
  rw [hn] at cN
  have hA := (Blk.alloc (w := w) [.int .i64 op, .string t, .bool fold] 34).alloc_old (.cells #[.int .i64 op', .string t', .bool fold'] 34)
  have hB := Blk.alloc (w := w.alloc (.cells #[.int .i64 op, .string t, .bool fold] 34)) [.int .i64 op', .string t', .bool fold'] 34
  have B0 : Below w.heap.size w ((w.alloc (.cells #[.int .i64 op, .string t, .bool fold] 34)).alloc (.cells #[.int .i64 op', .string t', .bool fold'] 34)) := ((Below.refl _ w).alloc (Nat.le_refl _) _).alloc (by simp) _
  have hs : (w.alloc (.cells #[.int .i64 op, .string t, .bool fold] 34)).heap.size = w.heap.size + 1 := by simp
  rw [hs] at hB
  have HA := Lib.hid hA
  have HB := Lib.hid hB
  obtain ⟨a0, a1, a2⟩ := cells3 hA
  obtain ⟨b0, b1, b2⟩ := cells3 hB
  clear hA hB hs
  go_enter Tryd.func33, Tryd.ntmps33
  go_wp2_with fail
  refine (cN _).mono ?_
  rintro e w1 ⟨rfl, hb1⟩
  have HA1 := Lib.hid (HA.out.later hb1 HA.out.lt)
  have HB1 := Lib.hid (HB.out.later hb1 HB.out.lt)
  have B1 := below_trans B0 hb1
  clear a0 a1 a2 b0 b1 b2 HA HB
  obtain ⟨a0, a1, a2⟩ := cells3 HA1.out
  obtain ⟨b0, b1, b2⟩ := cells3 HB1.out
  go_wp2
  go_ret
  exact ⟨rfl, B1⟩

set_option maxRecDepth 100000 in
set_option maxHeartbeats 4000000 in
theorem rimpl_c2 (op : Int) (fold : Bool) (t : ByteArray) (fold' : Bool) (t' : ByteArray) (w : World) (ht : t.size ≤ 999999) (ht' : t'.size ≤ 999999) (hn : neverF op (strB t) fold = false) : Calls Tryd.prog 33 #[.agg #[.int .i64 op, .string t, .bool fold], .agg #[.int .i64 1, .string t', .bool fold']] w (Told (.bool true) w) := by
  have cN := fun w => rnever_any op fold t w ht
  rw [hn] at cN
  have hA := (Blk.alloc (w := w) [.int .i64 op, .string t, .bool fold] 34).alloc_old (.cells #[.int .i64 1, .string t', .bool fold'] 34)
  have hB := Blk.alloc (w := w.alloc (.cells #[.int .i64 op, .string t, .bool fold] 34)) [.int .i64 1, .string t', .bool fold'] 34
  have B0 : Below w.heap.size w ((w.alloc (.cells #[.int .i64 op, .string t, .bool fold] 34)).alloc (.cells #[.int .i64 1, .string t', .bool fold'] 34)) := ((Below.refl _ w).alloc (Nat.le_refl _) _).alloc (by simp) _
  have hs : (w.alloc (.cells #[.int .i64 op, .string t, .bool fold] 34)).heap.size = w.heap.size + 1 := by simp
  rw [hs] at hB
  have HA := Lib.hid hA
  have HB := Lib.hid hB
  obtain ⟨a0, a1, a2⟩ := cells3 hA
  obtain ⟨b0, b1, b2⟩ := cells3 hB
  clear hA hB hs
  go_enter Tryd.func33, Tryd.ntmps33
  go_wp2_with fail
  refine (cN _).mono ?_
  rintro e w1 ⟨rfl, hb1⟩
  have HA1 := Lib.hid (HA.out.later hb1 HA.out.lt)
  have HB1 := Lib.hid (HB.out.later hb1 HB.out.lt)
  have B1 := below_trans B0 hb1
  clear a0 a1 a2 b0 b1 b2 HA HB
  obtain ⟨a0, a1, a2⟩ := cells3 HA1.out
  obtain ⟨b0, b1, b2⟩ := cells3 HB1.out
  go_wp2
  go_ret
  exact ⟨rfl, B1⟩

set_option maxRecDepth 100000 in
set_option maxHeartbeats 4000000 in
theorem rimpl_c3 (op : Int) (t : ByteArray) (op' : Int) (t' : ByteArray) (w : World) (ht : t.size ≤ 999999) (ht' : t'.size ≤ 999999) (hn : neverF op (strB t) true = false) (h1 : op' ≠ 1) : Calls Tryd.prog 33 #[.agg #[.int .i64 op, .string t, .bool true], .agg #[.int .i64 op', .string t', .bool false]] w (Told (.bool false) w) := by
  have cN := fun w => rnever_any op true t w ht
  rw [hn] at cN
  have m1 : (op' == 1) = false := beq_eq_false_iff_ne.2 (by omega)
  have hA := (Blk.alloc (w := w) [.int .i64 op, .string t, .bool true] 34).alloc_old (.cells #[.int .i64 op', .string t', .bool false] 34)
  have hB := Blk.alloc (w := w.alloc (.cells #[.int .i64 op, .string t, .bool true] 34)) [.int .i64 op', .string t', .bool false] 34
  have B0 : Below w.heap.size w ((w.alloc (.cells #[.int .i64 op, .string t, .bool true] 34)).alloc (.cells #[.int .i64 op', .string t', .bool false] 34)) := ((Below.refl _ w).alloc (Nat.le_refl _) _).alloc (by simp) _
  have hs : (w.alloc (.cells #[.int .i64 op, .string t, .bool true] 34)).heap.size = w.heap.size + 1 := by simp
  rw [hs] at hB
  have HA := Lib.hid hA
  have HB := Lib.hid hB
  obtain ⟨a0, a1, a2⟩ := cells3 hA
  obtain ⟨b0, b1, b2⟩ := cells3 hB
  clear hA hB hs
  go_enter Tryd.func33, Tryd.ntmps33
  go_wp2_with fail
  refine (cN _).mono ?_
  rintro e w1 ⟨rfl, hb1⟩
  have HA1 := Lib.hid (HA.out.later hb1 HA.out.lt)
  have HB1 := Lib.hid (HB.out.later hb1 HB.out.lt)
  have B1 := below_trans B0 hb1
  clear a0 a1 a2 b0 b1 b2 HA HB
  obtain ⟨a0, a1, a2⟩ := cells3 HA1.out
  obtain ⟨b0, b1, b2⟩ := cells3 HB1.out
  go_wp2
  go_ret
  exact ⟨rfl, B1⟩

set_option maxRecDepth 100000 in
set_option maxHeartbeats 4000000 in
theorem rimpl_aff (t : ByteArray) (op' : Int) (t' : ByteArray) (w : World) (ht : t.size ≤ 999999) (ht' : t'.size ≤ 999999) (hn : neverF 2 (strB t) false = false) (h1 : op' ≠ 1) : Calls Tryd.prog 33 #[.agg #[.int .i64 2, .string t, .bool false], .agg #[.int .i64 op', .string t', .bool false]] w (Told (.bool (holdsF op' (strB t') false (strB t))) w) := by
  have cN := fun w => rnever_any 2 false t w ht
  rw [hn] at cN
  have m1 : (op' == 1) = false := beq_eq_false_iff_ne.2 (by omega)
  have cH := fun w => rholds_any op' false t' t w (by omega) (by omega)
  generalize holdsF op' (strB t') false (strB t) = z at *
  have hA := (Blk.alloc (w := w) [.int .i64 2, .string t, .bool false] 34).alloc_old (.cells #[.int .i64 op', .string t', .bool false] 34)
  have hB := Blk.alloc (w := w.alloc (.cells #[.int .i64 2, .string t, .bool false] 34)) [.int .i64 op', .string t', .bool false] 34
  have B0 : Below w.heap.size w ((w.alloc (.cells #[.int .i64 2, .string t, .bool false] 34)).alloc (.cells #[.int .i64 op', .string t', .bool false] 34)) := ((Below.refl _ w).alloc (Nat.le_refl _) _).alloc (by simp) _
  have hs : (w.alloc (.cells #[.int .i64 2, .string t, .bool false] 34)).heap.size = w.heap.size + 1 := by simp
  rw [hs] at hB
  have HA := Lib.hid hA
  have HB := Lib.hid hB
  obtain ⟨a0, a1, a2⟩ := cells3 hA
  obtain ⟨b0, b1, b2⟩ := cells3 hB
  clear hA hB hs
  go_enter Tryd.func33, Tryd.ntmps33
  go_wp2_with fail
  refine (cN _).mono ?_
  rintro e w1 ⟨rfl, hb1⟩
  have HA1 := Lib.hid (HA.out.later hb1 HA.out.lt)
  have HB1 := Lib.hid (HB.out.later hb1 HB.out.lt)
  have B1 := below_trans B0 hb1
  clear a0 a1 a2 b0 b1 b2 HA HB
  obtain ⟨a0, a1, a2⟩ := cells3 HA1.out
  obtain ⟨b0, b1, b2⟩ := cells3 HB1.out
  go_wp2_with fail
  refine (cH _).mono ?_
  rintro e w3 ⟨rfl, hb3⟩
  have HA3 := Lib.hid (HA1.out.later hb3 HA1.out.lt)
  have HB3 := Lib.hid (HB1.out.later hb3 HB1.out.lt)
  have B3 := below_trans B1 hb3
  clear a0 a1 a2 b0 b1 b2 HA1 HB1
  obtain ⟨a0, a1, a2⟩ := cells3 HA3.out
  obtain ⟨b0, b1, b2⟩ := cells3 HB3.out
  go_wp2
  go_ret
  exact ⟨rfl, B3⟩

set_option maxRecDepth 100000 in
set_option maxHeartbeats 4000000 in
theorem rimpl_b3ff (t : ByteArray) (t' : ByteArray) (w : World) (ht : t.size ≤ 999999) (ht' : t'.size ≤ 999999) (hn : neverF 3 (strB t) false = false) : Calls Tryd.prog 33 #[.agg #[.int .i64 3, .string t, .bool false], .agg #[.int .i64 3, .string t', .bool false]] w (Told (.bool (oneF false (strB t) (strB t'))) w) := by
  have cN := fun w => rnever_any 3 false t w ht
  rw [hn] at cN
  have hA := (Blk.alloc (w := w) [.int .i64 3, .string t, .bool false] 34).alloc_old (.cells #[.int .i64 3, .string t', .bool false] 34)
  have hB := Blk.alloc (w := w.alloc (.cells #[.int .i64 3, .string t, .bool false] 34)) [.int .i64 3, .string t', .bool false] 34
  have B0 : Below w.heap.size w ((w.alloc (.cells #[.int .i64 3, .string t, .bool false] 34)).alloc (.cells #[.int .i64 3, .string t', .bool false] 34)) := ((Below.refl _ w).alloc (Nat.le_refl _) _).alloc (by simp) _
  have hs : (w.alloc (.cells #[.int .i64 3, .string t, .bool false] 34)).heap.size = w.heap.size + 1 := by simp
  rw [hs] at hB
  have HA := Lib.hid hA
  have HB := Lib.hid hB
  obtain ⟨a0, a1, a2⟩ := cells3 hA
  obtain ⟨b0, b1, b2⟩ := cells3 hB
  clear hA hB hs
  go_enter Tryd.func33, Tryd.ntmps33
  go_wp2_with fail
  refine (cN _).mono ?_
  rintro e w1 ⟨rfl, hb1⟩
  have HA1 := Lib.hid (HA.out.later hb1 HA.out.lt)
  have HB1 := Lib.hid (HB.out.later hb1 HB.out.lt)
  have B1 := below_trans B0 hb1
  clear a0 a1 a2 b0 b1 b2 HA HB
  obtain ⟨a0, a1, a2⟩ := cells3 HA1.out
  obtain ⟨b0, b1, b2⟩ := cells3 HB1.out
  go_wp2
  go_ret
  exact ⟨by rw [← one_beq t t']; rfl, B1⟩

set_option maxRecDepth 100000 in
set_option maxHeartbeats 4000000 in
theorem rimpl_b4ff (t : ByteArray) (t' : ByteArray) (w : World) (ht : t.size ≤ 999999) (ht' : t'.size ≤ 999999) (hn : neverF 4 (strB t) false = false) : Calls Tryd.prog 33 #[.agg #[.int .i64 4, .string t, .bool false], .agg #[.int .i64 4, .string t', .bool false]] w (Told (.bool (oneF false (strB t) (strB t'))) w) := by
  have cN := fun w => rnever_any 4 false t w ht
  rw [hn] at cN
  have hA := (Blk.alloc (w := w) [.int .i64 4, .string t, .bool false] 34).alloc_old (.cells #[.int .i64 4, .string t', .bool false] 34)
  have hB := Blk.alloc (w := w.alloc (.cells #[.int .i64 4, .string t, .bool false] 34)) [.int .i64 4, .string t', .bool false] 34
  have B0 : Below w.heap.size w ((w.alloc (.cells #[.int .i64 4, .string t, .bool false] 34)).alloc (.cells #[.int .i64 4, .string t', .bool false] 34)) := ((Below.refl _ w).alloc (Nat.le_refl _) _).alloc (by simp) _
  have hs : (w.alloc (.cells #[.int .i64 4, .string t, .bool false] 34)).heap.size = w.heap.size + 1 := by simp
  rw [hs] at hB
  have HA := Lib.hid hA
  have HB := Lib.hid hB
  obtain ⟨a0, a1, a2⟩ := cells3 hA
  obtain ⟨b0, b1, b2⟩ := cells3 hB
  clear hA hB hs
  go_enter Tryd.func33, Tryd.ntmps33
  go_wp2_with fail
  refine (cN _).mono ?_
  rintro e w1 ⟨rfl, hb1⟩
  have HA1 := Lib.hid (HA.out.later hb1 HA.out.lt)
  have HB1 := Lib.hid (HB.out.later hb1 HB.out.lt)
  have B1 := below_trans B0 hb1
  clear a0 a1 a2 b0 b1 b2 HA HB
  obtain ⟨a0, a1, a2⟩ := cells3 HA1.out
  obtain ⟨b0, b1, b2⟩ := cells3 HB1.out
  go_wp2
  go_ret
  exact ⟨by rw [← one_beq t t']; rfl, B1⟩

set_option maxRecDepth 100000 in
set_option maxHeartbeats 4000000 in
theorem rimpl_c5ff (t : ByteArray) (t' : ByteArray) (w : World) (ht : t.size ≤ 999999) (ht' : t'.size ≤ 999999) (hn : neverF 5 (strB t) false = false) : Calls Tryd.prog 33 #[.agg #[.int .i64 5, .string t, .bool false], .agg #[.int .i64 5, .string t', .bool false]] w (Told (.bool (holdsF 5 (strB t') false (strB t))) w) := by
  have cN := fun w => rnever_any 5 false t w ht
  rw [hn] at cN
  have cH := fun w => rholds_any 5 false t' t w (by omega) (by omega)
  generalize holdsF 5 (strB t') false (strB t) = z at *
  have hA := (Blk.alloc (w := w) [.int .i64 5, .string t, .bool false] 34).alloc_old (.cells #[.int .i64 5, .string t', .bool false] 34)
  have hB := Blk.alloc (w := w.alloc (.cells #[.int .i64 5, .string t, .bool false] 34)) [.int .i64 5, .string t', .bool false] 34
  have B0 : Below w.heap.size w ((w.alloc (.cells #[.int .i64 5, .string t, .bool false] 34)).alloc (.cells #[.int .i64 5, .string t', .bool false] 34)) := ((Below.refl _ w).alloc (Nat.le_refl _) _).alloc (by simp) _
  have hs : (w.alloc (.cells #[.int .i64 5, .string t, .bool false] 34)).heap.size = w.heap.size + 1 := by simp
  rw [hs] at hB
  have HA := Lib.hid hA
  have HB := Lib.hid hB
  obtain ⟨a0, a1, a2⟩ := cells3 hA
  obtain ⟨b0, b1, b2⟩ := cells3 hB
  clear hA hB hs
  go_enter Tryd.func33, Tryd.ntmps33
  go_wp2_with fail
  refine (cN _).mono ?_
  rintro e w1 ⟨rfl, hb1⟩
  have HA1 := Lib.hid (HA.out.later hb1 HA.out.lt)
  have HB1 := Lib.hid (HB.out.later hb1 HB.out.lt)
  have B1 := below_trans B0 hb1
  clear a0 a1 a2 b0 b1 b2 HA HB
  obtain ⟨a0, a1, a2⟩ := cells3 HA1.out
  obtain ⟨b0, b1, b2⟩ := cells3 HB1.out
  go_wp2_with fail
  refine (cH _).mono ?_
  rintro e w3 ⟨rfl, hb3⟩
  have HA3 := Lib.hid (HA1.out.later hb3 HA1.out.lt)
  have HB3 := Lib.hid (HB1.out.later hb3 HB1.out.lt)
  have B3 := below_trans B1 hb3
  clear a0 a1 a2 b0 b1 b2 HA1 HB1
  obtain ⟨a0, a1, a2⟩ := cells3 HA3.out
  obtain ⟨b0, b1, b2⟩ := cells3 HB3.out
  go_wp2
  go_ret
  exact ⟨rfl, B3⟩

set_option maxRecDepth 100000 in
set_option maxHeartbeats 4000000 in
theorem rimpl_c6ff (t : ByteArray) (t' : ByteArray) (w : World) (ht : t.size ≤ 999999) (ht' : t'.size ≤ 999999) (hn : neverF 6 (strB t) false = false) : Calls Tryd.prog 33 #[.agg #[.int .i64 6, .string t, .bool false], .agg #[.int .i64 6, .string t', .bool false]] w (Told (.bool (holdsF 6 (strB t') false (strB t))) w) := by
  have cN := fun w => rnever_any 6 false t w ht
  rw [hn] at cN
  have cH := fun w => rholds_any 6 false t' t w (by omega) (by omega)
  generalize holdsF 6 (strB t') false (strB t) = z at *
  have hA := (Blk.alloc (w := w) [.int .i64 6, .string t, .bool false] 34).alloc_old (.cells #[.int .i64 6, .string t', .bool false] 34)
  have hB := Blk.alloc (w := w.alloc (.cells #[.int .i64 6, .string t, .bool false] 34)) [.int .i64 6, .string t', .bool false] 34
  have B0 : Below w.heap.size w ((w.alloc (.cells #[.int .i64 6, .string t, .bool false] 34)).alloc (.cells #[.int .i64 6, .string t', .bool false] 34)) := ((Below.refl _ w).alloc (Nat.le_refl _) _).alloc (by simp) _
  have hs : (w.alloc (.cells #[.int .i64 6, .string t, .bool false] 34)).heap.size = w.heap.size + 1 := by simp
  rw [hs] at hB
  have HA := Lib.hid hA
  have HB := Lib.hid hB
  obtain ⟨a0, a1, a2⟩ := cells3 hA
  obtain ⟨b0, b1, b2⟩ := cells3 hB
  clear hA hB hs
  go_enter Tryd.func33, Tryd.ntmps33
  go_wp2_with fail
  refine (cN _).mono ?_
  rintro e w1 ⟨rfl, hb1⟩
  have HA1 := Lib.hid (HA.out.later hb1 HA.out.lt)
  have HB1 := Lib.hid (HB.out.later hb1 HB.out.lt)
  have B1 := below_trans B0 hb1
  clear a0 a1 a2 b0 b1 b2 HA HB
  obtain ⟨a0, a1, a2⟩ := cells3 HA1.out
  obtain ⟨b0, b1, b2⟩ := cells3 HB1.out
  go_wp2_with fail
  refine (cH _).mono ?_
  rintro e w3 ⟨rfl, hb3⟩
  have HA3 := Lib.hid (HA1.out.later hb3 HA1.out.lt)
  have HB3 := Lib.hid (HB1.out.later hb3 HB1.out.lt)
  have B3 := below_trans B1 hb3
  clear a0 a1 a2 b0 b1 b2 HA1 HB1
  obtain ⟨a0, a1, a2⟩ := cells3 HA3.out
  obtain ⟨b0, b1, b2⟩ := cells3 HB3.out
  go_wp2
  go_ret
  exact ⟨rfl, B3⟩

set_option maxRecDepth 100000 in
set_option maxHeartbeats 4000000 in
theorem rimpl_c7ff (t : ByteArray) (t' : ByteArray) (w : World) (ht : t.size ≤ 999999) (ht' : t'.size ≤ 999999) (hn : neverF 7 (strB t) false = false) : Calls Tryd.prog 33 #[.agg #[.int .i64 7, .string t, .bool false], .agg #[.int .i64 7, .string t', .bool false]] w (Told (.bool (holdsF 7 (strB t') false (strB t))) w) := by
  have cN := fun w => rnever_any 7 false t w ht
  rw [hn] at cN
  have cH := fun w => rholds_any 7 false t' t w (by omega) (by omega)
  generalize holdsF 7 (strB t') false (strB t) = z at *
  have hA := (Blk.alloc (w := w) [.int .i64 7, .string t, .bool false] 34).alloc_old (.cells #[.int .i64 7, .string t', .bool false] 34)
  have hB := Blk.alloc (w := w.alloc (.cells #[.int .i64 7, .string t, .bool false] 34)) [.int .i64 7, .string t', .bool false] 34
  have B0 : Below w.heap.size w ((w.alloc (.cells #[.int .i64 7, .string t, .bool false] 34)).alloc (.cells #[.int .i64 7, .string t', .bool false] 34)) := ((Below.refl _ w).alloc (Nat.le_refl _) _).alloc (by simp) _
  have hs : (w.alloc (.cells #[.int .i64 7, .string t, .bool false] 34)).heap.size = w.heap.size + 1 := by simp
  rw [hs] at hB
  have HA := Lib.hid hA
  have HB := Lib.hid hB
  obtain ⟨a0, a1, a2⟩ := cells3 hA
  obtain ⟨b0, b1, b2⟩ := cells3 hB
  clear hA hB hs
  go_enter Tryd.func33, Tryd.ntmps33
  go_wp2_with fail
  refine (cN _).mono ?_
  rintro e w1 ⟨rfl, hb1⟩
  have HA1 := Lib.hid (HA.out.later hb1 HA.out.lt)
  have HB1 := Lib.hid (HB.out.later hb1 HB.out.lt)
  have B1 := below_trans B0 hb1
  clear a0 a1 a2 b0 b1 b2 HA HB
  obtain ⟨a0, a1, a2⟩ := cells3 HA1.out
  obtain ⟨b0, b1, b2⟩ := cells3 HB1.out
  go_wp2_with fail
  refine (cH _).mono ?_
  rintro e w3 ⟨rfl, hb3⟩
  have HA3 := Lib.hid (HA1.out.later hb3 HA1.out.lt)
  have HB3 := Lib.hid (HB1.out.later hb3 HB1.out.lt)
  have B3 := below_trans B1 hb3
  clear a0 a1 a2 b0 b1 b2 HA1 HB1
  obtain ⟨a0, a1, a2⟩ := cells3 HA3.out
  obtain ⟨b0, b1, b2⟩ := cells3 HB3.out
  go_wp2
  go_ret
  exact ⟨rfl, B3⟩

set_option maxRecDepth 100000 in
set_option maxHeartbeats 4000000 in
theorem rimpl_e3ff (t : ByteArray) (t' : ByteArray) (w : World) (ht : t.size ≤ 999999) (ht' : t'.size ≤ 999999) (hn : neverF 3 (strB t) false = false) : Calls Tryd.prog 33 #[.agg #[.int .i64 3, .string t, .bool false], .agg #[.int .i64 7, .string t', .bool false]] w (Told (.bool (holdsF 7 (strB t') false (strB t))) w) := by
  have cN := fun w => rnever_any 3 false t w ht
  rw [hn] at cN
  have cH := fun w => rholds_any 7 false t' t w (by omega) (by omega)
  generalize holdsF 7 (strB t') false (strB t) = z at *
  have hA := (Blk.alloc (w := w) [.int .i64 3, .string t, .bool false] 34).alloc_old (.cells #[.int .i64 7, .string t', .bool false] 34)
  have hB := Blk.alloc (w := w.alloc (.cells #[.int .i64 3, .string t, .bool false] 34)) [.int .i64 7, .string t', .bool false] 34
  have B0 : Below w.heap.size w ((w.alloc (.cells #[.int .i64 3, .string t, .bool false] 34)).alloc (.cells #[.int .i64 7, .string t', .bool false] 34)) := ((Below.refl _ w).alloc (Nat.le_refl _) _).alloc (by simp) _
  have hs : (w.alloc (.cells #[.int .i64 3, .string t, .bool false] 34)).heap.size = w.heap.size + 1 := by simp
  rw [hs] at hB
  have HA := Lib.hid hA
  have HB := Lib.hid hB
  obtain ⟨a0, a1, a2⟩ := cells3 hA
  obtain ⟨b0, b1, b2⟩ := cells3 hB
  clear hA hB hs
  go_enter Tryd.func33, Tryd.ntmps33
  go_wp2_with fail
  refine (cN _).mono ?_
  rintro e w1 ⟨rfl, hb1⟩
  have HA1 := Lib.hid (HA.out.later hb1 HA.out.lt)
  have HB1 := Lib.hid (HB.out.later hb1 HB.out.lt)
  have B1 := below_trans B0 hb1
  clear a0 a1 a2 b0 b1 b2 HA HB
  obtain ⟨a0, a1, a2⟩ := cells3 HA1.out
  obtain ⟨b0, b1, b2⟩ := cells3 HB1.out
  go_wp2_with fail
  refine (cH _).mono ?_
  rintro e w3 ⟨rfl, hb3⟩
  have HA3 := Lib.hid (HA1.out.later hb3 HA1.out.lt)
  have HB3 := Lib.hid (HB1.out.later hb3 HB1.out.lt)
  have B3 := below_trans B1 hb3
  clear a0 a1 a2 b0 b1 b2 HA1 HB1
  obtain ⟨a0, a1, a2⟩ := cells3 HA3.out
  obtain ⟨b0, b1, b2⟩ := cells3 HB3.out
  go_wp2
  go_ret
  exact ⟨rfl, B3⟩

set_option maxRecDepth 100000 in
set_option maxHeartbeats 4000000 in
theorem rimpl_f3ff (t : ByteArray) (op' : Int) (t' : ByteArray) (w : World) (ht : t.size ≤ 999999) (ht' : t'.size ≤ 999999) (hn : neverF 3 (strB t) false = false) (h1 : op' ≠ 1) (he : op' ≠ 3) (h7 : op' ≠ 7) : Calls Tryd.prog 33 #[.agg #[.int .i64 3, .string t, .bool false], .agg #[.int .i64 op', .string t', .bool false]] w (Told (.bool false) w) := by
  have cN := fun w => rnever_any 3 false t w ht
  rw [hn] at cN
  have m1 : (op' == 1) = false := beq_eq_false_iff_ne.2 (by omega)
  have k0 : (3 == op') = false := beq_eq_false_iff_ne.2 (by omega)
  have k1 : (op' == 7) = false := beq_eq_false_iff_ne.2 (by omega)
  have hA := (Blk.alloc (w := w) [.int .i64 3, .string t, .bool false] 34).alloc_old (.cells #[.int .i64 op', .string t', .bool false] 34)
  have hB := Blk.alloc (w := w.alloc (.cells #[.int .i64 3, .string t, .bool false] 34)) [.int .i64 op', .string t', .bool false] 34
  have B0 : Below w.heap.size w ((w.alloc (.cells #[.int .i64 3, .string t, .bool false] 34)).alloc (.cells #[.int .i64 op', .string t', .bool false] 34)) := ((Below.refl _ w).alloc (Nat.le_refl _) _).alloc (by simp) _
  have hs : (w.alloc (.cells #[.int .i64 3, .string t, .bool false] 34)).heap.size = w.heap.size + 1 := by simp
  rw [hs] at hB
  have HA := Lib.hid hA
  have HB := Lib.hid hB
  obtain ⟨a0, a1, a2⟩ := cells3 hA
  obtain ⟨b0, b1, b2⟩ := cells3 hB
  clear hA hB hs
  go_enter Tryd.func33, Tryd.ntmps33
  go_wp2_with fail
  refine (cN _).mono ?_
  rintro e w1 ⟨rfl, hb1⟩
  have HA1 := Lib.hid (HA.out.later hb1 HA.out.lt)
  have HB1 := Lib.hid (HB.out.later hb1 HB.out.lt)
  have B1 := below_trans B0 hb1
  clear a0 a1 a2 b0 b1 b2 HA HB
  obtain ⟨a0, a1, a2⟩ := cells3 HA1.out
  obtain ⟨b0, b1, b2⟩ := cells3 HB1.out
  go_wp2
  go_ret
  exact ⟨rfl, B1⟩

set_option maxRecDepth 100000 in
set_option maxHeartbeats 4000000 in
theorem rimpl_e5ff (t : ByteArray) (t' : ByteArray) (w : World) (ht : t.size ≤ 999999) (ht' : t'.size ≤ 999999) (hn : neverF 5 (strB t) false = false) : Calls Tryd.prog 33 #[.agg #[.int .i64 5, .string t, .bool false], .agg #[.int .i64 7, .string t', .bool false]] w (Told (.bool (holdsF 7 (strB t') false (strB t))) w) := by
  have cN := fun w => rnever_any 5 false t w ht
  rw [hn] at cN
  have cH := fun w => rholds_any 7 false t' t w (by omega) (by omega)
  generalize holdsF 7 (strB t') false (strB t) = z at *
  have hA := (Blk.alloc (w := w) [.int .i64 5, .string t, .bool false] 34).alloc_old (.cells #[.int .i64 7, .string t', .bool false] 34)
  have hB := Blk.alloc (w := w.alloc (.cells #[.int .i64 5, .string t, .bool false] 34)) [.int .i64 7, .string t', .bool false] 34
  have B0 : Below w.heap.size w ((w.alloc (.cells #[.int .i64 5, .string t, .bool false] 34)).alloc (.cells #[.int .i64 7, .string t', .bool false] 34)) := ((Below.refl _ w).alloc (Nat.le_refl _) _).alloc (by simp) _
  have hs : (w.alloc (.cells #[.int .i64 5, .string t, .bool false] 34)).heap.size = w.heap.size + 1 := by simp
  rw [hs] at hB
  have HA := Lib.hid hA
  have HB := Lib.hid hB
  obtain ⟨a0, a1, a2⟩ := cells3 hA
  obtain ⟨b0, b1, b2⟩ := cells3 hB
  clear hA hB hs
  go_enter Tryd.func33, Tryd.ntmps33
  go_wp2_with fail
  refine (cN _).mono ?_
  rintro e w1 ⟨rfl, hb1⟩
  have HA1 := Lib.hid (HA.out.later hb1 HA.out.lt)
  have HB1 := Lib.hid (HB.out.later hb1 HB.out.lt)
  have B1 := below_trans B0 hb1
  clear a0 a1 a2 b0 b1 b2 HA HB
  obtain ⟨a0, a1, a2⟩ := cells3 HA1.out
  obtain ⟨b0, b1, b2⟩ := cells3 HB1.out
  go_wp2_with fail
  refine (cH _).mono ?_
  rintro e w3 ⟨rfl, hb3⟩
  have HA3 := Lib.hid (HA1.out.later hb3 HA1.out.lt)
  have HB3 := Lib.hid (HB1.out.later hb3 HB1.out.lt)
  have B3 := below_trans B1 hb3
  clear a0 a1 a2 b0 b1 b2 HA1 HB1
  obtain ⟨a0, a1, a2⟩ := cells3 HA3.out
  obtain ⟨b0, b1, b2⟩ := cells3 HB3.out
  go_wp2
  go_ret
  exact ⟨rfl, B3⟩

set_option maxRecDepth 100000 in
set_option maxHeartbeats 4000000 in
theorem rimpl_f5ff (t : ByteArray) (op' : Int) (t' : ByteArray) (w : World) (ht : t.size ≤ 999999) (ht' : t'.size ≤ 999999) (hn : neverF 5 (strB t) false = false) (h1 : op' ≠ 1) (he : op' ≠ 5) (h7 : op' ≠ 7) : Calls Tryd.prog 33 #[.agg #[.int .i64 5, .string t, .bool false], .agg #[.int .i64 op', .string t', .bool false]] w (Told (.bool false) w) := by
  have cN := fun w => rnever_any 5 false t w ht
  rw [hn] at cN
  have m1 : (op' == 1) = false := beq_eq_false_iff_ne.2 (by omega)
  have k0 : (5 == op') = false := beq_eq_false_iff_ne.2 (by omega)
  have k1 : (op' == 7) = false := beq_eq_false_iff_ne.2 (by omega)
  have hA := (Blk.alloc (w := w) [.int .i64 5, .string t, .bool false] 34).alloc_old (.cells #[.int .i64 op', .string t', .bool false] 34)
  have hB := Blk.alloc (w := w.alloc (.cells #[.int .i64 5, .string t, .bool false] 34)) [.int .i64 op', .string t', .bool false] 34
  have B0 : Below w.heap.size w ((w.alloc (.cells #[.int .i64 5, .string t, .bool false] 34)).alloc (.cells #[.int .i64 op', .string t', .bool false] 34)) := ((Below.refl _ w).alloc (Nat.le_refl _) _).alloc (by simp) _
  have hs : (w.alloc (.cells #[.int .i64 5, .string t, .bool false] 34)).heap.size = w.heap.size + 1 := by simp
  rw [hs] at hB
  have HA := Lib.hid hA
  have HB := Lib.hid hB
  obtain ⟨a0, a1, a2⟩ := cells3 hA
  obtain ⟨b0, b1, b2⟩ := cells3 hB
  clear hA hB hs
  go_enter Tryd.func33, Tryd.ntmps33
  go_wp2_with fail
  refine (cN _).mono ?_
  rintro e w1 ⟨rfl, hb1⟩
  have HA1 := Lib.hid (HA.out.later hb1 HA.out.lt)
  have HB1 := Lib.hid (HB.out.later hb1 HB.out.lt)
  have B1 := below_trans B0 hb1
  clear a0 a1 a2 b0 b1 b2 HA HB
  obtain ⟨a0, a1, a2⟩ := cells3 HA1.out
  obtain ⟨b0, b1, b2⟩ := cells3 HB1.out
  go_wp2
  go_ret
  exact ⟨rfl, B1⟩

set_option maxRecDepth 100000 in
set_option maxHeartbeats 4000000 in
theorem rimpl_e6ff (t : ByteArray) (t' : ByteArray) (w : World) (ht : t.size ≤ 999999) (ht' : t'.size ≤ 999999) (hn : neverF 6 (strB t) false = false) : Calls Tryd.prog 33 #[.agg #[.int .i64 6, .string t, .bool false], .agg #[.int .i64 7, .string t', .bool false]] w (Told (.bool (holdsF 7 (strB t') false (strB t))) w) := by
  have cN := fun w => rnever_any 6 false t w ht
  rw [hn] at cN
  have cH := fun w => rholds_any 7 false t' t w (by omega) (by omega)
  generalize holdsF 7 (strB t') false (strB t) = z at *
  have hA := (Blk.alloc (w := w) [.int .i64 6, .string t, .bool false] 34).alloc_old (.cells #[.int .i64 7, .string t', .bool false] 34)
  have hB := Blk.alloc (w := w.alloc (.cells #[.int .i64 6, .string t, .bool false] 34)) [.int .i64 7, .string t', .bool false] 34
  have B0 : Below w.heap.size w ((w.alloc (.cells #[.int .i64 6, .string t, .bool false] 34)).alloc (.cells #[.int .i64 7, .string t', .bool false] 34)) := ((Below.refl _ w).alloc (Nat.le_refl _) _).alloc (by simp) _
  have hs : (w.alloc (.cells #[.int .i64 6, .string t, .bool false] 34)).heap.size = w.heap.size + 1 := by simp
  rw [hs] at hB
  have HA := Lib.hid hA
  have HB := Lib.hid hB
  obtain ⟨a0, a1, a2⟩ := cells3 hA
  obtain ⟨b0, b1, b2⟩ := cells3 hB
  clear hA hB hs
  go_enter Tryd.func33, Tryd.ntmps33
  go_wp2_with fail
  refine (cN _).mono ?_
  rintro e w1 ⟨rfl, hb1⟩
  have HA1 := Lib.hid (HA.out.later hb1 HA.out.lt)
  have HB1 := Lib.hid (HB.out.later hb1 HB.out.lt)
  have B1 := below_trans B0 hb1
  clear a0 a1 a2 b0 b1 b2 HA HB
  obtain ⟨a0, a1, a2⟩ := cells3 HA1.out
  obtain ⟨b0, b1, b2⟩ := cells3 HB1.out
  go_wp2_with fail
  refine (cH _).mono ?_
  rintro e w3 ⟨rfl, hb3⟩
  have HA3 := Lib.hid (HA1.out.later hb3 HA1.out.lt)
  have HB3 := Lib.hid (HB1.out.later hb3 HB1.out.lt)
  have B3 := below_trans B1 hb3
  clear a0 a1 a2 b0 b1 b2 HA1 HB1
  obtain ⟨a0, a1, a2⟩ := cells3 HA3.out
  obtain ⟨b0, b1, b2⟩ := cells3 HB3.out
  go_wp2
  go_ret
  exact ⟨rfl, B3⟩

set_option maxRecDepth 100000 in
set_option maxHeartbeats 4000000 in
theorem rimpl_f6ff (t : ByteArray) (op' : Int) (t' : ByteArray) (w : World) (ht : t.size ≤ 999999) (ht' : t'.size ≤ 999999) (hn : neverF 6 (strB t) false = false) (h1 : op' ≠ 1) (he : op' ≠ 6) (h7 : op' ≠ 7) : Calls Tryd.prog 33 #[.agg #[.int .i64 6, .string t, .bool false], .agg #[.int .i64 op', .string t', .bool false]] w (Told (.bool false) w) := by
  have cN := fun w => rnever_any 6 false t w ht
  rw [hn] at cN
  have m1 : (op' == 1) = false := beq_eq_false_iff_ne.2 (by omega)
  have k0 : (6 == op') = false := beq_eq_false_iff_ne.2 (by omega)
  have k1 : (op' == 7) = false := beq_eq_false_iff_ne.2 (by omega)
  have hA := (Blk.alloc (w := w) [.int .i64 6, .string t, .bool false] 34).alloc_old (.cells #[.int .i64 op', .string t', .bool false] 34)
  have hB := Blk.alloc (w := w.alloc (.cells #[.int .i64 6, .string t, .bool false] 34)) [.int .i64 op', .string t', .bool false] 34
  have B0 : Below w.heap.size w ((w.alloc (.cells #[.int .i64 6, .string t, .bool false] 34)).alloc (.cells #[.int .i64 op', .string t', .bool false] 34)) := ((Below.refl _ w).alloc (Nat.le_refl _) _).alloc (by simp) _
  have hs : (w.alloc (.cells #[.int .i64 6, .string t, .bool false] 34)).heap.size = w.heap.size + 1 := by simp
  rw [hs] at hB
  have HA := Lib.hid hA
  have HB := Lib.hid hB
  obtain ⟨a0, a1, a2⟩ := cells3 hA
  obtain ⟨b0, b1, b2⟩ := cells3 hB
  clear hA hB hs
  go_enter Tryd.func33, Tryd.ntmps33
  go_wp2_with fail
  refine (cN _).mono ?_
  rintro e w1 ⟨rfl, hb1⟩
  have HA1 := Lib.hid (HA.out.later hb1 HA.out.lt)
  have HB1 := Lib.hid (HB.out.later hb1 HB.out.lt)
  have B1 := below_trans B0 hb1
  clear a0 a1 a2 b0 b1 b2 HA HB
  obtain ⟨a0, a1, a2⟩ := cells3 HA1.out
  obtain ⟨b0, b1, b2⟩ := cells3 HB1.out
  go_wp2
  go_ret
  exact ⟨rfl, B1⟩

set_option maxRecDepth 100000 in
set_option maxHeartbeats 4000000 in
theorem rimpl_gff (op : Int) (t : ByteArray) (op' : Int) (t' : ByteArray) (w : World) (ht : t.size ≤ 999999) (ht' : t'.size ≤ 999999) (hn : neverF op (strB t) false = false) (h1 : op' ≠ 1) (h2 : op ≠ 2) (h3 : op ≠ 3) (h5 : op ≠ 5) (h6 : op ≠ 6) (he : op ≠ op') : Calls Tryd.prog 33 #[.agg #[.int .i64 op, .string t, .bool false], .agg #[.int .i64 op', .string t', .bool false]] w (Told (.bool false) w) := by
  have cN := fun w => rnever_any op false t w ht
  rw [hn] at cN
  have m1 : (op' == 1) = false := beq_eq_false_iff_ne.2 (by omega)
  have k0 : (op == 2) = false := beq_eq_false_iff_ne.2 (by omega)
  have k1 : (op == 3) = false := beq_eq_false_iff_ne.2 (by omega)
  have k2 : (op == 5) = false := beq_eq_false_iff_ne.2 (by omega)
  have k3 : (op == 6) = false := beq_eq_false_iff_ne.2 (by omega)
  have k4 : (op == op') = false := beq_eq_false_iff_ne.2 (by omega)
  have hA := (Blk.alloc (w := w) [.int .i64 op, .string t, .bool false] 34).alloc_old (.cells #[.int .i64 op', .string t', .bool false] 34)
  have hB := Blk.alloc (w := w.alloc (.cells #[.int .i64 op, .string t, .bool false] 34)) [.int .i64 op', .string t', .bool false] 34
  have B0 : Below w.heap.size w ((w.alloc (.cells #[.int .i64 op, .string t, .bool false] 34)).alloc (.cells #[.int .i64 op', .string t', .bool false] 34)) := ((Below.refl _ w).alloc (Nat.le_refl _) _).alloc (by simp) _
  have hs : (w.alloc (.cells #[.int .i64 op, .string t, .bool false] 34)).heap.size = w.heap.size + 1 := by simp
  rw [hs] at hB
  have HA := Lib.hid hA
  have HB := Lib.hid hB
  obtain ⟨a0, a1, a2⟩ := cells3 hA
  obtain ⟨b0, b1, b2⟩ := cells3 hB
  clear hA hB hs
  go_enter Tryd.func33, Tryd.ntmps33
  go_wp2_with fail
  refine (cN _).mono ?_
  rintro e w1 ⟨rfl, hb1⟩
  have HA1 := Lib.hid (HA.out.later hb1 HA.out.lt)
  have HB1 := Lib.hid (HB.out.later hb1 HB.out.lt)
  have B1 := below_trans B0 hb1
  clear a0 a1 a2 b0 b1 b2 HA HB
  obtain ⟨a0, a1, a2⟩ := cells3 HA1.out
  obtain ⟨b0, b1, b2⟩ := cells3 HB1.out
  go_wp2
  go_ret
  exact ⟨rfl, B1⟩

set_option maxRecDepth 100000 in
set_option maxHeartbeats 4000000 in
theorem rimpl_hff (op : Int) (t : ByteArray) (t' : ByteArray) (w : World) (ht : t.size ≤ 999999) (ht' : t'.size ≤ 999999) (hn : neverF op (strB t) false = false) (h1 : op ≠ 1) (h2 : op ≠ 2) (h3 : op ≠ 3) (h4 : op ≠ 4) (h5 : op < 5) : Calls Tryd.prog 33 #[.agg #[.int .i64 op, .string t, .bool false], .agg #[.int .i64 op, .string t', .bool false]] w (Told (.bool false) w) := by
  have cN := fun w => rnever_any op false t w ht
  rw [hn] at cN
  have k0 : (op == 1) = false := beq_eq_false_iff_ne.2 (by omega)
  have k1 : (op == 2) = false := beq_eq_false_iff_ne.2 (by omega)
  have k2 : (op == 3) = false := beq_eq_false_iff_ne.2 (by omega)
  have k3 : (op == 4) = false := beq_eq_false_iff_ne.2 (by omega)
  have k4 : (op == 5) = false := beq_eq_false_iff_ne.2 (by omega)
  have k5 : (op == 6) = false := beq_eq_false_iff_ne.2 (by omega)
  have k9 : (op == op) = true := beq_self_eq_true op
  have k10 : ¬ (5 : Int) ≤ op := by omega
  have hA := (Blk.alloc (w := w) [.int .i64 op, .string t, .bool false] 34).alloc_old (.cells #[.int .i64 op, .string t', .bool false] 34)
  have hB := Blk.alloc (w := w.alloc (.cells #[.int .i64 op, .string t, .bool false] 34)) [.int .i64 op, .string t', .bool false] 34
  have B0 : Below w.heap.size w ((w.alloc (.cells #[.int .i64 op, .string t, .bool false] 34)).alloc (.cells #[.int .i64 op, .string t', .bool false] 34)) := ((Below.refl _ w).alloc (Nat.le_refl _) _).alloc (by simp) _
  have hs : (w.alloc (.cells #[.int .i64 op, .string t, .bool false] 34)).heap.size = w.heap.size + 1 := by simp
  rw [hs] at hB
  have HA := Lib.hid hA
  have HB := Lib.hid hB
  obtain ⟨a0, a1, a2⟩ := cells3 hA
  obtain ⟨b0, b1, b2⟩ := cells3 hB
  clear hA hB hs
  go_enter Tryd.func33, Tryd.ntmps33
  go_wp2_with fail
  refine (cN _).mono ?_
  rintro e w1 ⟨rfl, hb1⟩
  have HA1 := Lib.hid (HA.out.later hb1 HA.out.lt)
  have HB1 := Lib.hid (HB.out.later hb1 HB.out.lt)
  have B1 := below_trans B0 hb1
  clear a0 a1 a2 b0 b1 b2 HA HB
  obtain ⟨a0, a1, a2⟩ := cells3 HA1.out
  obtain ⟨b0, b1, b2⟩ := cells3 HB1.out
  go_wp2
  go_ret
  exact ⟨rfl, B1⟩

set_option maxRecDepth 100000 in
set_option maxHeartbeats 4000000 in
theorem rimpl_iff (op : Int) (t : ByteArray) (t' : ByteArray) (w : World) (ht : t.size ≤ 999999) (ht' : t'.size ≤ 999999) (hn : neverF op (strB t) false = false) (h5 : 7 < op) : Calls Tryd.prog 33 #[.agg #[.int .i64 op, .string t, .bool false], .agg #[.int .i64 op, .string t', .bool false]] w (Told (.bool false) w) := by
  have cN := fun w => rnever_any op false t w ht
  rw [hn] at cN
  have k0 : (op == 1) = false := beq_eq_false_iff_ne.2 (by omega)
  have k1 : (op == 2) = false := beq_eq_false_iff_ne.2 (by omega)
  have k2 : (op == 3) = false := beq_eq_false_iff_ne.2 (by omega)
  have k3 : (op == 4) = false := beq_eq_false_iff_ne.2 (by omega)
  have k4 : (op == 5) = false := beq_eq_false_iff_ne.2 (by omega)
  have k5 : (op == 6) = false := beq_eq_false_iff_ne.2 (by omega)
  have k9 : (op == op) = true := beq_self_eq_true op
  have k10 : (5 : Int) ≤ op := by omega
  have k11 : ¬ op ≤ (7 : Int) := by omega
  have hA := (Blk.alloc (w := w) [.int .i64 op, .string t, .bool false] 34).alloc_old (.cells #[.int .i64 op, .string t', .bool false] 34)
  have hB := Blk.alloc (w := w.alloc (.cells #[.int .i64 op, .string t, .bool false] 34)) [.int .i64 op, .string t', .bool false] 34
  have B0 : Below w.heap.size w ((w.alloc (.cells #[.int .i64 op, .string t, .bool false] 34)).alloc (.cells #[.int .i64 op, .string t', .bool false] 34)) := ((Below.refl _ w).alloc (Nat.le_refl _) _).alloc (by simp) _
  have hs : (w.alloc (.cells #[.int .i64 op, .string t, .bool false] 34)).heap.size = w.heap.size + 1 := by simp
  rw [hs] at hB
  have HA := Lib.hid hA
  have HB := Lib.hid hB
  obtain ⟨a0, a1, a2⟩ := cells3 hA
  obtain ⟨b0, b1, b2⟩ := cells3 hB
  clear hA hB hs
  go_enter Tryd.func33, Tryd.ntmps33
  go_wp2_with fail
  refine (cN _).mono ?_
  rintro e w1 ⟨rfl, hb1⟩
  have HA1 := Lib.hid (HA.out.later hb1 HA.out.lt)
  have HB1 := Lib.hid (HB.out.later hb1 HB.out.lt)
  have B1 := below_trans B0 hb1
  clear a0 a1 a2 b0 b1 b2 HA HB
  obtain ⟨a0, a1, a2⟩ := cells3 HA1.out
  obtain ⟨b0, b1, b2⟩ := cells3 HB1.out
  go_wp2
  go_ret
  exact ⟨rfl, B1⟩

set_option maxRecDepth 100000 in
set_option maxHeartbeats 4000000 in
theorem rimpl_aft (t : ByteArray) (op' : Int) (t' : ByteArray) (w : World) (ht : t.size ≤ 999999) (ht' : t'.size ≤ 999999) (hn : neverF 2 (strB t) false = false) (h1 : op' ≠ 1) : Calls Tryd.prog 33 #[.agg #[.int .i64 2, .string t, .bool false], .agg #[.int .i64 op', .string t', .bool true]] w (Told (.bool (holdsF op' (strB t') true (strB t))) w) := by
  have cN := fun w => rnever_any 2 false t w ht
  rw [hn] at cN
  have m1 : (op' == 1) = false := beq_eq_false_iff_ne.2 (by omega)
  have cH := fun w => rholds_any op' true t' t w (by omega) (by omega)
  generalize holdsF op' (strB t') true (strB t) = z at *
  have hA := (Blk.alloc (w := w) [.int .i64 2, .string t, .bool false] 34).alloc_old (.cells #[.int .i64 op', .string t', .bool true] 34)
  have hB := Blk.alloc (w := w.alloc (.cells #[.int .i64 2, .string t, .bool false] 34)) [.int .i64 op', .string t', .bool true] 34
  have B0 : Below w.heap.size w ((w.alloc (.cells #[.int .i64 2, .string t, .bool false] 34)).alloc (.cells #[.int .i64 op', .string t', .bool true] 34)) := ((Below.refl _ w).alloc (Nat.le_refl _) _).alloc (by simp) _
  have hs : (w.alloc (.cells #[.int .i64 2, .string t, .bool false] 34)).heap.size = w.heap.size + 1 := by simp
  rw [hs] at hB
  have HA := Lib.hid hA
  have HB := Lib.hid hB
  obtain ⟨a0, a1, a2⟩ := cells3 hA
  obtain ⟨b0, b1, b2⟩ := cells3 hB
  clear hA hB hs
  go_enter Tryd.func33, Tryd.ntmps33
  go_wp2_with fail
  refine (cN _).mono ?_
  rintro e w1 ⟨rfl, hb1⟩
  have HA1 := Lib.hid (HA.out.later hb1 HA.out.lt)
  have HB1 := Lib.hid (HB.out.later hb1 HB.out.lt)
  have B1 := below_trans B0 hb1
  clear a0 a1 a2 b0 b1 b2 HA HB
  obtain ⟨a0, a1, a2⟩ := cells3 HA1.out
  obtain ⟨b0, b1, b2⟩ := cells3 HB1.out
  go_wp2_with fail
  have cL1 := fun w => rlower_any t w (by omega)
  have cL2 := fun w => rlower_any t' w (by omega)
  have HS0 : Hid (LowS [.int .i64 2, .string t, .bool false] [.int .i64 op', .string t', .bool true] w w1.drew) := Lib.hid ⟨HA1.out, HB1.out, B1.drew⟩
  have q0 := (cells3 HS0.out.1).2.1
  have q1 := (cells3 HS0.out.2.1).2.1
  clear a0 a1 a2 b0 b1 b2 HA1 HB1
  go_region_held3 (fun w' => w'.cell? ⟨w.heap.size, 1, none⟩ = some (.string t) ∧ w'.cell? ⟨w.heap.size + 1, 1, none⟩ = some (.string t'))
    (first | exact ⟨q0, q1⟩ | exact ⟨(cells3 HS1.out.1).2.1, (cells3 HS1.out.2.1).2.1⟩ | exact ⟨(cells3 HS2.out.1).2.1, (cells3 HS2.out.2.1).2.1⟩)
    (first
      | (go_at_call 14; (with_reducible refine (cL1 w1.drew).mono ?_); rintro e w5 ⟨rfl, hb5⟩; have HS1 := Lib.hid (HS0.out.later hb5))
      | (go_at_call 14; (with_reducible refine (cL2 w5).mono ?_); rintro e w6 ⟨rfl, hb6⟩; have HS2 := Lib.hid (HS1.out.later hb6)))
  clear q0 q1 cL1 cL2
  have HA2 : Hid (Blk w6 w.heap.size [.int .i64 2, .string t, .bool false] 34) := Lib.hid HS2.out.1
  have HB2 : Hid (Blk w6 (w.heap.size + 1) [.int .i64 op', .string t', .bool true] 34) := Lib.hid HS2.out.2.1
  have B2 := HS2.out.2.2
  obtain ⟨a0, a1, a2⟩ := cells3 HA2.out
  obtain ⟨b0, b1, b2⟩ := cells3 HB2.out
  go_wp2_with fail
  refine (cH _).mono ?_
  rintro e w3 ⟨rfl, hb3⟩
  have HA3 := Lib.hid (HA2.out.later hb3 HA2.out.lt)
  have HB3 := Lib.hid (HB2.out.later hb3 HB2.out.lt)
  have B3 := below_trans B2 hb3
  clear a0 a1 a2 b0 b1 b2 HA2 HB2
  obtain ⟨a0, a1, a2⟩ := cells3 HA3.out
  obtain ⟨b0, b1, b2⟩ := cells3 HB3.out
  go_wp2
  go_ret
  exact ⟨rfl, B3⟩

set_option maxRecDepth 100000 in
set_option maxHeartbeats 4000000 in
theorem rimpl_b3ft (t : ByteArray) (t' : ByteArray) (w : World) (ht : t.size ≤ 999999) (ht' : t'.size ≤ 999999) (hn : neverF 3 (strB t) false = false) : Calls Tryd.prog 33 #[.agg #[.int .i64 3, .string t, .bool false], .agg #[.int .i64 3, .string t', .bool true]] w (Told (.bool (oneF true (strB t) (strB t'))) w) := by
  have cN := fun w => rnever_any 3 false t w ht
  rw [hn] at cN
  have hA := (Blk.alloc (w := w) [.int .i64 3, .string t, .bool false] 34).alloc_old (.cells #[.int .i64 3, .string t', .bool true] 34)
  have hB := Blk.alloc (w := w.alloc (.cells #[.int .i64 3, .string t, .bool false] 34)) [.int .i64 3, .string t', .bool true] 34
  have B0 : Below w.heap.size w ((w.alloc (.cells #[.int .i64 3, .string t, .bool false] 34)).alloc (.cells #[.int .i64 3, .string t', .bool true] 34)) := ((Below.refl _ w).alloc (Nat.le_refl _) _).alloc (by simp) _
  have hs : (w.alloc (.cells #[.int .i64 3, .string t, .bool false] 34)).heap.size = w.heap.size + 1 := by simp
  rw [hs] at hB
  have HA := Lib.hid hA
  have HB := Lib.hid hB
  obtain ⟨a0, a1, a2⟩ := cells3 hA
  obtain ⟨b0, b1, b2⟩ := cells3 hB
  clear hA hB hs
  go_enter Tryd.func33, Tryd.ntmps33
  go_wp2_with fail
  refine (cN _).mono ?_
  rintro e w1 ⟨rfl, hb1⟩
  have HA1 := Lib.hid (HA.out.later hb1 HA.out.lt)
  have HB1 := Lib.hid (HB.out.later hb1 HB.out.lt)
  have B1 := below_trans B0 hb1
  clear a0 a1 a2 b0 b1 b2 HA HB
  obtain ⟨a0, a1, a2⟩ := cells3 HA1.out
  obtain ⟨b0, b1, b2⟩ := cells3 HB1.out
  go_wp2_with fail
  have cL1 := fun w => rlower_any t w (by omega)
  have cL2 := fun w => rlower_any t' w (by omega)
  have HS0 : Hid (LowS [.int .i64 3, .string t, .bool false] [.int .i64 3, .string t', .bool true] w w1.drew) := Lib.hid ⟨HA1.out, HB1.out, B1.drew⟩
  have q0 := (cells3 HS0.out.1).2.1
  have q1 := (cells3 HS0.out.2.1).2.1
  clear a0 a1 a2 b0 b1 b2 HA1 HB1
  go_region_held3 (fun w' => w'.cell? ⟨w.heap.size, 1, none⟩ = some (.string t) ∧ w'.cell? ⟨w.heap.size + 1, 1, none⟩ = some (.string t'))
    (first | exact ⟨q0, q1⟩ | exact ⟨(cells3 HS1.out.1).2.1, (cells3 HS1.out.2.1).2.1⟩ | exact ⟨(cells3 HS2.out.1).2.1, (cells3 HS2.out.2.1).2.1⟩)
    (first
      | (go_at_call 14; (with_reducible refine (cL1 w1.drew).mono ?_); rintro e w5 ⟨rfl, hb5⟩; have HS1 := Lib.hid (HS0.out.later hb5))
      | (go_at_call 14; (with_reducible refine (cL2 w5).mono ?_); rintro e w6 ⟨rfl, hb6⟩; have HS2 := Lib.hid (HS1.out.later hb6)))
  clear q0 q1 cL1 cL2
  have HA2 : Hid (Blk w6 w.heap.size [.int .i64 3, .string t, .bool false] 34) := Lib.hid HS2.out.1
  have HB2 : Hid (Blk w6 (w.heap.size + 1) [.int .i64 3, .string t', .bool true] 34) := Lib.hid HS2.out.2.1
  have B2 := HS2.out.2.2
  obtain ⟨a0, a1, a2⟩ := cells3 HA2.out
  obtain ⟨b0, b1, b2⟩ := cells3 HB2.out
  go_wp2
  go_ret
  exact ⟨by rw [← low_beq t t']; rfl, B2⟩

set_option maxRecDepth 100000 in
set_option maxHeartbeats 4000000 in
theorem rimpl_b4ft (t : ByteArray) (t' : ByteArray) (w : World) (ht : t.size ≤ 999999) (ht' : t'.size ≤ 999999) (hn : neverF 4 (strB t) false = false) : Calls Tryd.prog 33 #[.agg #[.int .i64 4, .string t, .bool false], .agg #[.int .i64 4, .string t', .bool true]] w (Told (.bool (oneF true (strB t) (strB t'))) w) := by
  have cN := fun w => rnever_any 4 false t w ht
  rw [hn] at cN
  have hA := (Blk.alloc (w := w) [.int .i64 4, .string t, .bool false] 34).alloc_old (.cells #[.int .i64 4, .string t', .bool true] 34)
  have hB := Blk.alloc (w := w.alloc (.cells #[.int .i64 4, .string t, .bool false] 34)) [.int .i64 4, .string t', .bool true] 34
  have B0 : Below w.heap.size w ((w.alloc (.cells #[.int .i64 4, .string t, .bool false] 34)).alloc (.cells #[.int .i64 4, .string t', .bool true] 34)) := ((Below.refl _ w).alloc (Nat.le_refl _) _).alloc (by simp) _
  have hs : (w.alloc (.cells #[.int .i64 4, .string t, .bool false] 34)).heap.size = w.heap.size + 1 := by simp
  rw [hs] at hB
  have HA := Lib.hid hA
  have HB := Lib.hid hB
  obtain ⟨a0, a1, a2⟩ := cells3 hA
  obtain ⟨b0, b1, b2⟩ := cells3 hB
  clear hA hB hs
  go_enter Tryd.func33, Tryd.ntmps33
  go_wp2_with fail
  refine (cN _).mono ?_
  rintro e w1 ⟨rfl, hb1⟩
  have HA1 := Lib.hid (HA.out.later hb1 HA.out.lt)
  have HB1 := Lib.hid (HB.out.later hb1 HB.out.lt)
  have B1 := below_trans B0 hb1
  clear a0 a1 a2 b0 b1 b2 HA HB
  obtain ⟨a0, a1, a2⟩ := cells3 HA1.out
  obtain ⟨b0, b1, b2⟩ := cells3 HB1.out
  go_wp2_with fail
  have cL1 := fun w => rlower_any t w (by omega)
  have cL2 := fun w => rlower_any t' w (by omega)
  have HS0 : Hid (LowS [.int .i64 4, .string t, .bool false] [.int .i64 4, .string t', .bool true] w w1.drew) := Lib.hid ⟨HA1.out, HB1.out, B1.drew⟩
  have q0 := (cells3 HS0.out.1).2.1
  have q1 := (cells3 HS0.out.2.1).2.1
  clear a0 a1 a2 b0 b1 b2 HA1 HB1
  go_region_held3 (fun w' => w'.cell? ⟨w.heap.size, 1, none⟩ = some (.string t) ∧ w'.cell? ⟨w.heap.size + 1, 1, none⟩ = some (.string t'))
    (first | exact ⟨q0, q1⟩ | exact ⟨(cells3 HS1.out.1).2.1, (cells3 HS1.out.2.1).2.1⟩ | exact ⟨(cells3 HS2.out.1).2.1, (cells3 HS2.out.2.1).2.1⟩)
    (first
      | (go_at_call 14; (with_reducible refine (cL1 w1.drew).mono ?_); rintro e w5 ⟨rfl, hb5⟩; have HS1 := Lib.hid (HS0.out.later hb5))
      | (go_at_call 14; (with_reducible refine (cL2 w5).mono ?_); rintro e w6 ⟨rfl, hb6⟩; have HS2 := Lib.hid (HS1.out.later hb6)))
  clear q0 q1 cL1 cL2
  have HA2 : Hid (Blk w6 w.heap.size [.int .i64 4, .string t, .bool false] 34) := Lib.hid HS2.out.1
  have HB2 : Hid (Blk w6 (w.heap.size + 1) [.int .i64 4, .string t', .bool true] 34) := Lib.hid HS2.out.2.1
  have B2 := HS2.out.2.2
  obtain ⟨a0, a1, a2⟩ := cells3 HA2.out
  obtain ⟨b0, b1, b2⟩ := cells3 HB2.out
  go_wp2
  go_ret
  exact ⟨by rw [← low_beq t t']; rfl, B2⟩

set_option maxRecDepth 100000 in
set_option maxHeartbeats 4000000 in
theorem rimpl_c5ft (t : ByteArray) (t' : ByteArray) (w : World) (ht : t.size ≤ 999999) (ht' : t'.size ≤ 999999) (hn : neverF 5 (strB t) false = false) : Calls Tryd.prog 33 #[.agg #[.int .i64 5, .string t, .bool false], .agg #[.int .i64 5, .string t', .bool true]] w (Told (.bool (holdsF 5 (strB t') true (strB t))) w) := by
  have cN := fun w => rnever_any 5 false t w ht
  rw [hn] at cN
  have cH := fun w => rholds_any 5 true t' t w (by omega) (by omega)
  generalize holdsF 5 (strB t') true (strB t) = z at *
  have hA := (Blk.alloc (w := w) [.int .i64 5, .string t, .bool false] 34).alloc_old (.cells #[.int .i64 5, .string t', .bool true] 34)
  have hB := Blk.alloc (w := w.alloc (.cells #[.int .i64 5, .string t, .bool false] 34)) [.int .i64 5, .string t', .bool true] 34
  have B0 : Below w.heap.size w ((w.alloc (.cells #[.int .i64 5, .string t, .bool false] 34)).alloc (.cells #[.int .i64 5, .string t', .bool true] 34)) := ((Below.refl _ w).alloc (Nat.le_refl _) _).alloc (by simp) _
  have hs : (w.alloc (.cells #[.int .i64 5, .string t, .bool false] 34)).heap.size = w.heap.size + 1 := by simp
  rw [hs] at hB
  have HA := Lib.hid hA
  have HB := Lib.hid hB
  obtain ⟨a0, a1, a2⟩ := cells3 hA
  obtain ⟨b0, b1, b2⟩ := cells3 hB
  clear hA hB hs
  go_enter Tryd.func33, Tryd.ntmps33
  go_wp2_with fail
  refine (cN _).mono ?_
  rintro e w1 ⟨rfl, hb1⟩
  have HA1 := Lib.hid (HA.out.later hb1 HA.out.lt)
  have HB1 := Lib.hid (HB.out.later hb1 HB.out.lt)
  have B1 := below_trans B0 hb1
  clear a0 a1 a2 b0 b1 b2 HA HB
  obtain ⟨a0, a1, a2⟩ := cells3 HA1.out
  obtain ⟨b0, b1, b2⟩ := cells3 HB1.out
  go_wp2_with fail
  have cL1 := fun w => rlower_any t w (by omega)
  have cL2 := fun w => rlower_any t' w (by omega)
  have HS0 : Hid (LowS [.int .i64 5, .string t, .bool false] [.int .i64 5, .string t', .bool true] w w1.drew) := Lib.hid ⟨HA1.out, HB1.out, B1.drew⟩
  have q0 := (cells3 HS0.out.1).2.1
  have q1 := (cells3 HS0.out.2.1).2.1
  clear a0 a1 a2 b0 b1 b2 HA1 HB1
  go_region_held3 (fun w' => w'.cell? ⟨w.heap.size, 1, none⟩ = some (.string t) ∧ w'.cell? ⟨w.heap.size + 1, 1, none⟩ = some (.string t'))
    (first | exact ⟨q0, q1⟩ | exact ⟨(cells3 HS1.out.1).2.1, (cells3 HS1.out.2.1).2.1⟩ | exact ⟨(cells3 HS2.out.1).2.1, (cells3 HS2.out.2.1).2.1⟩)
    (first
      | (go_at_call 14; (with_reducible refine (cL1 w1.drew).mono ?_); rintro e w5 ⟨rfl, hb5⟩; have HS1 := Lib.hid (HS0.out.later hb5))
      | (go_at_call 14; (with_reducible refine (cL2 w5).mono ?_); rintro e w6 ⟨rfl, hb6⟩; have HS2 := Lib.hid (HS1.out.later hb6)))
  clear q0 q1 cL1 cL2
  have HA2 : Hid (Blk w6 w.heap.size [.int .i64 5, .string t, .bool false] 34) := Lib.hid HS2.out.1
  have HB2 : Hid (Blk w6 (w.heap.size + 1) [.int .i64 5, .string t', .bool true] 34) := Lib.hid HS2.out.2.1
  have B2 := HS2.out.2.2
  obtain ⟨a0, a1, a2⟩ := cells3 HA2.out
  obtain ⟨b0, b1, b2⟩ := cells3 HB2.out
  go_wp2_with fail
  refine (cH _).mono ?_
  rintro e w3 ⟨rfl, hb3⟩
  have HA3 := Lib.hid (HA2.out.later hb3 HA2.out.lt)
  have HB3 := Lib.hid (HB2.out.later hb3 HB2.out.lt)
  have B3 := below_trans B2 hb3
  clear a0 a1 a2 b0 b1 b2 HA2 HB2
  obtain ⟨a0, a1, a2⟩ := cells3 HA3.out
  obtain ⟨b0, b1, b2⟩ := cells3 HB3.out
  go_wp2
  go_ret
  exact ⟨rfl, B3⟩

set_option maxRecDepth 100000 in
set_option maxHeartbeats 4000000 in
theorem rimpl_c6ft (t : ByteArray) (t' : ByteArray) (w : World) (ht : t.size ≤ 999999) (ht' : t'.size ≤ 999999) (hn : neverF 6 (strB t) false = false) : Calls Tryd.prog 33 #[.agg #[.int .i64 6, .string t, .bool false], .agg #[.int .i64 6, .string t', .bool true]] w (Told (.bool (holdsF 6 (strB t') true (strB t))) w) := by
  have cN := fun w => rnever_any 6 false t w ht
  rw [hn] at cN
  have cH := fun w => rholds_any 6 true t' t w (by omega) (by omega)
  generalize holdsF 6 (strB t') true (strB t) = z at *
  have hA := (Blk.alloc (w := w) [.int .i64 6, .string t, .bool false] 34).alloc_old (.cells #[.int .i64 6, .string t', .bool true] 34)
  have hB := Blk.alloc (w := w.alloc (.cells #[.int .i64 6, .string t, .bool false] 34)) [.int .i64 6, .string t', .bool true] 34
  have B0 : Below w.heap.size w ((w.alloc (.cells #[.int .i64 6, .string t, .bool false] 34)).alloc (.cells #[.int .i64 6, .string t', .bool true] 34)) := ((Below.refl _ w).alloc (Nat.le_refl _) _).alloc (by simp) _
  have hs : (w.alloc (.cells #[.int .i64 6, .string t, .bool false] 34)).heap.size = w.heap.size + 1 := by simp
  rw [hs] at hB
  have HA := Lib.hid hA
  have HB := Lib.hid hB
  obtain ⟨a0, a1, a2⟩ := cells3 hA
  obtain ⟨b0, b1, b2⟩ := cells3 hB
  clear hA hB hs
  go_enter Tryd.func33, Tryd.ntmps33
  go_wp2_with fail
  refine (cN _).mono ?_
  rintro e w1 ⟨rfl, hb1⟩
  have HA1 := Lib.hid (HA.out.later hb1 HA.out.lt)
  have HB1 := Lib.hid (HB.out.later hb1 HB.out.lt)
  have B1 := below_trans B0 hb1
  clear a0 a1 a2 b0 b1 b2 HA HB
  obtain ⟨a0, a1, a2⟩ := cells3 HA1.out
  obtain ⟨b0, b1, b2⟩ := cells3 HB1.out
  go_wp2_with fail
  have cL1 := fun w => rlower_any t w (by omega)
  have cL2 := fun w => rlower_any t' w (by omega)
  have HS0 : Hid (LowS [.int .i64 6, .string t, .bool false] [.int .i64 6, .string t', .bool true] w w1.drew) := Lib.hid ⟨HA1.out, HB1.out, B1.drew⟩
  have q0 := (cells3 HS0.out.1).2.1
  have q1 := (cells3 HS0.out.2.1).2.1
  clear a0 a1 a2 b0 b1 b2 HA1 HB1
  go_region_held3 (fun w' => w'.cell? ⟨w.heap.size, 1, none⟩ = some (.string t) ∧ w'.cell? ⟨w.heap.size + 1, 1, none⟩ = some (.string t'))
    (first | exact ⟨q0, q1⟩ | exact ⟨(cells3 HS1.out.1).2.1, (cells3 HS1.out.2.1).2.1⟩ | exact ⟨(cells3 HS2.out.1).2.1, (cells3 HS2.out.2.1).2.1⟩)
    (first
      | (go_at_call 14; (with_reducible refine (cL1 w1.drew).mono ?_); rintro e w5 ⟨rfl, hb5⟩; have HS1 := Lib.hid (HS0.out.later hb5))
      | (go_at_call 14; (with_reducible refine (cL2 w5).mono ?_); rintro e w6 ⟨rfl, hb6⟩; have HS2 := Lib.hid (HS1.out.later hb6)))
  clear q0 q1 cL1 cL2
  have HA2 : Hid (Blk w6 w.heap.size [.int .i64 6, .string t, .bool false] 34) := Lib.hid HS2.out.1
  have HB2 : Hid (Blk w6 (w.heap.size + 1) [.int .i64 6, .string t', .bool true] 34) := Lib.hid HS2.out.2.1
  have B2 := HS2.out.2.2
  obtain ⟨a0, a1, a2⟩ := cells3 HA2.out
  obtain ⟨b0, b1, b2⟩ := cells3 HB2.out
  go_wp2_with fail
  refine (cH _).mono ?_
  rintro e w3 ⟨rfl, hb3⟩
  have HA3 := Lib.hid (HA2.out.later hb3 HA2.out.lt)
  have HB3 := Lib.hid (HB2.out.later hb3 HB2.out.lt)
  have B3 := below_trans B2 hb3
  clear a0 a1 a2 b0 b1 b2 HA2 HB2
  obtain ⟨a0, a1, a2⟩ := cells3 HA3.out
  obtain ⟨b0, b1, b2⟩ := cells3 HB3.out
  go_wp2
  go_ret
  exact ⟨rfl, B3⟩

set_option maxRecDepth 100000 in
set_option maxHeartbeats 4000000 in
theorem rimpl_c7ft (t : ByteArray) (t' : ByteArray) (w : World) (ht : t.size ≤ 999999) (ht' : t'.size ≤ 999999) (hn : neverF 7 (strB t) false = false) : Calls Tryd.prog 33 #[.agg #[.int .i64 7, .string t, .bool false], .agg #[.int .i64 7, .string t', .bool true]] w (Told (.bool (holdsF 7 (strB t') true (strB t))) w) := by
  have cN := fun w => rnever_any 7 false t w ht
  rw [hn] at cN
  have cH := fun w => rholds_any 7 true t' t w (by omega) (by omega)
  generalize holdsF 7 (strB t') true (strB t) = z at *
  have hA := (Blk.alloc (w := w) [.int .i64 7, .string t, .bool false] 34).alloc_old (.cells #[.int .i64 7, .string t', .bool true] 34)
  have hB := Blk.alloc (w := w.alloc (.cells #[.int .i64 7, .string t, .bool false] 34)) [.int .i64 7, .string t', .bool true] 34
  have B0 : Below w.heap.size w ((w.alloc (.cells #[.int .i64 7, .string t, .bool false] 34)).alloc (.cells #[.int .i64 7, .string t', .bool true] 34)) := ((Below.refl _ w).alloc (Nat.le_refl _) _).alloc (by simp) _
  have hs : (w.alloc (.cells #[.int .i64 7, .string t, .bool false] 34)).heap.size = w.heap.size + 1 := by simp
  rw [hs] at hB
  have HA := Lib.hid hA
  have HB := Lib.hid hB
  obtain ⟨a0, a1, a2⟩ := cells3 hA
  obtain ⟨b0, b1, b2⟩ := cells3 hB
  clear hA hB hs
  go_enter Tryd.func33, Tryd.ntmps33
  go_wp2_with fail
  refine (cN _).mono ?_
  rintro e w1 ⟨rfl, hb1⟩
  have HA1 := Lib.hid (HA.out.later hb1 HA.out.lt)
  have HB1 := Lib.hid (HB.out.later hb1 HB.out.lt)
  have B1 := below_trans B0 hb1
  clear a0 a1 a2 b0 b1 b2 HA HB
  obtain ⟨a0, a1, a2⟩ := cells3 HA1.out
  obtain ⟨b0, b1, b2⟩ := cells3 HB1.out
  go_wp2_with fail
  have cL1 := fun w => rlower_any t w (by omega)
  have cL2 := fun w => rlower_any t' w (by omega)
  have HS0 : Hid (LowS [.int .i64 7, .string t, .bool false] [.int .i64 7, .string t', .bool true] w w1.drew) := Lib.hid ⟨HA1.out, HB1.out, B1.drew⟩
  have q0 := (cells3 HS0.out.1).2.1
  have q1 := (cells3 HS0.out.2.1).2.1
  clear a0 a1 a2 b0 b1 b2 HA1 HB1
  go_region_held3 (fun w' => w'.cell? ⟨w.heap.size, 1, none⟩ = some (.string t) ∧ w'.cell? ⟨w.heap.size + 1, 1, none⟩ = some (.string t'))
    (first | exact ⟨q0, q1⟩ | exact ⟨(cells3 HS1.out.1).2.1, (cells3 HS1.out.2.1).2.1⟩ | exact ⟨(cells3 HS2.out.1).2.1, (cells3 HS2.out.2.1).2.1⟩)
    (first
      | (go_at_call 14; (with_reducible refine (cL1 w1.drew).mono ?_); rintro e w5 ⟨rfl, hb5⟩; have HS1 := Lib.hid (HS0.out.later hb5))
      | (go_at_call 14; (with_reducible refine (cL2 w5).mono ?_); rintro e w6 ⟨rfl, hb6⟩; have HS2 := Lib.hid (HS1.out.later hb6)))
  clear q0 q1 cL1 cL2
  have HA2 : Hid (Blk w6 w.heap.size [.int .i64 7, .string t, .bool false] 34) := Lib.hid HS2.out.1
  have HB2 : Hid (Blk w6 (w.heap.size + 1) [.int .i64 7, .string t', .bool true] 34) := Lib.hid HS2.out.2.1
  have B2 := HS2.out.2.2
  obtain ⟨a0, a1, a2⟩ := cells3 HA2.out
  obtain ⟨b0, b1, b2⟩ := cells3 HB2.out
  go_wp2_with fail
  refine (cH _).mono ?_
  rintro e w3 ⟨rfl, hb3⟩
  have HA3 := Lib.hid (HA2.out.later hb3 HA2.out.lt)
  have HB3 := Lib.hid (HB2.out.later hb3 HB2.out.lt)
  have B3 := below_trans B2 hb3
  clear a0 a1 a2 b0 b1 b2 HA2 HB2
  obtain ⟨a0, a1, a2⟩ := cells3 HA3.out
  obtain ⟨b0, b1, b2⟩ := cells3 HB3.out
  go_wp2
  go_ret
  exact ⟨rfl, B3⟩

set_option maxRecDepth 100000 in
set_option maxHeartbeats 4000000 in
theorem rimpl_e3ft (t : ByteArray) (t' : ByteArray) (w : World) (ht : t.size ≤ 999999) (ht' : t'.size ≤ 999999) (hn : neverF 3 (strB t) false = false) : Calls Tryd.prog 33 #[.agg #[.int .i64 3, .string t, .bool false], .agg #[.int .i64 7, .string t', .bool true]] w (Told (.bool (holdsF 7 (strB t') true (strB t))) w) := by
  have cN := fun w => rnever_any 3 false t w ht
  rw [hn] at cN
  have cH := fun w => rholds_any 7 true t' t w (by omega) (by omega)
  generalize holdsF 7 (strB t') true (strB t) = z at *
  have hA := (Blk.alloc (w := w) [.int .i64 3, .string t, .bool false] 34).alloc_old (.cells #[.int .i64 7, .string t', .bool true] 34)
  have hB := Blk.alloc (w := w.alloc (.cells #[.int .i64 3, .string t, .bool false] 34)) [.int .i64 7, .string t', .bool true] 34
  have B0 : Below w.heap.size w ((w.alloc (.cells #[.int .i64 3, .string t, .bool false] 34)).alloc (.cells #[.int .i64 7, .string t', .bool true] 34)) := ((Below.refl _ w).alloc (Nat.le_refl _) _).alloc (by simp) _
  have hs : (w.alloc (.cells #[.int .i64 3, .string t, .bool false] 34)).heap.size = w.heap.size + 1 := by simp
  rw [hs] at hB
  have HA := Lib.hid hA
  have HB := Lib.hid hB
  obtain ⟨a0, a1, a2⟩ := cells3 hA
  obtain ⟨b0, b1, b2⟩ := cells3 hB
  clear hA hB hs
  go_enter Tryd.func33, Tryd.ntmps33
  go_wp2_with fail
  refine (cN _).mono ?_
  rintro e w1 ⟨rfl, hb1⟩
  have HA1 := Lib.hid (HA.out.later hb1 HA.out.lt)
  have HB1 := Lib.hid (HB.out.later hb1 HB.out.lt)
  have B1 := below_trans B0 hb1
  clear a0 a1 a2 b0 b1 b2 HA HB
  obtain ⟨a0, a1, a2⟩ := cells3 HA1.out
  obtain ⟨b0, b1, b2⟩ := cells3 HB1.out
  go_wp2_with fail
  have cL1 := fun w => rlower_any t w (by omega)
  have cL2 := fun w => rlower_any t' w (by omega)
  have HS0 : Hid (LowS [.int .i64 3, .string t, .bool false] [.int .i64 7, .string t', .bool true] w w1.drew) := Lib.hid ⟨HA1.out, HB1.out, B1.drew⟩
  have q0 := (cells3 HS0.out.1).2.1
  have q1 := (cells3 HS0.out.2.1).2.1
  clear a0 a1 a2 b0 b1 b2 HA1 HB1
  go_region_held3 (fun w' => w'.cell? ⟨w.heap.size, 1, none⟩ = some (.string t) ∧ w'.cell? ⟨w.heap.size + 1, 1, none⟩ = some (.string t'))
    (first | exact ⟨q0, q1⟩ | exact ⟨(cells3 HS1.out.1).2.1, (cells3 HS1.out.2.1).2.1⟩ | exact ⟨(cells3 HS2.out.1).2.1, (cells3 HS2.out.2.1).2.1⟩)
    (first
      | (go_at_call 14; (with_reducible refine (cL1 w1.drew).mono ?_); rintro e w5 ⟨rfl, hb5⟩; have HS1 := Lib.hid (HS0.out.later hb5))
      | (go_at_call 14; (with_reducible refine (cL2 w5).mono ?_); rintro e w6 ⟨rfl, hb6⟩; have HS2 := Lib.hid (HS1.out.later hb6)))
  clear q0 q1 cL1 cL2
  have HA2 : Hid (Blk w6 w.heap.size [.int .i64 3, .string t, .bool false] 34) := Lib.hid HS2.out.1
  have HB2 : Hid (Blk w6 (w.heap.size + 1) [.int .i64 7, .string t', .bool true] 34) := Lib.hid HS2.out.2.1
  have B2 := HS2.out.2.2
  obtain ⟨a0, a1, a2⟩ := cells3 HA2.out
  obtain ⟨b0, b1, b2⟩ := cells3 HB2.out
  go_wp2_with fail
  refine (cH _).mono ?_
  rintro e w3 ⟨rfl, hb3⟩
  have HA3 := Lib.hid (HA2.out.later hb3 HA2.out.lt)
  have HB3 := Lib.hid (HB2.out.later hb3 HB2.out.lt)
  have B3 := below_trans B2 hb3
  clear a0 a1 a2 b0 b1 b2 HA2 HB2
  obtain ⟨a0, a1, a2⟩ := cells3 HA3.out
  obtain ⟨b0, b1, b2⟩ := cells3 HB3.out
  go_wp2
  go_ret
  exact ⟨rfl, B3⟩

set_option maxRecDepth 100000 in
set_option maxHeartbeats 4000000 in
theorem rimpl_f3ft (t : ByteArray) (op' : Int) (t' : ByteArray) (w : World) (ht : t.size ≤ 999999) (ht' : t'.size ≤ 999999) (hn : neverF 3 (strB t) false = false) (h1 : op' ≠ 1) (he : op' ≠ 3) (h7 : op' ≠ 7) : Calls Tryd.prog 33 #[.agg #[.int .i64 3, .string t, .bool false], .agg #[.int .i64 op', .string t', .bool true]] w (Told (.bool false) w) := by
  have cN := fun w => rnever_any 3 false t w ht
  rw [hn] at cN
  have m1 : (op' == 1) = false := beq_eq_false_iff_ne.2 (by omega)
  have k0 : (3 == op') = false := beq_eq_false_iff_ne.2 (by omega)
  have k1 : (op' == 7) = false := beq_eq_false_iff_ne.2 (by omega)
  have hA := (Blk.alloc (w := w) [.int .i64 3, .string t, .bool false] 34).alloc_old (.cells #[.int .i64 op', .string t', .bool true] 34)
  have hB := Blk.alloc (w := w.alloc (.cells #[.int .i64 3, .string t, .bool false] 34)) [.int .i64 op', .string t', .bool true] 34
  have B0 : Below w.heap.size w ((w.alloc (.cells #[.int .i64 3, .string t, .bool false] 34)).alloc (.cells #[.int .i64 op', .string t', .bool true] 34)) := ((Below.refl _ w).alloc (Nat.le_refl _) _).alloc (by simp) _
  have hs : (w.alloc (.cells #[.int .i64 3, .string t, .bool false] 34)).heap.size = w.heap.size + 1 := by simp
  rw [hs] at hB
  have HA := Lib.hid hA
  have HB := Lib.hid hB
  obtain ⟨a0, a1, a2⟩ := cells3 hA
  obtain ⟨b0, b1, b2⟩ := cells3 hB
  clear hA hB hs
  go_enter Tryd.func33, Tryd.ntmps33
  go_wp2_with fail
  refine (cN _).mono ?_
  rintro e w1 ⟨rfl, hb1⟩
  have HA1 := Lib.hid (HA.out.later hb1 HA.out.lt)
  have HB1 := Lib.hid (HB.out.later hb1 HB.out.lt)
  have B1 := below_trans B0 hb1
  clear a0 a1 a2 b0 b1 b2 HA HB
  obtain ⟨a0, a1, a2⟩ := cells3 HA1.out
  obtain ⟨b0, b1, b2⟩ := cells3 HB1.out
  go_wp2_with fail
  have cL1 := fun w => rlower_any t w (by omega)
  have cL2 := fun w => rlower_any t' w (by omega)
  have HS0 : Hid (LowS [.int .i64 3, .string t, .bool false] [.int .i64 op', .string t', .bool true] w w1.drew) := Lib.hid ⟨HA1.out, HB1.out, B1.drew⟩
  have q0 := (cells3 HS0.out.1).2.1
  have q1 := (cells3 HS0.out.2.1).2.1
  clear a0 a1 a2 b0 b1 b2 HA1 HB1
  go_region_held3 (fun w' => w'.cell? ⟨w.heap.size, 1, none⟩ = some (.string t) ∧ w'.cell? ⟨w.heap.size + 1, 1, none⟩ = some (.string t'))
    (first | exact ⟨q0, q1⟩ | exact ⟨(cells3 HS1.out.1).2.1, (cells3 HS1.out.2.1).2.1⟩ | exact ⟨(cells3 HS2.out.1).2.1, (cells3 HS2.out.2.1).2.1⟩)
    (first
      | (go_at_call 14; (with_reducible refine (cL1 w1.drew).mono ?_); rintro e w5 ⟨rfl, hb5⟩; have HS1 := Lib.hid (HS0.out.later hb5))
      | (go_at_call 14; (with_reducible refine (cL2 w5).mono ?_); rintro e w6 ⟨rfl, hb6⟩; have HS2 := Lib.hid (HS1.out.later hb6)))
  clear q0 q1 cL1 cL2
  have HA2 : Hid (Blk w6 w.heap.size [.int .i64 3, .string t, .bool false] 34) := Lib.hid HS2.out.1
  have HB2 : Hid (Blk w6 (w.heap.size + 1) [.int .i64 op', .string t', .bool true] 34) := Lib.hid HS2.out.2.1
  have B2 := HS2.out.2.2
  obtain ⟨a0, a1, a2⟩ := cells3 HA2.out
  obtain ⟨b0, b1, b2⟩ := cells3 HB2.out
  go_wp2
  go_ret
  exact ⟨rfl, B2⟩

set_option maxRecDepth 100000 in
set_option maxHeartbeats 4000000 in
theorem rimpl_e5ft (t : ByteArray) (t' : ByteArray) (w : World) (ht : t.size ≤ 999999) (ht' : t'.size ≤ 999999) (hn : neverF 5 (strB t) false = false) : Calls Tryd.prog 33 #[.agg #[.int .i64 5, .string t, .bool false], .agg #[.int .i64 7, .string t', .bool true]] w (Told (.bool (holdsF 7 (strB t') true (strB t))) w) := by
  have cN := fun w => rnever_any 5 false t w ht
  rw [hn] at cN
  have cH := fun w => rholds_any 7 true t' t w (by omega) (by omega)
  generalize holdsF 7 (strB t') true (strB t) = z at *
  have hA := (Blk.alloc (w := w) [.int .i64 5, .string t, .bool false] 34).alloc_old (.cells #[.int .i64 7, .string t', .bool true] 34)
  have hB := Blk.alloc (w := w.alloc (.cells #[.int .i64 5, .string t, .bool false] 34)) [.int .i64 7, .string t', .bool true] 34
  have B0 : Below w.heap.size w ((w.alloc (.cells #[.int .i64 5, .string t, .bool false] 34)).alloc (.cells #[.int .i64 7, .string t', .bool true] 34)) := ((Below.refl _ w).alloc (Nat.le_refl _) _).alloc (by simp) _
  have hs : (w.alloc (.cells #[.int .i64 5, .string t, .bool false] 34)).heap.size = w.heap.size + 1 := by simp
  rw [hs] at hB
  have HA := Lib.hid hA
  have HB := Lib.hid hB
  obtain ⟨a0, a1, a2⟩ := cells3 hA
  obtain ⟨b0, b1, b2⟩ := cells3 hB
  clear hA hB hs
  go_enter Tryd.func33, Tryd.ntmps33
  go_wp2_with fail
  refine (cN _).mono ?_
  rintro e w1 ⟨rfl, hb1⟩
  have HA1 := Lib.hid (HA.out.later hb1 HA.out.lt)
  have HB1 := Lib.hid (HB.out.later hb1 HB.out.lt)
  have B1 := below_trans B0 hb1
  clear a0 a1 a2 b0 b1 b2 HA HB
  obtain ⟨a0, a1, a2⟩ := cells3 HA1.out
  obtain ⟨b0, b1, b2⟩ := cells3 HB1.out
  go_wp2_with fail
  have cL1 := fun w => rlower_any t w (by omega)
  have cL2 := fun w => rlower_any t' w (by omega)
  have HS0 : Hid (LowS [.int .i64 5, .string t, .bool false] [.int .i64 7, .string t', .bool true] w w1.drew) := Lib.hid ⟨HA1.out, HB1.out, B1.drew⟩
  have q0 := (cells3 HS0.out.1).2.1
  have q1 := (cells3 HS0.out.2.1).2.1
  clear a0 a1 a2 b0 b1 b2 HA1 HB1
  go_region_held3 (fun w' => w'.cell? ⟨w.heap.size, 1, none⟩ = some (.string t) ∧ w'.cell? ⟨w.heap.size + 1, 1, none⟩ = some (.string t'))
    (first | exact ⟨q0, q1⟩ | exact ⟨(cells3 HS1.out.1).2.1, (cells3 HS1.out.2.1).2.1⟩ | exact ⟨(cells3 HS2.out.1).2.1, (cells3 HS2.out.2.1).2.1⟩)
    (first
      | (go_at_call 14; (with_reducible refine (cL1 w1.drew).mono ?_); rintro e w5 ⟨rfl, hb5⟩; have HS1 := Lib.hid (HS0.out.later hb5))
      | (go_at_call 14; (with_reducible refine (cL2 w5).mono ?_); rintro e w6 ⟨rfl, hb6⟩; have HS2 := Lib.hid (HS1.out.later hb6)))
  clear q0 q1 cL1 cL2
  have HA2 : Hid (Blk w6 w.heap.size [.int .i64 5, .string t, .bool false] 34) := Lib.hid HS2.out.1
  have HB2 : Hid (Blk w6 (w.heap.size + 1) [.int .i64 7, .string t', .bool true] 34) := Lib.hid HS2.out.2.1
  have B2 := HS2.out.2.2
  obtain ⟨a0, a1, a2⟩ := cells3 HA2.out
  obtain ⟨b0, b1, b2⟩ := cells3 HB2.out
  go_wp2_with fail
  refine (cH _).mono ?_
  rintro e w3 ⟨rfl, hb3⟩
  have HA3 := Lib.hid (HA2.out.later hb3 HA2.out.lt)
  have HB3 := Lib.hid (HB2.out.later hb3 HB2.out.lt)
  have B3 := below_trans B2 hb3
  clear a0 a1 a2 b0 b1 b2 HA2 HB2
  obtain ⟨a0, a1, a2⟩ := cells3 HA3.out
  obtain ⟨b0, b1, b2⟩ := cells3 HB3.out
  go_wp2
  go_ret
  exact ⟨rfl, B3⟩

set_option maxRecDepth 100000 in
set_option maxHeartbeats 4000000 in
theorem rimpl_f5ft (t : ByteArray) (op' : Int) (t' : ByteArray) (w : World) (ht : t.size ≤ 999999) (ht' : t'.size ≤ 999999) (hn : neverF 5 (strB t) false = false) (h1 : op' ≠ 1) (he : op' ≠ 5) (h7 : op' ≠ 7) : Calls Tryd.prog 33 #[.agg #[.int .i64 5, .string t, .bool false], .agg #[.int .i64 op', .string t', .bool true]] w (Told (.bool false) w) := by
  have cN := fun w => rnever_any 5 false t w ht
  rw [hn] at cN
  have m1 : (op' == 1) = false := beq_eq_false_iff_ne.2 (by omega)
  have k0 : (5 == op') = false := beq_eq_false_iff_ne.2 (by omega)
  have k1 : (op' == 7) = false := beq_eq_false_iff_ne.2 (by omega)
  have hA := (Blk.alloc (w := w) [.int .i64 5, .string t, .bool false] 34).alloc_old (.cells #[.int .i64 op', .string t', .bool true] 34)
  have hB := Blk.alloc (w := w.alloc (.cells #[.int .i64 5, .string t, .bool false] 34)) [.int .i64 op', .string t', .bool true] 34
  have B0 : Below w.heap.size w ((w.alloc (.cells #[.int .i64 5, .string t, .bool false] 34)).alloc (.cells #[.int .i64 op', .string t', .bool true] 34)) := ((Below.refl _ w).alloc (Nat.le_refl _) _).alloc (by simp) _
  have hs : (w.alloc (.cells #[.int .i64 5, .string t, .bool false] 34)).heap.size = w.heap.size + 1 := by simp
  rw [hs] at hB
  have HA := Lib.hid hA
  have HB := Lib.hid hB
  obtain ⟨a0, a1, a2⟩ := cells3 hA
  obtain ⟨b0, b1, b2⟩ := cells3 hB
  clear hA hB hs
  go_enter Tryd.func33, Tryd.ntmps33
  go_wp2_with fail
  refine (cN _).mono ?_
  rintro e w1 ⟨rfl, hb1⟩
  have HA1 := Lib.hid (HA.out.later hb1 HA.out.lt)
  have HB1 := Lib.hid (HB.out.later hb1 HB.out.lt)
  have B1 := below_trans B0 hb1
  clear a0 a1 a2 b0 b1 b2 HA HB
  obtain ⟨a0, a1, a2⟩ := cells3 HA1.out
  obtain ⟨b0, b1, b2⟩ := cells3 HB1.out
  go_wp2_with fail
  have cL1 := fun w => rlower_any t w (by omega)
  have cL2 := fun w => rlower_any t' w (by omega)
  have HS0 : Hid (LowS [.int .i64 5, .string t, .bool false] [.int .i64 op', .string t', .bool true] w w1.drew) := Lib.hid ⟨HA1.out, HB1.out, B1.drew⟩
  have q0 := (cells3 HS0.out.1).2.1
  have q1 := (cells3 HS0.out.2.1).2.1
  clear a0 a1 a2 b0 b1 b2 HA1 HB1
  go_region_held3 (fun w' => w'.cell? ⟨w.heap.size, 1, none⟩ = some (.string t) ∧ w'.cell? ⟨w.heap.size + 1, 1, none⟩ = some (.string t'))
    (first | exact ⟨q0, q1⟩ | exact ⟨(cells3 HS1.out.1).2.1, (cells3 HS1.out.2.1).2.1⟩ | exact ⟨(cells3 HS2.out.1).2.1, (cells3 HS2.out.2.1).2.1⟩)
    (first
      | (go_at_call 14; (with_reducible refine (cL1 w1.drew).mono ?_); rintro e w5 ⟨rfl, hb5⟩; have HS1 := Lib.hid (HS0.out.later hb5))
      | (go_at_call 14; (with_reducible refine (cL2 w5).mono ?_); rintro e w6 ⟨rfl, hb6⟩; have HS2 := Lib.hid (HS1.out.later hb6)))
  clear q0 q1 cL1 cL2
  have HA2 : Hid (Blk w6 w.heap.size [.int .i64 5, .string t, .bool false] 34) := Lib.hid HS2.out.1
  have HB2 : Hid (Blk w6 (w.heap.size + 1) [.int .i64 op', .string t', .bool true] 34) := Lib.hid HS2.out.2.1
  have B2 := HS2.out.2.2
  obtain ⟨a0, a1, a2⟩ := cells3 HA2.out
  obtain ⟨b0, b1, b2⟩ := cells3 HB2.out
  go_wp2
  go_ret
  exact ⟨rfl, B2⟩

set_option maxRecDepth 100000 in
set_option maxHeartbeats 4000000 in
theorem rimpl_e6ft (t : ByteArray) (t' : ByteArray) (w : World) (ht : t.size ≤ 999999) (ht' : t'.size ≤ 999999) (hn : neverF 6 (strB t) false = false) : Calls Tryd.prog 33 #[.agg #[.int .i64 6, .string t, .bool false], .agg #[.int .i64 7, .string t', .bool true]] w (Told (.bool (holdsF 7 (strB t') true (strB t))) w) := by
  have cN := fun w => rnever_any 6 false t w ht
  rw [hn] at cN
  have cH := fun w => rholds_any 7 true t' t w (by omega) (by omega)
  generalize holdsF 7 (strB t') true (strB t) = z at *
  have hA := (Blk.alloc (w := w) [.int .i64 6, .string t, .bool false] 34).alloc_old (.cells #[.int .i64 7, .string t', .bool true] 34)
  have hB := Blk.alloc (w := w.alloc (.cells #[.int .i64 6, .string t, .bool false] 34)) [.int .i64 7, .string t', .bool true] 34
  have B0 : Below w.heap.size w ((w.alloc (.cells #[.int .i64 6, .string t, .bool false] 34)).alloc (.cells #[.int .i64 7, .string t', .bool true] 34)) := ((Below.refl _ w).alloc (Nat.le_refl _) _).alloc (by simp) _
  have hs : (w.alloc (.cells #[.int .i64 6, .string t, .bool false] 34)).heap.size = w.heap.size + 1 := by simp
  rw [hs] at hB
  have HA := Lib.hid hA
  have HB := Lib.hid hB
  obtain ⟨a0, a1, a2⟩ := cells3 hA
  obtain ⟨b0, b1, b2⟩ := cells3 hB
  clear hA hB hs
  go_enter Tryd.func33, Tryd.ntmps33
  go_wp2_with fail
  refine (cN _).mono ?_
  rintro e w1 ⟨rfl, hb1⟩
  have HA1 := Lib.hid (HA.out.later hb1 HA.out.lt)
  have HB1 := Lib.hid (HB.out.later hb1 HB.out.lt)
  have B1 := below_trans B0 hb1
  clear a0 a1 a2 b0 b1 b2 HA HB
  obtain ⟨a0, a1, a2⟩ := cells3 HA1.out
  obtain ⟨b0, b1, b2⟩ := cells3 HB1.out
  go_wp2_with fail
  have cL1 := fun w => rlower_any t w (by omega)
  have cL2 := fun w => rlower_any t' w (by omega)
  have HS0 : Hid (LowS [.int .i64 6, .string t, .bool false] [.int .i64 7, .string t', .bool true] w w1.drew) := Lib.hid ⟨HA1.out, HB1.out, B1.drew⟩
  have q0 := (cells3 HS0.out.1).2.1
  have q1 := (cells3 HS0.out.2.1).2.1
  clear a0 a1 a2 b0 b1 b2 HA1 HB1
  go_region_held3 (fun w' => w'.cell? ⟨w.heap.size, 1, none⟩ = some (.string t) ∧ w'.cell? ⟨w.heap.size + 1, 1, none⟩ = some (.string t'))
    (first | exact ⟨q0, q1⟩ | exact ⟨(cells3 HS1.out.1).2.1, (cells3 HS1.out.2.1).2.1⟩ | exact ⟨(cells3 HS2.out.1).2.1, (cells3 HS2.out.2.1).2.1⟩)
    (first
      | (go_at_call 14; (with_reducible refine (cL1 w1.drew).mono ?_); rintro e w5 ⟨rfl, hb5⟩; have HS1 := Lib.hid (HS0.out.later hb5))
      | (go_at_call 14; (with_reducible refine (cL2 w5).mono ?_); rintro e w6 ⟨rfl, hb6⟩; have HS2 := Lib.hid (HS1.out.later hb6)))
  clear q0 q1 cL1 cL2
  have HA2 : Hid (Blk w6 w.heap.size [.int .i64 6, .string t, .bool false] 34) := Lib.hid HS2.out.1
  have HB2 : Hid (Blk w6 (w.heap.size + 1) [.int .i64 7, .string t', .bool true] 34) := Lib.hid HS2.out.2.1
  have B2 := HS2.out.2.2
  obtain ⟨a0, a1, a2⟩ := cells3 HA2.out
  obtain ⟨b0, b1, b2⟩ := cells3 HB2.out
  go_wp2_with fail
  refine (cH _).mono ?_
  rintro e w3 ⟨rfl, hb3⟩
  have HA3 := Lib.hid (HA2.out.later hb3 HA2.out.lt)
  have HB3 := Lib.hid (HB2.out.later hb3 HB2.out.lt)
  have B3 := below_trans B2 hb3
  clear a0 a1 a2 b0 b1 b2 HA2 HB2
  obtain ⟨a0, a1, a2⟩ := cells3 HA3.out
  obtain ⟨b0, b1, b2⟩ := cells3 HB3.out
  go_wp2
  go_ret
  exact ⟨rfl, B3⟩

set_option maxRecDepth 100000 in
set_option maxHeartbeats 4000000 in
theorem rimpl_f6ft (t : ByteArray) (op' : Int) (t' : ByteArray) (w : World) (ht : t.size ≤ 999999) (ht' : t'.size ≤ 999999) (hn : neverF 6 (strB t) false = false) (h1 : op' ≠ 1) (he : op' ≠ 6) (h7 : op' ≠ 7) : Calls Tryd.prog 33 #[.agg #[.int .i64 6, .string t, .bool false], .agg #[.int .i64 op', .string t', .bool true]] w (Told (.bool false) w) := by
  have cN := fun w => rnever_any 6 false t w ht
  rw [hn] at cN
  have m1 : (op' == 1) = false := beq_eq_false_iff_ne.2 (by omega)
  have k0 : (6 == op') = false := beq_eq_false_iff_ne.2 (by omega)
  have k1 : (op' == 7) = false := beq_eq_false_iff_ne.2 (by omega)
  have hA := (Blk.alloc (w := w) [.int .i64 6, .string t, .bool false] 34).alloc_old (.cells #[.int .i64 op', .string t', .bool true] 34)
  have hB := Blk.alloc (w := w.alloc (.cells #[.int .i64 6, .string t, .bool false] 34)) [.int .i64 op', .string t', .bool true] 34
  have B0 : Below w.heap.size w ((w.alloc (.cells #[.int .i64 6, .string t, .bool false] 34)).alloc (.cells #[.int .i64 op', .string t', .bool true] 34)) := ((Below.refl _ w).alloc (Nat.le_refl _) _).alloc (by simp) _
  have hs : (w.alloc (.cells #[.int .i64 6, .string t, .bool false] 34)).heap.size = w.heap.size + 1 := by simp
  rw [hs] at hB
  have HA := Lib.hid hA
  have HB := Lib.hid hB
  obtain ⟨a0, a1, a2⟩ := cells3 hA
  obtain ⟨b0, b1, b2⟩ := cells3 hB
  clear hA hB hs
  go_enter Tryd.func33, Tryd.ntmps33
  go_wp2_with fail
  refine (cN _).mono ?_
  rintro e w1 ⟨rfl, hb1⟩
  have HA1 := Lib.hid (HA.out.later hb1 HA.out.lt)
  have HB1 := Lib.hid (HB.out.later hb1 HB.out.lt)
  have B1 := below_trans B0 hb1
  clear a0 a1 a2 b0 b1 b2 HA HB
  obtain ⟨a0, a1, a2⟩ := cells3 HA1.out
  obtain ⟨b0, b1, b2⟩ := cells3 HB1.out
  go_wp2_with fail
  have cL1 := fun w => rlower_any t w (by omega)
  have cL2 := fun w => rlower_any t' w (by omega)
  have HS0 : Hid (LowS [.int .i64 6, .string t, .bool false] [.int .i64 op', .string t', .bool true] w w1.drew) := Lib.hid ⟨HA1.out, HB1.out, B1.drew⟩
  have q0 := (cells3 HS0.out.1).2.1
  have q1 := (cells3 HS0.out.2.1).2.1
  clear a0 a1 a2 b0 b1 b2 HA1 HB1
  go_region_held3 (fun w' => w'.cell? ⟨w.heap.size, 1, none⟩ = some (.string t) ∧ w'.cell? ⟨w.heap.size + 1, 1, none⟩ = some (.string t'))
    (first | exact ⟨q0, q1⟩ | exact ⟨(cells3 HS1.out.1).2.1, (cells3 HS1.out.2.1).2.1⟩ | exact ⟨(cells3 HS2.out.1).2.1, (cells3 HS2.out.2.1).2.1⟩)
    (first
      | (go_at_call 14; (with_reducible refine (cL1 w1.drew).mono ?_); rintro e w5 ⟨rfl, hb5⟩; have HS1 := Lib.hid (HS0.out.later hb5))
      | (go_at_call 14; (with_reducible refine (cL2 w5).mono ?_); rintro e w6 ⟨rfl, hb6⟩; have HS2 := Lib.hid (HS1.out.later hb6)))
  clear q0 q1 cL1 cL2
  have HA2 : Hid (Blk w6 w.heap.size [.int .i64 6, .string t, .bool false] 34) := Lib.hid HS2.out.1
  have HB2 : Hid (Blk w6 (w.heap.size + 1) [.int .i64 op', .string t', .bool true] 34) := Lib.hid HS2.out.2.1
  have B2 := HS2.out.2.2
  obtain ⟨a0, a1, a2⟩ := cells3 HA2.out
  obtain ⟨b0, b1, b2⟩ := cells3 HB2.out
  go_wp2
  go_ret
  exact ⟨rfl, B2⟩

set_option maxRecDepth 100000 in
set_option maxHeartbeats 4000000 in
theorem rimpl_gft (op : Int) (t : ByteArray) (op' : Int) (t' : ByteArray) (w : World) (ht : t.size ≤ 999999) (ht' : t'.size ≤ 999999) (hn : neverF op (strB t) false = false) (h1 : op' ≠ 1) (h2 : op ≠ 2) (h3 : op ≠ 3) (h5 : op ≠ 5) (h6 : op ≠ 6) (he : op ≠ op') : Calls Tryd.prog 33 #[.agg #[.int .i64 op, .string t, .bool false], .agg #[.int .i64 op', .string t', .bool true]] w (Told (.bool false) w) := by
  have cN := fun w => rnever_any op false t w ht
  rw [hn] at cN
  have m1 : (op' == 1) = false := beq_eq_false_iff_ne.2 (by omega)
  have k0 : (op == 2) = false := beq_eq_false_iff_ne.2 (by omega)
  have k1 : (op == 3) = false := beq_eq_false_iff_ne.2 (by omega)
  have k2 : (op == 5) = false := beq_eq_false_iff_ne.2 (by omega)
  have k3 : (op == 6) = false := beq_eq_false_iff_ne.2 (by omega)
  have k4 : (op == op') = false := beq_eq_false_iff_ne.2 (by omega)
  have hA := (Blk.alloc (w := w) [.int .i64 op, .string t, .bool false] 34).alloc_old (.cells #[.int .i64 op', .string t', .bool true] 34)
  have hB := Blk.alloc (w := w.alloc (.cells #[.int .i64 op, .string t, .bool false] 34)) [.int .i64 op', .string t', .bool true] 34
  have B0 : Below w.heap.size w ((w.alloc (.cells #[.int .i64 op, .string t, .bool false] 34)).alloc (.cells #[.int .i64 op', .string t', .bool true] 34)) := ((Below.refl _ w).alloc (Nat.le_refl _) _).alloc (by simp) _
  have hs : (w.alloc (.cells #[.int .i64 op, .string t, .bool false] 34)).heap.size = w.heap.size + 1 := by simp
  rw [hs] at hB
  have HA := Lib.hid hA
  have HB := Lib.hid hB
  obtain ⟨a0, a1, a2⟩ := cells3 hA
  obtain ⟨b0, b1, b2⟩ := cells3 hB
  clear hA hB hs
  go_enter Tryd.func33, Tryd.ntmps33
  go_wp2_with fail
  refine (cN _).mono ?_
  rintro e w1 ⟨rfl, hb1⟩
  have HA1 := Lib.hid (HA.out.later hb1 HA.out.lt)
  have HB1 := Lib.hid (HB.out.later hb1 HB.out.lt)
  have B1 := below_trans B0 hb1
  clear a0 a1 a2 b0 b1 b2 HA HB
  obtain ⟨a0, a1, a2⟩ := cells3 HA1.out
  obtain ⟨b0, b1, b2⟩ := cells3 HB1.out
  go_wp2_with fail
  have cL1 := fun w => rlower_any t w (by omega)
  have cL2 := fun w => rlower_any t' w (by omega)
  have HS0 : Hid (LowS [.int .i64 op, .string t, .bool false] [.int .i64 op', .string t', .bool true] w w1.drew) := Lib.hid ⟨HA1.out, HB1.out, B1.drew⟩
  have q0 := (cells3 HS0.out.1).2.1
  have q1 := (cells3 HS0.out.2.1).2.1
  clear a0 a1 a2 b0 b1 b2 HA1 HB1
  go_region_held3 (fun w' => w'.cell? ⟨w.heap.size, 1, none⟩ = some (.string t) ∧ w'.cell? ⟨w.heap.size + 1, 1, none⟩ = some (.string t'))
    (first | exact ⟨q0, q1⟩ | exact ⟨(cells3 HS1.out.1).2.1, (cells3 HS1.out.2.1).2.1⟩ | exact ⟨(cells3 HS2.out.1).2.1, (cells3 HS2.out.2.1).2.1⟩)
    (first
      | (go_at_call 14; (with_reducible refine (cL1 w1.drew).mono ?_); rintro e w5 ⟨rfl, hb5⟩; have HS1 := Lib.hid (HS0.out.later hb5))
      | (go_at_call 14; (with_reducible refine (cL2 w5).mono ?_); rintro e w6 ⟨rfl, hb6⟩; have HS2 := Lib.hid (HS1.out.later hb6)))
  clear q0 q1 cL1 cL2
  have HA2 : Hid (Blk w6 w.heap.size [.int .i64 op, .string t, .bool false] 34) := Lib.hid HS2.out.1
  have HB2 : Hid (Blk w6 (w.heap.size + 1) [.int .i64 op', .string t', .bool true] 34) := Lib.hid HS2.out.2.1
  have B2 := HS2.out.2.2
  obtain ⟨a0, a1, a2⟩ := cells3 HA2.out
  obtain ⟨b0, b1, b2⟩ := cells3 HB2.out
  go_wp2
  go_ret
  exact ⟨rfl, B2⟩

set_option maxRecDepth 100000 in
set_option maxHeartbeats 4000000 in
theorem rimpl_hft (op : Int) (t : ByteArray) (t' : ByteArray) (w : World) (ht : t.size ≤ 999999) (ht' : t'.size ≤ 999999) (hn : neverF op (strB t) false = false) (h1 : op ≠ 1) (h2 : op ≠ 2) (h3 : op ≠ 3) (h4 : op ≠ 4) (h5 : op < 5) : Calls Tryd.prog 33 #[.agg #[.int .i64 op, .string t, .bool false], .agg #[.int .i64 op, .string t', .bool true]] w (Told (.bool false) w) := by
  have cN := fun w => rnever_any op false t w ht
  rw [hn] at cN
  have k0 : (op == 1) = false := beq_eq_false_iff_ne.2 (by omega)
  have k1 : (op == 2) = false := beq_eq_false_iff_ne.2 (by omega)
  have k2 : (op == 3) = false := beq_eq_false_iff_ne.2 (by omega)
  have k3 : (op == 4) = false := beq_eq_false_iff_ne.2 (by omega)
  have k4 : (op == 5) = false := beq_eq_false_iff_ne.2 (by omega)
  have k5 : (op == 6) = false := beq_eq_false_iff_ne.2 (by omega)
  have k9 : (op == op) = true := beq_self_eq_true op
  have k10 : ¬ (5 : Int) ≤ op := by omega
  have hA := (Blk.alloc (w := w) [.int .i64 op, .string t, .bool false] 34).alloc_old (.cells #[.int .i64 op, .string t', .bool true] 34)
  have hB := Blk.alloc (w := w.alloc (.cells #[.int .i64 op, .string t, .bool false] 34)) [.int .i64 op, .string t', .bool true] 34
  have B0 : Below w.heap.size w ((w.alloc (.cells #[.int .i64 op, .string t, .bool false] 34)).alloc (.cells #[.int .i64 op, .string t', .bool true] 34)) := ((Below.refl _ w).alloc (Nat.le_refl _) _).alloc (by simp) _
  have hs : (w.alloc (.cells #[.int .i64 op, .string t, .bool false] 34)).heap.size = w.heap.size + 1 := by simp
  rw [hs] at hB
  have HA := Lib.hid hA
  have HB := Lib.hid hB
  obtain ⟨a0, a1, a2⟩ := cells3 hA
  obtain ⟨b0, b1, b2⟩ := cells3 hB
  clear hA hB hs
  go_enter Tryd.func33, Tryd.ntmps33
  go_wp2_with fail
  refine (cN _).mono ?_
  rintro e w1 ⟨rfl, hb1⟩
  have HA1 := Lib.hid (HA.out.later hb1 HA.out.lt)
  have HB1 := Lib.hid (HB.out.later hb1 HB.out.lt)
  have B1 := below_trans B0 hb1
  clear a0 a1 a2 b0 b1 b2 HA HB
  obtain ⟨a0, a1, a2⟩ := cells3 HA1.out
  obtain ⟨b0, b1, b2⟩ := cells3 HB1.out
  go_wp2_with fail
  have cL1 := fun w => rlower_any t w (by omega)
  have cL2 := fun w => rlower_any t' w (by omega)
  have HS0 : Hid (LowS [.int .i64 op, .string t, .bool false] [.int .i64 op, .string t', .bool true] w w1.drew) := Lib.hid ⟨HA1.out, HB1.out, B1.drew⟩
  have q0 := (cells3 HS0.out.1).2.1
  have q1 := (cells3 HS0.out.2.1).2.1
  clear a0 a1 a2 b0 b1 b2 HA1 HB1
  go_region_held3 (fun w' => w'.cell? ⟨w.heap.size, 1, none⟩ = some (.string t) ∧ w'.cell? ⟨w.heap.size + 1, 1, none⟩ = some (.string t'))
    (first | exact ⟨q0, q1⟩ | exact ⟨(cells3 HS1.out.1).2.1, (cells3 HS1.out.2.1).2.1⟩ | exact ⟨(cells3 HS2.out.1).2.1, (cells3 HS2.out.2.1).2.1⟩)
    (first
      | (go_at_call 14; (with_reducible refine (cL1 w1.drew).mono ?_); rintro e w5 ⟨rfl, hb5⟩; have HS1 := Lib.hid (HS0.out.later hb5))
      | (go_at_call 14; (with_reducible refine (cL2 w5).mono ?_); rintro e w6 ⟨rfl, hb6⟩; have HS2 := Lib.hid (HS1.out.later hb6)))
  clear q0 q1 cL1 cL2
  have HA2 : Hid (Blk w6 w.heap.size [.int .i64 op, .string t, .bool false] 34) := Lib.hid HS2.out.1
  have HB2 : Hid (Blk w6 (w.heap.size + 1) [.int .i64 op, .string t', .bool true] 34) := Lib.hid HS2.out.2.1
  have B2 := HS2.out.2.2
  obtain ⟨a0, a1, a2⟩ := cells3 HA2.out
  obtain ⟨b0, b1, b2⟩ := cells3 HB2.out
  go_wp2
  go_ret
  exact ⟨rfl, B2⟩

set_option maxRecDepth 100000 in
set_option maxHeartbeats 4000000 in
theorem rimpl_ift (op : Int) (t : ByteArray) (t' : ByteArray) (w : World) (ht : t.size ≤ 999999) (ht' : t'.size ≤ 999999) (hn : neverF op (strB t) false = false) (h5 : 7 < op) : Calls Tryd.prog 33 #[.agg #[.int .i64 op, .string t, .bool false], .agg #[.int .i64 op, .string t', .bool true]] w (Told (.bool false) w) := by
  have cN := fun w => rnever_any op false t w ht
  rw [hn] at cN
  have k0 : (op == 1) = false := beq_eq_false_iff_ne.2 (by omega)
  have k1 : (op == 2) = false := beq_eq_false_iff_ne.2 (by omega)
  have k2 : (op == 3) = false := beq_eq_false_iff_ne.2 (by omega)
  have k3 : (op == 4) = false := beq_eq_false_iff_ne.2 (by omega)
  have k4 : (op == 5) = false := beq_eq_false_iff_ne.2 (by omega)
  have k5 : (op == 6) = false := beq_eq_false_iff_ne.2 (by omega)
  have k9 : (op == op) = true := beq_self_eq_true op
  have k10 : (5 : Int) ≤ op := by omega
  have k11 : ¬ op ≤ (7 : Int) := by omega
  have hA := (Blk.alloc (w := w) [.int .i64 op, .string t, .bool false] 34).alloc_old (.cells #[.int .i64 op, .string t', .bool true] 34)
  have hB := Blk.alloc (w := w.alloc (.cells #[.int .i64 op, .string t, .bool false] 34)) [.int .i64 op, .string t', .bool true] 34
  have B0 : Below w.heap.size w ((w.alloc (.cells #[.int .i64 op, .string t, .bool false] 34)).alloc (.cells #[.int .i64 op, .string t', .bool true] 34)) := ((Below.refl _ w).alloc (Nat.le_refl _) _).alloc (by simp) _
  have hs : (w.alloc (.cells #[.int .i64 op, .string t, .bool false] 34)).heap.size = w.heap.size + 1 := by simp
  rw [hs] at hB
  have HA := Lib.hid hA
  have HB := Lib.hid hB
  obtain ⟨a0, a1, a2⟩ := cells3 hA
  obtain ⟨b0, b1, b2⟩ := cells3 hB
  clear hA hB hs
  go_enter Tryd.func33, Tryd.ntmps33
  go_wp2_with fail
  refine (cN _).mono ?_
  rintro e w1 ⟨rfl, hb1⟩
  have HA1 := Lib.hid (HA.out.later hb1 HA.out.lt)
  have HB1 := Lib.hid (HB.out.later hb1 HB.out.lt)
  have B1 := below_trans B0 hb1
  clear a0 a1 a2 b0 b1 b2 HA HB
  obtain ⟨a0, a1, a2⟩ := cells3 HA1.out
  obtain ⟨b0, b1, b2⟩ := cells3 HB1.out
  go_wp2_with fail
  have cL1 := fun w => rlower_any t w (by omega)
  have cL2 := fun w => rlower_any t' w (by omega)
  have HS0 : Hid (LowS [.int .i64 op, .string t, .bool false] [.int .i64 op, .string t', .bool true] w w1.drew) := Lib.hid ⟨HA1.out, HB1.out, B1.drew⟩
  have q0 := (cells3 HS0.out.1).2.1
  have q1 := (cells3 HS0.out.2.1).2.1
  clear a0 a1 a2 b0 b1 b2 HA1 HB1
  go_region_held3 (fun w' => w'.cell? ⟨w.heap.size, 1, none⟩ = some (.string t) ∧ w'.cell? ⟨w.heap.size + 1, 1, none⟩ = some (.string t'))
    (first | exact ⟨q0, q1⟩ | exact ⟨(cells3 HS1.out.1).2.1, (cells3 HS1.out.2.1).2.1⟩ | exact ⟨(cells3 HS2.out.1).2.1, (cells3 HS2.out.2.1).2.1⟩)
    (first
      | (go_at_call 14; (with_reducible refine (cL1 w1.drew).mono ?_); rintro e w5 ⟨rfl, hb5⟩; have HS1 := Lib.hid (HS0.out.later hb5))
      | (go_at_call 14; (with_reducible refine (cL2 w5).mono ?_); rintro e w6 ⟨rfl, hb6⟩; have HS2 := Lib.hid (HS1.out.later hb6)))
  clear q0 q1 cL1 cL2
  have HA2 : Hid (Blk w6 w.heap.size [.int .i64 op, .string t, .bool false] 34) := Lib.hid HS2.out.1
  have HB2 : Hid (Blk w6 (w.heap.size + 1) [.int .i64 op, .string t', .bool true] 34) := Lib.hid HS2.out.2.1
  have B2 := HS2.out.2.2
  obtain ⟨a0, a1, a2⟩ := cells3 HA2.out
  obtain ⟨b0, b1, b2⟩ := cells3 HB2.out
  go_wp2
  go_ret
  exact ⟨rfl, B2⟩

set_option maxRecDepth 100000 in
set_option maxHeartbeats 4000000 in
theorem rimpl_att (t : ByteArray) (op' : Int) (t' : ByteArray) (w : World) (ht : t.size ≤ 999999) (ht' : t'.size ≤ 999999) (hn : neverF 2 (strB t) true = false) (h1 : op' ≠ 1) : Calls Tryd.prog 33 #[.agg #[.int .i64 2, .string t, .bool true], .agg #[.int .i64 op', .string t', .bool true]] w (Told (.bool (holdsF op' (strB t') true (strB t))) w) := by
  have cN := fun w => rnever_any 2 true t w ht
  rw [hn] at cN
  have m1 : (op' == 1) = false := beq_eq_false_iff_ne.2 (by omega)
  have cH := fun w => rholds_any op' true t' t w (by omega) (by omega)
  generalize holdsF op' (strB t') true (strB t) = z at *
  have hA := (Blk.alloc (w := w) [.int .i64 2, .string t, .bool true] 34).alloc_old (.cells #[.int .i64 op', .string t', .bool true] 34)
  have hB := Blk.alloc (w := w.alloc (.cells #[.int .i64 2, .string t, .bool true] 34)) [.int .i64 op', .string t', .bool true] 34
  have B0 : Below w.heap.size w ((w.alloc (.cells #[.int .i64 2, .string t, .bool true] 34)).alloc (.cells #[.int .i64 op', .string t', .bool true] 34)) := ((Below.refl _ w).alloc (Nat.le_refl _) _).alloc (by simp) _
  have hs : (w.alloc (.cells #[.int .i64 2, .string t, .bool true] 34)).heap.size = w.heap.size + 1 := by simp
  rw [hs] at hB
  have HA := Lib.hid hA
  have HB := Lib.hid hB
  obtain ⟨a0, a1, a2⟩ := cells3 hA
  obtain ⟨b0, b1, b2⟩ := cells3 hB
  clear hA hB hs
  go_enter Tryd.func33, Tryd.ntmps33
  go_wp2_with fail
  refine (cN _).mono ?_
  rintro e w1 ⟨rfl, hb1⟩
  have HA1 := Lib.hid (HA.out.later hb1 HA.out.lt)
  have HB1 := Lib.hid (HB.out.later hb1 HB.out.lt)
  have B1 := below_trans B0 hb1
  clear a0 a1 a2 b0 b1 b2 HA HB
  obtain ⟨a0, a1, a2⟩ := cells3 HA1.out
  obtain ⟨b0, b1, b2⟩ := cells3 HB1.out
  go_wp2_with fail
  have cL1 := fun w => rlower_any t w (by omega)
  have cL2 := fun w => rlower_any t' w (by omega)
  have HS0 : Hid (LowS [.int .i64 2, .string t, .bool true] [.int .i64 op', .string t', .bool true] w w1.drew) := Lib.hid ⟨HA1.out, HB1.out, B1.drew⟩
  have q0 := (cells3 HS0.out.1).2.1
  have q1 := (cells3 HS0.out.2.1).2.1
  clear a0 a1 a2 b0 b1 b2 HA1 HB1
  go_region_held3 (fun w' => w'.cell? ⟨w.heap.size, 1, none⟩ = some (.string t) ∧ w'.cell? ⟨w.heap.size + 1, 1, none⟩ = some (.string t'))
    (first | exact ⟨q0, q1⟩ | exact ⟨(cells3 HS1.out.1).2.1, (cells3 HS1.out.2.1).2.1⟩ | exact ⟨(cells3 HS2.out.1).2.1, (cells3 HS2.out.2.1).2.1⟩)
    (first
      | (go_at_call 14; (with_reducible refine (cL1 w1.drew).mono ?_); rintro e w5 ⟨rfl, hb5⟩; have HS1 := Lib.hid (HS0.out.later hb5))
      | (go_at_call 14; (with_reducible refine (cL2 w5).mono ?_); rintro e w6 ⟨rfl, hb6⟩; have HS2 := Lib.hid (HS1.out.later hb6)))
  clear q0 q1 cL1 cL2
  have HA2 : Hid (Blk w6 w.heap.size [.int .i64 2, .string t, .bool true] 34) := Lib.hid HS2.out.1
  have HB2 : Hid (Blk w6 (w.heap.size + 1) [.int .i64 op', .string t', .bool true] 34) := Lib.hid HS2.out.2.1
  have B2 := HS2.out.2.2
  obtain ⟨a0, a1, a2⟩ := cells3 HA2.out
  obtain ⟨b0, b1, b2⟩ := cells3 HB2.out
  go_wp2_with fail
  refine (cH _).mono ?_
  rintro e w3 ⟨rfl, hb3⟩
  have HA3 := Lib.hid (HA2.out.later hb3 HA2.out.lt)
  have HB3 := Lib.hid (HB2.out.later hb3 HB2.out.lt)
  have B3 := below_trans B2 hb3
  clear a0 a1 a2 b0 b1 b2 HA2 HB2
  obtain ⟨a0, a1, a2⟩ := cells3 HA3.out
  obtain ⟨b0, b1, b2⟩ := cells3 HB3.out
  go_wp2
  go_ret
  exact ⟨rfl, B3⟩

set_option maxRecDepth 100000 in
set_option maxHeartbeats 4000000 in
theorem rimpl_b3tt (t : ByteArray) (t' : ByteArray) (w : World) (ht : t.size ≤ 999999) (ht' : t'.size ≤ 999999) (hn : neverF 3 (strB t) true = false) : Calls Tryd.prog 33 #[.agg #[.int .i64 3, .string t, .bool true], .agg #[.int .i64 3, .string t', .bool true]] w (Told (.bool (oneF true (strB t) (strB t'))) w) := by
  have cN := fun w => rnever_any 3 true t w ht
  rw [hn] at cN
  have hA := (Blk.alloc (w := w) [.int .i64 3, .string t, .bool true] 34).alloc_old (.cells #[.int .i64 3, .string t', .bool true] 34)
  have hB := Blk.alloc (w := w.alloc (.cells #[.int .i64 3, .string t, .bool true] 34)) [.int .i64 3, .string t', .bool true] 34
  have B0 : Below w.heap.size w ((w.alloc (.cells #[.int .i64 3, .string t, .bool true] 34)).alloc (.cells #[.int .i64 3, .string t', .bool true] 34)) := ((Below.refl _ w).alloc (Nat.le_refl _) _).alloc (by simp) _
  have hs : (w.alloc (.cells #[.int .i64 3, .string t, .bool true] 34)).heap.size = w.heap.size + 1 := by simp
  rw [hs] at hB
  have HA := Lib.hid hA
  have HB := Lib.hid hB
  obtain ⟨a0, a1, a2⟩ := cells3 hA
  obtain ⟨b0, b1, b2⟩ := cells3 hB
  clear hA hB hs
  go_enter Tryd.func33, Tryd.ntmps33
  go_wp2_with fail
  refine (cN _).mono ?_
  rintro e w1 ⟨rfl, hb1⟩
  have HA1 := Lib.hid (HA.out.later hb1 HA.out.lt)
  have HB1 := Lib.hid (HB.out.later hb1 HB.out.lt)
  have B1 := below_trans B0 hb1
  clear a0 a1 a2 b0 b1 b2 HA HB
  obtain ⟨a0, a1, a2⟩ := cells3 HA1.out
  obtain ⟨b0, b1, b2⟩ := cells3 HB1.out
  go_wp2_with fail
  have cL1 := fun w => rlower_any t w (by omega)
  have cL2 := fun w => rlower_any t' w (by omega)
  have HS0 : Hid (LowS [.int .i64 3, .string t, .bool true] [.int .i64 3, .string t', .bool true] w w1.drew) := Lib.hid ⟨HA1.out, HB1.out, B1.drew⟩
  have q0 := (cells3 HS0.out.1).2.1
  have q1 := (cells3 HS0.out.2.1).2.1
  clear a0 a1 a2 b0 b1 b2 HA1 HB1
  go_region_held3 (fun w' => w'.cell? ⟨w.heap.size, 1, none⟩ = some (.string t) ∧ w'.cell? ⟨w.heap.size + 1, 1, none⟩ = some (.string t'))
    (first | exact ⟨q0, q1⟩ | exact ⟨(cells3 HS1.out.1).2.1, (cells3 HS1.out.2.1).2.1⟩ | exact ⟨(cells3 HS2.out.1).2.1, (cells3 HS2.out.2.1).2.1⟩)
    (first
      | (go_at_call 14; (with_reducible refine (cL1 w1.drew).mono ?_); rintro e w5 ⟨rfl, hb5⟩; have HS1 := Lib.hid (HS0.out.later hb5))
      | (go_at_call 14; (with_reducible refine (cL2 w5).mono ?_); rintro e w6 ⟨rfl, hb6⟩; have HS2 := Lib.hid (HS1.out.later hb6)))
  clear q0 q1 cL1 cL2
  have HA2 : Hid (Blk w6 w.heap.size [.int .i64 3, .string t, .bool true] 34) := Lib.hid HS2.out.1
  have HB2 : Hid (Blk w6 (w.heap.size + 1) [.int .i64 3, .string t', .bool true] 34) := Lib.hid HS2.out.2.1
  have B2 := HS2.out.2.2
  obtain ⟨a0, a1, a2⟩ := cells3 HA2.out
  obtain ⟨b0, b1, b2⟩ := cells3 HB2.out
  go_wp2
  go_ret
  exact ⟨by rw [← low_beq t t']; rfl, B2⟩

set_option maxRecDepth 100000 in
set_option maxHeartbeats 4000000 in
theorem rimpl_b4tt (t : ByteArray) (t' : ByteArray) (w : World) (ht : t.size ≤ 999999) (ht' : t'.size ≤ 999999) (hn : neverF 4 (strB t) true = false) : Calls Tryd.prog 33 #[.agg #[.int .i64 4, .string t, .bool true], .agg #[.int .i64 4, .string t', .bool true]] w (Told (.bool (oneF true (strB t) (strB t'))) w) := by
  have cN := fun w => rnever_any 4 true t w ht
  rw [hn] at cN
  have hA := (Blk.alloc (w := w) [.int .i64 4, .string t, .bool true] 34).alloc_old (.cells #[.int .i64 4, .string t', .bool true] 34)
  have hB := Blk.alloc (w := w.alloc (.cells #[.int .i64 4, .string t, .bool true] 34)) [.int .i64 4, .string t', .bool true] 34
  have B0 : Below w.heap.size w ((w.alloc (.cells #[.int .i64 4, .string t, .bool true] 34)).alloc (.cells #[.int .i64 4, .string t', .bool true] 34)) := ((Below.refl _ w).alloc (Nat.le_refl _) _).alloc (by simp) _
  have hs : (w.alloc (.cells #[.int .i64 4, .string t, .bool true] 34)).heap.size = w.heap.size + 1 := by simp
  rw [hs] at hB
  have HA := Lib.hid hA
  have HB := Lib.hid hB
  obtain ⟨a0, a1, a2⟩ := cells3 hA
  obtain ⟨b0, b1, b2⟩ := cells3 hB
  clear hA hB hs
  go_enter Tryd.func33, Tryd.ntmps33
  go_wp2_with fail
  refine (cN _).mono ?_
  rintro e w1 ⟨rfl, hb1⟩
  have HA1 := Lib.hid (HA.out.later hb1 HA.out.lt)
  have HB1 := Lib.hid (HB.out.later hb1 HB.out.lt)
  have B1 := below_trans B0 hb1
  clear a0 a1 a2 b0 b1 b2 HA HB
  obtain ⟨a0, a1, a2⟩ := cells3 HA1.out
  obtain ⟨b0, b1, b2⟩ := cells3 HB1.out
  go_wp2_with fail
  have cL1 := fun w => rlower_any t w (by omega)
  have cL2 := fun w => rlower_any t' w (by omega)
  have HS0 : Hid (LowS [.int .i64 4, .string t, .bool true] [.int .i64 4, .string t', .bool true] w w1.drew) := Lib.hid ⟨HA1.out, HB1.out, B1.drew⟩
  have q0 := (cells3 HS0.out.1).2.1
  have q1 := (cells3 HS0.out.2.1).2.1
  clear a0 a1 a2 b0 b1 b2 HA1 HB1
  go_region_held3 (fun w' => w'.cell? ⟨w.heap.size, 1, none⟩ = some (.string t) ∧ w'.cell? ⟨w.heap.size + 1, 1, none⟩ = some (.string t'))
    (first | exact ⟨q0, q1⟩ | exact ⟨(cells3 HS1.out.1).2.1, (cells3 HS1.out.2.1).2.1⟩ | exact ⟨(cells3 HS2.out.1).2.1, (cells3 HS2.out.2.1).2.1⟩)
    (first
      | (go_at_call 14; (with_reducible refine (cL1 w1.drew).mono ?_); rintro e w5 ⟨rfl, hb5⟩; have HS1 := Lib.hid (HS0.out.later hb5))
      | (go_at_call 14; (with_reducible refine (cL2 w5).mono ?_); rintro e w6 ⟨rfl, hb6⟩; have HS2 := Lib.hid (HS1.out.later hb6)))
  clear q0 q1 cL1 cL2
  have HA2 : Hid (Blk w6 w.heap.size [.int .i64 4, .string t, .bool true] 34) := Lib.hid HS2.out.1
  have HB2 : Hid (Blk w6 (w.heap.size + 1) [.int .i64 4, .string t', .bool true] 34) := Lib.hid HS2.out.2.1
  have B2 := HS2.out.2.2
  obtain ⟨a0, a1, a2⟩ := cells3 HA2.out
  obtain ⟨b0, b1, b2⟩ := cells3 HB2.out
  go_wp2
  go_ret
  exact ⟨by rw [← low_beq t t']; rfl, B2⟩

set_option maxRecDepth 100000 in
set_option maxHeartbeats 4000000 in
theorem rimpl_c5tt (t : ByteArray) (t' : ByteArray) (w : World) (ht : t.size ≤ 999999) (ht' : t'.size ≤ 999999) (hn : neverF 5 (strB t) true = false) : Calls Tryd.prog 33 #[.agg #[.int .i64 5, .string t, .bool true], .agg #[.int .i64 5, .string t', .bool true]] w (Told (.bool (holdsF 5 (strB t') true (strB t))) w) := by
  have cN := fun w => rnever_any 5 true t w ht
  rw [hn] at cN
  have cH := fun w => rholds_any 5 true t' t w (by omega) (by omega)
  generalize holdsF 5 (strB t') true (strB t) = z at *
  have hA := (Blk.alloc (w := w) [.int .i64 5, .string t, .bool true] 34).alloc_old (.cells #[.int .i64 5, .string t', .bool true] 34)
  have hB := Blk.alloc (w := w.alloc (.cells #[.int .i64 5, .string t, .bool true] 34)) [.int .i64 5, .string t', .bool true] 34
  have B0 : Below w.heap.size w ((w.alloc (.cells #[.int .i64 5, .string t, .bool true] 34)).alloc (.cells #[.int .i64 5, .string t', .bool true] 34)) := ((Below.refl _ w).alloc (Nat.le_refl _) _).alloc (by simp) _
  have hs : (w.alloc (.cells #[.int .i64 5, .string t, .bool true] 34)).heap.size = w.heap.size + 1 := by simp
  rw [hs] at hB
  have HA := Lib.hid hA
  have HB := Lib.hid hB
  obtain ⟨a0, a1, a2⟩ := cells3 hA
  obtain ⟨b0, b1, b2⟩ := cells3 hB
  clear hA hB hs
  go_enter Tryd.func33, Tryd.ntmps33
  go_wp2_with fail
  refine (cN _).mono ?_
  rintro e w1 ⟨rfl, hb1⟩
  have HA1 := Lib.hid (HA.out.later hb1 HA.out.lt)
  have HB1 := Lib.hid (HB.out.later hb1 HB.out.lt)
  have B1 := below_trans B0 hb1
  clear a0 a1 a2 b0 b1 b2 HA HB
  obtain ⟨a0, a1, a2⟩ := cells3 HA1.out
  obtain ⟨b0, b1, b2⟩ := cells3 HB1.out
  go_wp2_with fail
  have cL1 := fun w => rlower_any t w (by omega)
  have cL2 := fun w => rlower_any t' w (by omega)
  have HS0 : Hid (LowS [.int .i64 5, .string t, .bool true] [.int .i64 5, .string t', .bool true] w w1.drew) := Lib.hid ⟨HA1.out, HB1.out, B1.drew⟩
  have q0 := (cells3 HS0.out.1).2.1
  have q1 := (cells3 HS0.out.2.1).2.1
  clear a0 a1 a2 b0 b1 b2 HA1 HB1
  go_region_held3 (fun w' => w'.cell? ⟨w.heap.size, 1, none⟩ = some (.string t) ∧ w'.cell? ⟨w.heap.size + 1, 1, none⟩ = some (.string t'))
    (first | exact ⟨q0, q1⟩ | exact ⟨(cells3 HS1.out.1).2.1, (cells3 HS1.out.2.1).2.1⟩ | exact ⟨(cells3 HS2.out.1).2.1, (cells3 HS2.out.2.1).2.1⟩)
    (first
      | (go_at_call 14; (with_reducible refine (cL1 w1.drew).mono ?_); rintro e w5 ⟨rfl, hb5⟩; have HS1 := Lib.hid (HS0.out.later hb5))
      | (go_at_call 14; (with_reducible refine (cL2 w5).mono ?_); rintro e w6 ⟨rfl, hb6⟩; have HS2 := Lib.hid (HS1.out.later hb6)))
  clear q0 q1 cL1 cL2
  have HA2 : Hid (Blk w6 w.heap.size [.int .i64 5, .string t, .bool true] 34) := Lib.hid HS2.out.1
  have HB2 : Hid (Blk w6 (w.heap.size + 1) [.int .i64 5, .string t', .bool true] 34) := Lib.hid HS2.out.2.1
  have B2 := HS2.out.2.2
  obtain ⟨a0, a1, a2⟩ := cells3 HA2.out
  obtain ⟨b0, b1, b2⟩ := cells3 HB2.out
  go_wp2_with fail
  refine (cH _).mono ?_
  rintro e w3 ⟨rfl, hb3⟩
  have HA3 := Lib.hid (HA2.out.later hb3 HA2.out.lt)
  have HB3 := Lib.hid (HB2.out.later hb3 HB2.out.lt)
  have B3 := below_trans B2 hb3
  clear a0 a1 a2 b0 b1 b2 HA2 HB2
  obtain ⟨a0, a1, a2⟩ := cells3 HA3.out
  obtain ⟨b0, b1, b2⟩ := cells3 HB3.out
  go_wp2
  go_ret
  exact ⟨rfl, B3⟩

set_option maxRecDepth 100000 in
set_option maxHeartbeats 4000000 in
theorem rimpl_c6tt (t : ByteArray) (t' : ByteArray) (w : World) (ht : t.size ≤ 999999) (ht' : t'.size ≤ 999999) (hn : neverF 6 (strB t) true = false) : Calls Tryd.prog 33 #[.agg #[.int .i64 6, .string t, .bool true], .agg #[.int .i64 6, .string t', .bool true]] w (Told (.bool (holdsF 6 (strB t') true (strB t))) w) := by
  have cN := fun w => rnever_any 6 true t w ht
  rw [hn] at cN
  have cH := fun w => rholds_any 6 true t' t w (by omega) (by omega)
  generalize holdsF 6 (strB t') true (strB t) = z at *
  have hA := (Blk.alloc (w := w) [.int .i64 6, .string t, .bool true] 34).alloc_old (.cells #[.int .i64 6, .string t', .bool true] 34)
  have hB := Blk.alloc (w := w.alloc (.cells #[.int .i64 6, .string t, .bool true] 34)) [.int .i64 6, .string t', .bool true] 34
  have B0 : Below w.heap.size w ((w.alloc (.cells #[.int .i64 6, .string t, .bool true] 34)).alloc (.cells #[.int .i64 6, .string t', .bool true] 34)) := ((Below.refl _ w).alloc (Nat.le_refl _) _).alloc (by simp) _
  have hs : (w.alloc (.cells #[.int .i64 6, .string t, .bool true] 34)).heap.size = w.heap.size + 1 := by simp
  rw [hs] at hB
  have HA := Lib.hid hA
  have HB := Lib.hid hB
  obtain ⟨a0, a1, a2⟩ := cells3 hA
  obtain ⟨b0, b1, b2⟩ := cells3 hB
  clear hA hB hs
  go_enter Tryd.func33, Tryd.ntmps33
  go_wp2_with fail
  refine (cN _).mono ?_
  rintro e w1 ⟨rfl, hb1⟩
  have HA1 := Lib.hid (HA.out.later hb1 HA.out.lt)
  have HB1 := Lib.hid (HB.out.later hb1 HB.out.lt)
  have B1 := below_trans B0 hb1
  clear a0 a1 a2 b0 b1 b2 HA HB
  obtain ⟨a0, a1, a2⟩ := cells3 HA1.out
  obtain ⟨b0, b1, b2⟩ := cells3 HB1.out
  go_wp2_with fail
  have cL1 := fun w => rlower_any t w (by omega)
  have cL2 := fun w => rlower_any t' w (by omega)
  have HS0 : Hid (LowS [.int .i64 6, .string t, .bool true] [.int .i64 6, .string t', .bool true] w w1.drew) := Lib.hid ⟨HA1.out, HB1.out, B1.drew⟩
  have q0 := (cells3 HS0.out.1).2.1
  have q1 := (cells3 HS0.out.2.1).2.1
  clear a0 a1 a2 b0 b1 b2 HA1 HB1
  go_region_held3 (fun w' => w'.cell? ⟨w.heap.size, 1, none⟩ = some (.string t) ∧ w'.cell? ⟨w.heap.size + 1, 1, none⟩ = some (.string t'))
    (first | exact ⟨q0, q1⟩ | exact ⟨(cells3 HS1.out.1).2.1, (cells3 HS1.out.2.1).2.1⟩ | exact ⟨(cells3 HS2.out.1).2.1, (cells3 HS2.out.2.1).2.1⟩)
    (first
      | (go_at_call 14; (with_reducible refine (cL1 w1.drew).mono ?_); rintro e w5 ⟨rfl, hb5⟩; have HS1 := Lib.hid (HS0.out.later hb5))
      | (go_at_call 14; (with_reducible refine (cL2 w5).mono ?_); rintro e w6 ⟨rfl, hb6⟩; have HS2 := Lib.hid (HS1.out.later hb6)))
  clear q0 q1 cL1 cL2
  have HA2 : Hid (Blk w6 w.heap.size [.int .i64 6, .string t, .bool true] 34) := Lib.hid HS2.out.1
  have HB2 : Hid (Blk w6 (w.heap.size + 1) [.int .i64 6, .string t', .bool true] 34) := Lib.hid HS2.out.2.1
  have B2 := HS2.out.2.2
  obtain ⟨a0, a1, a2⟩ := cells3 HA2.out
  obtain ⟨b0, b1, b2⟩ := cells3 HB2.out
  go_wp2_with fail
  refine (cH _).mono ?_
  rintro e w3 ⟨rfl, hb3⟩
  have HA3 := Lib.hid (HA2.out.later hb3 HA2.out.lt)
  have HB3 := Lib.hid (HB2.out.later hb3 HB2.out.lt)
  have B3 := below_trans B2 hb3
  clear a0 a1 a2 b0 b1 b2 HA2 HB2
  obtain ⟨a0, a1, a2⟩ := cells3 HA3.out
  obtain ⟨b0, b1, b2⟩ := cells3 HB3.out
  go_wp2
  go_ret
  exact ⟨rfl, B3⟩

set_option maxRecDepth 100000 in
set_option maxHeartbeats 4000000 in
theorem rimpl_c7tt (t : ByteArray) (t' : ByteArray) (w : World) (ht : t.size ≤ 999999) (ht' : t'.size ≤ 999999) (hn : neverF 7 (strB t) true = false) : Calls Tryd.prog 33 #[.agg #[.int .i64 7, .string t, .bool true], .agg #[.int .i64 7, .string t', .bool true]] w (Told (.bool (holdsF 7 (strB t') true (strB t))) w) := by
  have cN := fun w => rnever_any 7 true t w ht
  rw [hn] at cN
  have cH := fun w => rholds_any 7 true t' t w (by omega) (by omega)
  generalize holdsF 7 (strB t') true (strB t) = z at *
  have hA := (Blk.alloc (w := w) [.int .i64 7, .string t, .bool true] 34).alloc_old (.cells #[.int .i64 7, .string t', .bool true] 34)
  have hB := Blk.alloc (w := w.alloc (.cells #[.int .i64 7, .string t, .bool true] 34)) [.int .i64 7, .string t', .bool true] 34
  have B0 : Below w.heap.size w ((w.alloc (.cells #[.int .i64 7, .string t, .bool true] 34)).alloc (.cells #[.int .i64 7, .string t', .bool true] 34)) := ((Below.refl _ w).alloc (Nat.le_refl _) _).alloc (by simp) _
  have hs : (w.alloc (.cells #[.int .i64 7, .string t, .bool true] 34)).heap.size = w.heap.size + 1 := by simp
  rw [hs] at hB
  have HA := Lib.hid hA
  have HB := Lib.hid hB
  obtain ⟨a0, a1, a2⟩ := cells3 hA
  obtain ⟨b0, b1, b2⟩ := cells3 hB
  clear hA hB hs
  go_enter Tryd.func33, Tryd.ntmps33
  go_wp2_with fail
  refine (cN _).mono ?_
  rintro e w1 ⟨rfl, hb1⟩
  have HA1 := Lib.hid (HA.out.later hb1 HA.out.lt)
  have HB1 := Lib.hid (HB.out.later hb1 HB.out.lt)
  have B1 := below_trans B0 hb1
  clear a0 a1 a2 b0 b1 b2 HA HB
  obtain ⟨a0, a1, a2⟩ := cells3 HA1.out
  obtain ⟨b0, b1, b2⟩ := cells3 HB1.out
  go_wp2_with fail
  have cL1 := fun w => rlower_any t w (by omega)
  have cL2 := fun w => rlower_any t' w (by omega)
  have HS0 : Hid (LowS [.int .i64 7, .string t, .bool true] [.int .i64 7, .string t', .bool true] w w1.drew) := Lib.hid ⟨HA1.out, HB1.out, B1.drew⟩
  have q0 := (cells3 HS0.out.1).2.1
  have q1 := (cells3 HS0.out.2.1).2.1
  clear a0 a1 a2 b0 b1 b2 HA1 HB1
  go_region_held3 (fun w' => w'.cell? ⟨w.heap.size, 1, none⟩ = some (.string t) ∧ w'.cell? ⟨w.heap.size + 1, 1, none⟩ = some (.string t'))
    (first | exact ⟨q0, q1⟩ | exact ⟨(cells3 HS1.out.1).2.1, (cells3 HS1.out.2.1).2.1⟩ | exact ⟨(cells3 HS2.out.1).2.1, (cells3 HS2.out.2.1).2.1⟩)
    (first
      | (go_at_call 14; (with_reducible refine (cL1 w1.drew).mono ?_); rintro e w5 ⟨rfl, hb5⟩; have HS1 := Lib.hid (HS0.out.later hb5))
      | (go_at_call 14; (with_reducible refine (cL2 w5).mono ?_); rintro e w6 ⟨rfl, hb6⟩; have HS2 := Lib.hid (HS1.out.later hb6)))
  clear q0 q1 cL1 cL2
  have HA2 : Hid (Blk w6 w.heap.size [.int .i64 7, .string t, .bool true] 34) := Lib.hid HS2.out.1
  have HB2 : Hid (Blk w6 (w.heap.size + 1) [.int .i64 7, .string t', .bool true] 34) := Lib.hid HS2.out.2.1
  have B2 := HS2.out.2.2
  obtain ⟨a0, a1, a2⟩ := cells3 HA2.out
  obtain ⟨b0, b1, b2⟩ := cells3 HB2.out
  go_wp2_with fail
  refine (cH _).mono ?_
  rintro e w3 ⟨rfl, hb3⟩
  have HA3 := Lib.hid (HA2.out.later hb3 HA2.out.lt)
  have HB3 := Lib.hid (HB2.out.later hb3 HB2.out.lt)
  have B3 := below_trans B2 hb3
  clear a0 a1 a2 b0 b1 b2 HA2 HB2
  obtain ⟨a0, a1, a2⟩ := cells3 HA3.out
  obtain ⟨b0, b1, b2⟩ := cells3 HB3.out
  go_wp2
  go_ret
  exact ⟨rfl, B3⟩

set_option maxRecDepth 100000 in
set_option maxHeartbeats 4000000 in
theorem rimpl_e3tt (t : ByteArray) (t' : ByteArray) (w : World) (ht : t.size ≤ 999999) (ht' : t'.size ≤ 999999) (hn : neverF 3 (strB t) true = false) : Calls Tryd.prog 33 #[.agg #[.int .i64 3, .string t, .bool true], .agg #[.int .i64 7, .string t', .bool true]] w (Told (.bool (holdsF 7 (strB t') true (strB t))) w) := by
  have cN := fun w => rnever_any 3 true t w ht
  rw [hn] at cN
  have cH := fun w => rholds_any 7 true t' t w (by omega) (by omega)
  generalize holdsF 7 (strB t') true (strB t) = z at *
  have hA := (Blk.alloc (w := w) [.int .i64 3, .string t, .bool true] 34).alloc_old (.cells #[.int .i64 7, .string t', .bool true] 34)
  have hB := Blk.alloc (w := w.alloc (.cells #[.int .i64 3, .string t, .bool true] 34)) [.int .i64 7, .string t', .bool true] 34
  have B0 : Below w.heap.size w ((w.alloc (.cells #[.int .i64 3, .string t, .bool true] 34)).alloc (.cells #[.int .i64 7, .string t', .bool true] 34)) := ((Below.refl _ w).alloc (Nat.le_refl _) _).alloc (by simp) _
  have hs : (w.alloc (.cells #[.int .i64 3, .string t, .bool true] 34)).heap.size = w.heap.size + 1 := by simp
  rw [hs] at hB
  have HA := Lib.hid hA
  have HB := Lib.hid hB
  obtain ⟨a0, a1, a2⟩ := cells3 hA
  obtain ⟨b0, b1, b2⟩ := cells3 hB
  clear hA hB hs
  go_enter Tryd.func33, Tryd.ntmps33
  go_wp2_with fail
  refine (cN _).mono ?_
  rintro e w1 ⟨rfl, hb1⟩
  have HA1 := Lib.hid (HA.out.later hb1 HA.out.lt)
  have HB1 := Lib.hid (HB.out.later hb1 HB.out.lt)
  have B1 := below_trans B0 hb1
  clear a0 a1 a2 b0 b1 b2 HA HB
  obtain ⟨a0, a1, a2⟩ := cells3 HA1.out
  obtain ⟨b0, b1, b2⟩ := cells3 HB1.out
  go_wp2_with fail
  have cL1 := fun w => rlower_any t w (by omega)
  have cL2 := fun w => rlower_any t' w (by omega)
  have HS0 : Hid (LowS [.int .i64 3, .string t, .bool true] [.int .i64 7, .string t', .bool true] w w1.drew) := Lib.hid ⟨HA1.out, HB1.out, B1.drew⟩
  have q0 := (cells3 HS0.out.1).2.1
  have q1 := (cells3 HS0.out.2.1).2.1
  clear a0 a1 a2 b0 b1 b2 HA1 HB1
  go_region_held3 (fun w' => w'.cell? ⟨w.heap.size, 1, none⟩ = some (.string t) ∧ w'.cell? ⟨w.heap.size + 1, 1, none⟩ = some (.string t'))
    (first | exact ⟨q0, q1⟩ | exact ⟨(cells3 HS1.out.1).2.1, (cells3 HS1.out.2.1).2.1⟩ | exact ⟨(cells3 HS2.out.1).2.1, (cells3 HS2.out.2.1).2.1⟩)
    (first
      | (go_at_call 14; (with_reducible refine (cL1 w1.drew).mono ?_); rintro e w5 ⟨rfl, hb5⟩; have HS1 := Lib.hid (HS0.out.later hb5))
      | (go_at_call 14; (with_reducible refine (cL2 w5).mono ?_); rintro e w6 ⟨rfl, hb6⟩; have HS2 := Lib.hid (HS1.out.later hb6)))
  clear q0 q1 cL1 cL2
  have HA2 : Hid (Blk w6 w.heap.size [.int .i64 3, .string t, .bool true] 34) := Lib.hid HS2.out.1
  have HB2 : Hid (Blk w6 (w.heap.size + 1) [.int .i64 7, .string t', .bool true] 34) := Lib.hid HS2.out.2.1
  have B2 := HS2.out.2.2
  obtain ⟨a0, a1, a2⟩ := cells3 HA2.out
  obtain ⟨b0, b1, b2⟩ := cells3 HB2.out
  go_wp2_with fail
  refine (cH _).mono ?_
  rintro e w3 ⟨rfl, hb3⟩
  have HA3 := Lib.hid (HA2.out.later hb3 HA2.out.lt)
  have HB3 := Lib.hid (HB2.out.later hb3 HB2.out.lt)
  have B3 := below_trans B2 hb3
  clear a0 a1 a2 b0 b1 b2 HA2 HB2
  obtain ⟨a0, a1, a2⟩ := cells3 HA3.out
  obtain ⟨b0, b1, b2⟩ := cells3 HB3.out
  go_wp2
  go_ret
  exact ⟨rfl, B3⟩

set_option maxRecDepth 100000 in
set_option maxHeartbeats 4000000 in
theorem rimpl_f3tt (t : ByteArray) (op' : Int) (t' : ByteArray) (w : World) (ht : t.size ≤ 999999) (ht' : t'.size ≤ 999999) (hn : neverF 3 (strB t) true = false) (h1 : op' ≠ 1) (he : op' ≠ 3) (h7 : op' ≠ 7) : Calls Tryd.prog 33 #[.agg #[.int .i64 3, .string t, .bool true], .agg #[.int .i64 op', .string t', .bool true]] w (Told (.bool false) w) := by
  have cN := fun w => rnever_any 3 true t w ht
  rw [hn] at cN
  have m1 : (op' == 1) = false := beq_eq_false_iff_ne.2 (by omega)
  have k0 : (3 == op') = false := beq_eq_false_iff_ne.2 (by omega)
  have k1 : (op' == 7) = false := beq_eq_false_iff_ne.2 (by omega)
  have hA := (Blk.alloc (w := w) [.int .i64 3, .string t, .bool true] 34).alloc_old (.cells #[.int .i64 op', .string t', .bool true] 34)
  have hB := Blk.alloc (w := w.alloc (.cells #[.int .i64 3, .string t, .bool true] 34)) [.int .i64 op', .string t', .bool true] 34
  have B0 : Below w.heap.size w ((w.alloc (.cells #[.int .i64 3, .string t, .bool true] 34)).alloc (.cells #[.int .i64 op', .string t', .bool true] 34)) := ((Below.refl _ w).alloc (Nat.le_refl _) _).alloc (by simp) _
  have hs : (w.alloc (.cells #[.int .i64 3, .string t, .bool true] 34)).heap.size = w.heap.size + 1 := by simp
  rw [hs] at hB
  have HA := Lib.hid hA
  have HB := Lib.hid hB
  obtain ⟨a0, a1, a2⟩ := cells3 hA
  obtain ⟨b0, b1, b2⟩ := cells3 hB
  clear hA hB hs
  go_enter Tryd.func33, Tryd.ntmps33
  go_wp2_with fail
  refine (cN _).mono ?_
  rintro e w1 ⟨rfl, hb1⟩
  have HA1 := Lib.hid (HA.out.later hb1 HA.out.lt)
  have HB1 := Lib.hid (HB.out.later hb1 HB.out.lt)
  have B1 := below_trans B0 hb1
  clear a0 a1 a2 b0 b1 b2 HA HB
  obtain ⟨a0, a1, a2⟩ := cells3 HA1.out
  obtain ⟨b0, b1, b2⟩ := cells3 HB1.out
  go_wp2_with fail
  have cL1 := fun w => rlower_any t w (by omega)
  have cL2 := fun w => rlower_any t' w (by omega)
  have HS0 : Hid (LowS [.int .i64 3, .string t, .bool true] [.int .i64 op', .string t', .bool true] w w1.drew) := Lib.hid ⟨HA1.out, HB1.out, B1.drew⟩
  have q0 := (cells3 HS0.out.1).2.1
  have q1 := (cells3 HS0.out.2.1).2.1
  clear a0 a1 a2 b0 b1 b2 HA1 HB1
  go_region_held3 (fun w' => w'.cell? ⟨w.heap.size, 1, none⟩ = some (.string t) ∧ w'.cell? ⟨w.heap.size + 1, 1, none⟩ = some (.string t'))
    (first | exact ⟨q0, q1⟩ | exact ⟨(cells3 HS1.out.1).2.1, (cells3 HS1.out.2.1).2.1⟩ | exact ⟨(cells3 HS2.out.1).2.1, (cells3 HS2.out.2.1).2.1⟩)
    (first
      | (go_at_call 14; (with_reducible refine (cL1 w1.drew).mono ?_); rintro e w5 ⟨rfl, hb5⟩; have HS1 := Lib.hid (HS0.out.later hb5))
      | (go_at_call 14; (with_reducible refine (cL2 w5).mono ?_); rintro e w6 ⟨rfl, hb6⟩; have HS2 := Lib.hid (HS1.out.later hb6)))
  clear q0 q1 cL1 cL2
  have HA2 : Hid (Blk w6 w.heap.size [.int .i64 3, .string t, .bool true] 34) := Lib.hid HS2.out.1
  have HB2 : Hid (Blk w6 (w.heap.size + 1) [.int .i64 op', .string t', .bool true] 34) := Lib.hid HS2.out.2.1
  have B2 := HS2.out.2.2
  obtain ⟨a0, a1, a2⟩ := cells3 HA2.out
  obtain ⟨b0, b1, b2⟩ := cells3 HB2.out
  go_wp2
  go_ret
  exact ⟨rfl, B2⟩

set_option maxRecDepth 100000 in
set_option maxHeartbeats 4000000 in
theorem rimpl_e5tt (t : ByteArray) (t' : ByteArray) (w : World) (ht : t.size ≤ 999999) (ht' : t'.size ≤ 999999) (hn : neverF 5 (strB t) true = false) : Calls Tryd.prog 33 #[.agg #[.int .i64 5, .string t, .bool true], .agg #[.int .i64 7, .string t', .bool true]] w (Told (.bool (holdsF 7 (strB t') true (strB t))) w) := by
  have cN := fun w => rnever_any 5 true t w ht
  rw [hn] at cN
  have cH := fun w => rholds_any 7 true t' t w (by omega) (by omega)
  generalize holdsF 7 (strB t') true (strB t) = z at *
  have hA := (Blk.alloc (w := w) [.int .i64 5, .string t, .bool true] 34).alloc_old (.cells #[.int .i64 7, .string t', .bool true] 34)
  have hB := Blk.alloc (w := w.alloc (.cells #[.int .i64 5, .string t, .bool true] 34)) [.int .i64 7, .string t', .bool true] 34
  have B0 : Below w.heap.size w ((w.alloc (.cells #[.int .i64 5, .string t, .bool true] 34)).alloc (.cells #[.int .i64 7, .string t', .bool true] 34)) := ((Below.refl _ w).alloc (Nat.le_refl _) _).alloc (by simp) _
  have hs : (w.alloc (.cells #[.int .i64 5, .string t, .bool true] 34)).heap.size = w.heap.size + 1 := by simp
  rw [hs] at hB
  have HA := Lib.hid hA
  have HB := Lib.hid hB
  obtain ⟨a0, a1, a2⟩ := cells3 hA
  obtain ⟨b0, b1, b2⟩ := cells3 hB
  clear hA hB hs
  go_enter Tryd.func33, Tryd.ntmps33
  go_wp2_with fail
  refine (cN _).mono ?_
  rintro e w1 ⟨rfl, hb1⟩
  have HA1 := Lib.hid (HA.out.later hb1 HA.out.lt)
  have HB1 := Lib.hid (HB.out.later hb1 HB.out.lt)
  have B1 := below_trans B0 hb1
  clear a0 a1 a2 b0 b1 b2 HA HB
  obtain ⟨a0, a1, a2⟩ := cells3 HA1.out
  obtain ⟨b0, b1, b2⟩ := cells3 HB1.out
  go_wp2_with fail
  have cL1 := fun w => rlower_any t w (by omega)
  have cL2 := fun w => rlower_any t' w (by omega)
  have HS0 : Hid (LowS [.int .i64 5, .string t, .bool true] [.int .i64 7, .string t', .bool true] w w1.drew) := Lib.hid ⟨HA1.out, HB1.out, B1.drew⟩
  have q0 := (cells3 HS0.out.1).2.1
  have q1 := (cells3 HS0.out.2.1).2.1
  clear a0 a1 a2 b0 b1 b2 HA1 HB1
  go_region_held3 (fun w' => w'.cell? ⟨w.heap.size, 1, none⟩ = some (.string t) ∧ w'.cell? ⟨w.heap.size + 1, 1, none⟩ = some (.string t'))
    (first | exact ⟨q0, q1⟩ | exact ⟨(cells3 HS1.out.1).2.1, (cells3 HS1.out.2.1).2.1⟩ | exact ⟨(cells3 HS2.out.1).2.1, (cells3 HS2.out.2.1).2.1⟩)
    (first
      | (go_at_call 14; (with_reducible refine (cL1 w1.drew).mono ?_); rintro e w5 ⟨rfl, hb5⟩; have HS1 := Lib.hid (HS0.out.later hb5))
      | (go_at_call 14; (with_reducible refine (cL2 w5).mono ?_); rintro e w6 ⟨rfl, hb6⟩; have HS2 := Lib.hid (HS1.out.later hb6)))
  clear q0 q1 cL1 cL2
  have HA2 : Hid (Blk w6 w.heap.size [.int .i64 5, .string t, .bool true] 34) := Lib.hid HS2.out.1
  have HB2 : Hid (Blk w6 (w.heap.size + 1) [.int .i64 7, .string t', .bool true] 34) := Lib.hid HS2.out.2.1
  have B2 := HS2.out.2.2
  obtain ⟨a0, a1, a2⟩ := cells3 HA2.out
  obtain ⟨b0, b1, b2⟩ := cells3 HB2.out
  go_wp2_with fail
  refine (cH _).mono ?_
  rintro e w3 ⟨rfl, hb3⟩
  have HA3 := Lib.hid (HA2.out.later hb3 HA2.out.lt)
  have HB3 := Lib.hid (HB2.out.later hb3 HB2.out.lt)
  have B3 := below_trans B2 hb3
  clear a0 a1 a2 b0 b1 b2 HA2 HB2
  obtain ⟨a0, a1, a2⟩ := cells3 HA3.out
  obtain ⟨b0, b1, b2⟩ := cells3 HB3.out
  go_wp2
  go_ret
  exact ⟨rfl, B3⟩

set_option maxRecDepth 100000 in
set_option maxHeartbeats 4000000 in
theorem rimpl_f5tt (t : ByteArray) (op' : Int) (t' : ByteArray) (w : World) (ht : t.size ≤ 999999) (ht' : t'.size ≤ 999999) (hn : neverF 5 (strB t) true = false) (h1 : op' ≠ 1) (he : op' ≠ 5) (h7 : op' ≠ 7) : Calls Tryd.prog 33 #[.agg #[.int .i64 5, .string t, .bool true], .agg #[.int .i64 op', .string t', .bool true]] w (Told (.bool false) w) := by
  have cN := fun w => rnever_any 5 true t w ht
  rw [hn] at cN
  have m1 : (op' == 1) = false := beq_eq_false_iff_ne.2 (by omega)
  have k0 : (5 == op') = false := beq_eq_false_iff_ne.2 (by omega)
  have k1 : (op' == 7) = false := beq_eq_false_iff_ne.2 (by omega)
  have hA := (Blk.alloc (w := w) [.int .i64 5, .string t, .bool true] 34).alloc_old (.cells #[.int .i64 op', .string t', .bool true] 34)
  have hB := Blk.alloc (w := w.alloc (.cells #[.int .i64 5, .string t, .bool true] 34)) [.int .i64 op', .string t', .bool true] 34
  have B0 : Below w.heap.size w ((w.alloc (.cells #[.int .i64 5, .string t, .bool true] 34)).alloc (.cells #[.int .i64 op', .string t', .bool true] 34)) := ((Below.refl _ w).alloc (Nat.le_refl _) _).alloc (by simp) _
  have hs : (w.alloc (.cells #[.int .i64 5, .string t, .bool true] 34)).heap.size = w.heap.size + 1 := by simp
  rw [hs] at hB
  have HA := Lib.hid hA
  have HB := Lib.hid hB
  obtain ⟨a0, a1, a2⟩ := cells3 hA
  obtain ⟨b0, b1, b2⟩ := cells3 hB
  clear hA hB hs
  go_enter Tryd.func33, Tryd.ntmps33
  go_wp2_with fail
  refine (cN _).mono ?_
  rintro e w1 ⟨rfl, hb1⟩
  have HA1 := Lib.hid (HA.out.later hb1 HA.out.lt)
  have HB1 := Lib.hid (HB.out.later hb1 HB.out.lt)
  have B1 := below_trans B0 hb1
  clear a0 a1 a2 b0 b1 b2 HA HB
  obtain ⟨a0, a1, a2⟩ := cells3 HA1.out
  obtain ⟨b0, b1, b2⟩ := cells3 HB1.out
  go_wp2_with fail
  have cL1 := fun w => rlower_any t w (by omega)
  have cL2 := fun w => rlower_any t' w (by omega)
  have HS0 : Hid (LowS [.int .i64 5, .string t, .bool true] [.int .i64 op', .string t', .bool true] w w1.drew) := Lib.hid ⟨HA1.out, HB1.out, B1.drew⟩
  have q0 := (cells3 HS0.out.1).2.1
  have q1 := (cells3 HS0.out.2.1).2.1
  clear a0 a1 a2 b0 b1 b2 HA1 HB1
  go_region_held3 (fun w' => w'.cell? ⟨w.heap.size, 1, none⟩ = some (.string t) ∧ w'.cell? ⟨w.heap.size + 1, 1, none⟩ = some (.string t'))
    (first | exact ⟨q0, q1⟩ | exact ⟨(cells3 HS1.out.1).2.1, (cells3 HS1.out.2.1).2.1⟩ | exact ⟨(cells3 HS2.out.1).2.1, (cells3 HS2.out.2.1).2.1⟩)
    (first
      | (go_at_call 14; (with_reducible refine (cL1 w1.drew).mono ?_); rintro e w5 ⟨rfl, hb5⟩; have HS1 := Lib.hid (HS0.out.later hb5))
      | (go_at_call 14; (with_reducible refine (cL2 w5).mono ?_); rintro e w6 ⟨rfl, hb6⟩; have HS2 := Lib.hid (HS1.out.later hb6)))
  clear q0 q1 cL1 cL2
  have HA2 : Hid (Blk w6 w.heap.size [.int .i64 5, .string t, .bool true] 34) := Lib.hid HS2.out.1
  have HB2 : Hid (Blk w6 (w.heap.size + 1) [.int .i64 op', .string t', .bool true] 34) := Lib.hid HS2.out.2.1
  have B2 := HS2.out.2.2
  obtain ⟨a0, a1, a2⟩ := cells3 HA2.out
  obtain ⟨b0, b1, b2⟩ := cells3 HB2.out
  go_wp2
  go_ret
  exact ⟨rfl, B2⟩

set_option maxRecDepth 100000 in
set_option maxHeartbeats 4000000 in
theorem rimpl_e6tt (t : ByteArray) (t' : ByteArray) (w : World) (ht : t.size ≤ 999999) (ht' : t'.size ≤ 999999) (hn : neverF 6 (strB t) true = false) : Calls Tryd.prog 33 #[.agg #[.int .i64 6, .string t, .bool true], .agg #[.int .i64 7, .string t', .bool true]] w (Told (.bool (holdsF 7 (strB t') true (strB t))) w) := by
  have cN := fun w => rnever_any 6 true t w ht
  rw [hn] at cN
  have cH := fun w => rholds_any 7 true t' t w (by omega) (by omega)
  generalize holdsF 7 (strB t') true (strB t) = z at *
  have hA := (Blk.alloc (w := w) [.int .i64 6, .string t, .bool true] 34).alloc_old (.cells #[.int .i64 7, .string t', .bool true] 34)
  have hB := Blk.alloc (w := w.alloc (.cells #[.int .i64 6, .string t, .bool true] 34)) [.int .i64 7, .string t', .bool true] 34
  have B0 : Below w.heap.size w ((w.alloc (.cells #[.int .i64 6, .string t, .bool true] 34)).alloc (.cells #[.int .i64 7, .string t', .bool true] 34)) := ((Below.refl _ w).alloc (Nat.le_refl _) _).alloc (by simp) _
  have hs : (w.alloc (.cells #[.int .i64 6, .string t, .bool true] 34)).heap.size = w.heap.size + 1 := by simp
  rw [hs] at hB
  have HA := Lib.hid hA
  have HB := Lib.hid hB
  obtain ⟨a0, a1, a2⟩ := cells3 hA
  obtain ⟨b0, b1, b2⟩ := cells3 hB
  clear hA hB hs
  go_enter Tryd.func33, Tryd.ntmps33
  go_wp2_with fail
  refine (cN _).mono ?_
  rintro e w1 ⟨rfl, hb1⟩
  have HA1 := Lib.hid (HA.out.later hb1 HA.out.lt)
  have HB1 := Lib.hid (HB.out.later hb1 HB.out.lt)
  have B1 := below_trans B0 hb1
  clear a0 a1 a2 b0 b1 b2 HA HB
  obtain ⟨a0, a1, a2⟩ := cells3 HA1.out
  obtain ⟨b0, b1, b2⟩ := cells3 HB1.out
  go_wp2_with fail
  have cL1 := fun w => rlower_any t w (by omega)
  have cL2 := fun w => rlower_any t' w (by omega)
  have HS0 : Hid (LowS [.int .i64 6, .string t, .bool true] [.int .i64 7, .string t', .bool true] w w1.drew) := Lib.hid ⟨HA1.out, HB1.out, B1.drew⟩
  have q0 := (cells3 HS0.out.1).2.1
  have q1 := (cells3 HS0.out.2.1).2.1
  clear a0 a1 a2 b0 b1 b2 HA1 HB1
  go_region_held3 (fun w' => w'.cell? ⟨w.heap.size, 1, none⟩ = some (.string t) ∧ w'.cell? ⟨w.heap.size + 1, 1, none⟩ = some (.string t'))
    (first | exact ⟨q0, q1⟩ | exact ⟨(cells3 HS1.out.1).2.1, (cells3 HS1.out.2.1).2.1⟩ | exact ⟨(cells3 HS2.out.1).2.1, (cells3 HS2.out.2.1).2.1⟩)
    (first
      | (go_at_call 14; (with_reducible refine (cL1 w1.drew).mono ?_); rintro e w5 ⟨rfl, hb5⟩; have HS1 := Lib.hid (HS0.out.later hb5))
      | (go_at_call 14; (with_reducible refine (cL2 w5).mono ?_); rintro e w6 ⟨rfl, hb6⟩; have HS2 := Lib.hid (HS1.out.later hb6)))
  clear q0 q1 cL1 cL2
  have HA2 : Hid (Blk w6 w.heap.size [.int .i64 6, .string t, .bool true] 34) := Lib.hid HS2.out.1
  have HB2 : Hid (Blk w6 (w.heap.size + 1) [.int .i64 7, .string t', .bool true] 34) := Lib.hid HS2.out.2.1
  have B2 := HS2.out.2.2
  obtain ⟨a0, a1, a2⟩ := cells3 HA2.out
  obtain ⟨b0, b1, b2⟩ := cells3 HB2.out
  go_wp2_with fail
  refine (cH _).mono ?_
  rintro e w3 ⟨rfl, hb3⟩
  have HA3 := Lib.hid (HA2.out.later hb3 HA2.out.lt)
  have HB3 := Lib.hid (HB2.out.later hb3 HB2.out.lt)
  have B3 := below_trans B2 hb3
  clear a0 a1 a2 b0 b1 b2 HA2 HB2
  obtain ⟨a0, a1, a2⟩ := cells3 HA3.out
  obtain ⟨b0, b1, b2⟩ := cells3 HB3.out
  go_wp2
  go_ret
  exact ⟨rfl, B3⟩

set_option maxRecDepth 100000 in
set_option maxHeartbeats 4000000 in
theorem rimpl_f6tt (t : ByteArray) (op' : Int) (t' : ByteArray) (w : World) (ht : t.size ≤ 999999) (ht' : t'.size ≤ 999999) (hn : neverF 6 (strB t) true = false) (h1 : op' ≠ 1) (he : op' ≠ 6) (h7 : op' ≠ 7) : Calls Tryd.prog 33 #[.agg #[.int .i64 6, .string t, .bool true], .agg #[.int .i64 op', .string t', .bool true]] w (Told (.bool false) w) := by
  have cN := fun w => rnever_any 6 true t w ht
  rw [hn] at cN
  have m1 : (op' == 1) = false := beq_eq_false_iff_ne.2 (by omega)
  have k0 : (6 == op') = false := beq_eq_false_iff_ne.2 (by omega)
  have k1 : (op' == 7) = false := beq_eq_false_iff_ne.2 (by omega)
  have hA := (Blk.alloc (w := w) [.int .i64 6, .string t, .bool true] 34).alloc_old (.cells #[.int .i64 op', .string t', .bool true] 34)
  have hB := Blk.alloc (w := w.alloc (.cells #[.int .i64 6, .string t, .bool true] 34)) [.int .i64 op', .string t', .bool true] 34
  have B0 : Below w.heap.size w ((w.alloc (.cells #[.int .i64 6, .string t, .bool true] 34)).alloc (.cells #[.int .i64 op', .string t', .bool true] 34)) := ((Below.refl _ w).alloc (Nat.le_refl _) _).alloc (by simp) _
  have hs : (w.alloc (.cells #[.int .i64 6, .string t, .bool true] 34)).heap.size = w.heap.size + 1 := by simp
  rw [hs] at hB
  have HA := Lib.hid hA
  have HB := Lib.hid hB
  obtain ⟨a0, a1, a2⟩ := cells3 hA
  obtain ⟨b0, b1, b2⟩ := cells3 hB
  clear hA hB hs
  go_enter Tryd.func33, Tryd.ntmps33
  go_wp2_with fail
  refine (cN _).mono ?_
  rintro e w1 ⟨rfl, hb1⟩
  have HA1 := Lib.hid (HA.out.later hb1 HA.out.lt)
  have HB1 := Lib.hid (HB.out.later hb1 HB.out.lt)
  have B1 := below_trans B0 hb1
  clear a0 a1 a2 b0 b1 b2 HA HB
  obtain ⟨a0, a1, a2⟩ := cells3 HA1.out
  obtain ⟨b0, b1, b2⟩ := cells3 HB1.out
  go_wp2_with fail
  have cL1 := fun w => rlower_any t w (by omega)
  have cL2 := fun w => rlower_any t' w (by omega)
  have HS0 : Hid (LowS [.int .i64 6, .string t, .bool true] [.int .i64 op', .string t', .bool true] w w1.drew) := Lib.hid ⟨HA1.out, HB1.out, B1.drew⟩
  have q0 := (cells3 HS0.out.1).2.1
  have q1 := (cells3 HS0.out.2.1).2.1
  clear a0 a1 a2 b0 b1 b2 HA1 HB1
  go_region_held3 (fun w' => w'.cell? ⟨w.heap.size, 1, none⟩ = some (.string t) ∧ w'.cell? ⟨w.heap.size + 1, 1, none⟩ = some (.string t'))
    (first | exact ⟨q0, q1⟩ | exact ⟨(cells3 HS1.out.1).2.1, (cells3 HS1.out.2.1).2.1⟩ | exact ⟨(cells3 HS2.out.1).2.1, (cells3 HS2.out.2.1).2.1⟩)
    (first
      | (go_at_call 14; (with_reducible refine (cL1 w1.drew).mono ?_); rintro e w5 ⟨rfl, hb5⟩; have HS1 := Lib.hid (HS0.out.later hb5))
      | (go_at_call 14; (with_reducible refine (cL2 w5).mono ?_); rintro e w6 ⟨rfl, hb6⟩; have HS2 := Lib.hid (HS1.out.later hb6)))
  clear q0 q1 cL1 cL2
  have HA2 : Hid (Blk w6 w.heap.size [.int .i64 6, .string t, .bool true] 34) := Lib.hid HS2.out.1
  have HB2 : Hid (Blk w6 (w.heap.size + 1) [.int .i64 op', .string t', .bool true] 34) := Lib.hid HS2.out.2.1
  have B2 := HS2.out.2.2
  obtain ⟨a0, a1, a2⟩ := cells3 HA2.out
  obtain ⟨b0, b1, b2⟩ := cells3 HB2.out
  go_wp2
  go_ret
  exact ⟨rfl, B2⟩

set_option maxRecDepth 100000 in
set_option maxHeartbeats 4000000 in
theorem rimpl_gtt (op : Int) (t : ByteArray) (op' : Int) (t' : ByteArray) (w : World) (ht : t.size ≤ 999999) (ht' : t'.size ≤ 999999) (hn : neverF op (strB t) true = false) (h1 : op' ≠ 1) (h2 : op ≠ 2) (h3 : op ≠ 3) (h5 : op ≠ 5) (h6 : op ≠ 6) (he : op ≠ op') : Calls Tryd.prog 33 #[.agg #[.int .i64 op, .string t, .bool true], .agg #[.int .i64 op', .string t', .bool true]] w (Told (.bool false) w) := by
  have cN := fun w => rnever_any op true t w ht
  rw [hn] at cN
  have m1 : (op' == 1) = false := beq_eq_false_iff_ne.2 (by omega)
  have k0 : (op == 2) = false := beq_eq_false_iff_ne.2 (by omega)
  have k1 : (op == 3) = false := beq_eq_false_iff_ne.2 (by omega)
  have k2 : (op == 5) = false := beq_eq_false_iff_ne.2 (by omega)
  have k3 : (op == 6) = false := beq_eq_false_iff_ne.2 (by omega)
  have k4 : (op == op') = false := beq_eq_false_iff_ne.2 (by omega)
  have hA := (Blk.alloc (w := w) [.int .i64 op, .string t, .bool true] 34).alloc_old (.cells #[.int .i64 op', .string t', .bool true] 34)
  have hB := Blk.alloc (w := w.alloc (.cells #[.int .i64 op, .string t, .bool true] 34)) [.int .i64 op', .string t', .bool true] 34
  have B0 : Below w.heap.size w ((w.alloc (.cells #[.int .i64 op, .string t, .bool true] 34)).alloc (.cells #[.int .i64 op', .string t', .bool true] 34)) := ((Below.refl _ w).alloc (Nat.le_refl _) _).alloc (by simp) _
  have hs : (w.alloc (.cells #[.int .i64 op, .string t, .bool true] 34)).heap.size = w.heap.size + 1 := by simp
  rw [hs] at hB
  have HA := Lib.hid hA
  have HB := Lib.hid hB
  obtain ⟨a0, a1, a2⟩ := cells3 hA
  obtain ⟨b0, b1, b2⟩ := cells3 hB
  clear hA hB hs
  go_enter Tryd.func33, Tryd.ntmps33
  go_wp2_with fail
  refine (cN _).mono ?_
  rintro e w1 ⟨rfl, hb1⟩
  have HA1 := Lib.hid (HA.out.later hb1 HA.out.lt)
  have HB1 := Lib.hid (HB.out.later hb1 HB.out.lt)
  have B1 := below_trans B0 hb1
  clear a0 a1 a2 b0 b1 b2 HA HB
  obtain ⟨a0, a1, a2⟩ := cells3 HA1.out
  obtain ⟨b0, b1, b2⟩ := cells3 HB1.out
  go_wp2_with fail
  have cL1 := fun w => rlower_any t w (by omega)
  have cL2 := fun w => rlower_any t' w (by omega)
  have HS0 : Hid (LowS [.int .i64 op, .string t, .bool true] [.int .i64 op', .string t', .bool true] w w1.drew) := Lib.hid ⟨HA1.out, HB1.out, B1.drew⟩
  have q0 := (cells3 HS0.out.1).2.1
  have q1 := (cells3 HS0.out.2.1).2.1
  clear a0 a1 a2 b0 b1 b2 HA1 HB1
  go_region_held3 (fun w' => w'.cell? ⟨w.heap.size, 1, none⟩ = some (.string t) ∧ w'.cell? ⟨w.heap.size + 1, 1, none⟩ = some (.string t'))
    (first | exact ⟨q0, q1⟩ | exact ⟨(cells3 HS1.out.1).2.1, (cells3 HS1.out.2.1).2.1⟩ | exact ⟨(cells3 HS2.out.1).2.1, (cells3 HS2.out.2.1).2.1⟩)
    (first
      | (go_at_call 14; (with_reducible refine (cL1 w1.drew).mono ?_); rintro e w5 ⟨rfl, hb5⟩; have HS1 := Lib.hid (HS0.out.later hb5))
      | (go_at_call 14; (with_reducible refine (cL2 w5).mono ?_); rintro e w6 ⟨rfl, hb6⟩; have HS2 := Lib.hid (HS1.out.later hb6)))
  clear q0 q1 cL1 cL2
  have HA2 : Hid (Blk w6 w.heap.size [.int .i64 op, .string t, .bool true] 34) := Lib.hid HS2.out.1
  have HB2 : Hid (Blk w6 (w.heap.size + 1) [.int .i64 op', .string t', .bool true] 34) := Lib.hid HS2.out.2.1
  have B2 := HS2.out.2.2
  obtain ⟨a0, a1, a2⟩ := cells3 HA2.out
  obtain ⟨b0, b1, b2⟩ := cells3 HB2.out
  go_wp2
  go_ret
  exact ⟨rfl, B2⟩

set_option maxRecDepth 100000 in
set_option maxHeartbeats 4000000 in
theorem rimpl_htt (op : Int) (t : ByteArray) (t' : ByteArray) (w : World) (ht : t.size ≤ 999999) (ht' : t'.size ≤ 999999) (hn : neverF op (strB t) true = false) (h1 : op ≠ 1) (h2 : op ≠ 2) (h3 : op ≠ 3) (h4 : op ≠ 4) (h5 : op < 5) : Calls Tryd.prog 33 #[.agg #[.int .i64 op, .string t, .bool true], .agg #[.int .i64 op, .string t', .bool true]] w (Told (.bool false) w) := by
  have cN := fun w => rnever_any op true t w ht
  rw [hn] at cN
  have k0 : (op == 1) = false := beq_eq_false_iff_ne.2 (by omega)
  have k1 : (op == 2) = false := beq_eq_false_iff_ne.2 (by omega)
  have k2 : (op == 3) = false := beq_eq_false_iff_ne.2 (by omega)
  have k3 : (op == 4) = false := beq_eq_false_iff_ne.2 (by omega)
  have k4 : (op == 5) = false := beq_eq_false_iff_ne.2 (by omega)
  have k5 : (op == 6) = false := beq_eq_false_iff_ne.2 (by omega)
  have k9 : (op == op) = true := beq_self_eq_true op
  have k10 : ¬ (5 : Int) ≤ op := by omega
  have hA := (Blk.alloc (w := w) [.int .i64 op, .string t, .bool true] 34).alloc_old (.cells #[.int .i64 op, .string t', .bool true] 34)
  have hB := Blk.alloc (w := w.alloc (.cells #[.int .i64 op, .string t, .bool true] 34)) [.int .i64 op, .string t', .bool true] 34
  have B0 : Below w.heap.size w ((w.alloc (.cells #[.int .i64 op, .string t, .bool true] 34)).alloc (.cells #[.int .i64 op, .string t', .bool true] 34)) := ((Below.refl _ w).alloc (Nat.le_refl _) _).alloc (by simp) _
  have hs : (w.alloc (.cells #[.int .i64 op, .string t, .bool true] 34)).heap.size = w.heap.size + 1 := by simp
  rw [hs] at hB
  have HA := Lib.hid hA
  have HB := Lib.hid hB
  obtain ⟨a0, a1, a2⟩ := cells3 hA
  obtain ⟨b0, b1, b2⟩ := cells3 hB
  clear hA hB hs
  go_enter Tryd.func33, Tryd.ntmps33
  go_wp2_with fail
  refine (cN _).mono ?_
  rintro e w1 ⟨rfl, hb1⟩
  have HA1 := Lib.hid (HA.out.later hb1 HA.out.lt)
  have HB1 := Lib.hid (HB.out.later hb1 HB.out.lt)
  have B1 := below_trans B0 hb1
  clear a0 a1 a2 b0 b1 b2 HA HB
  obtain ⟨a0, a1, a2⟩ := cells3 HA1.out
  obtain ⟨b0, b1, b2⟩ := cells3 HB1.out
  go_wp2_with fail
  have cL1 := fun w => rlower_any t w (by omega)
  have cL2 := fun w => rlower_any t' w (by omega)
  have HS0 : Hid (LowS [.int .i64 op, .string t, .bool true] [.int .i64 op, .string t', .bool true] w w1.drew) := Lib.hid ⟨HA1.out, HB1.out, B1.drew⟩
  have q0 := (cells3 HS0.out.1).2.1
  have q1 := (cells3 HS0.out.2.1).2.1
  clear a0 a1 a2 b0 b1 b2 HA1 HB1
  go_region_held3 (fun w' => w'.cell? ⟨w.heap.size, 1, none⟩ = some (.string t) ∧ w'.cell? ⟨w.heap.size + 1, 1, none⟩ = some (.string t'))
    (first | exact ⟨q0, q1⟩ | exact ⟨(cells3 HS1.out.1).2.1, (cells3 HS1.out.2.1).2.1⟩ | exact ⟨(cells3 HS2.out.1).2.1, (cells3 HS2.out.2.1).2.1⟩)
    (first
      | (go_at_call 14; (with_reducible refine (cL1 w1.drew).mono ?_); rintro e w5 ⟨rfl, hb5⟩; have HS1 := Lib.hid (HS0.out.later hb5))
      | (go_at_call 14; (with_reducible refine (cL2 w5).mono ?_); rintro e w6 ⟨rfl, hb6⟩; have HS2 := Lib.hid (HS1.out.later hb6)))
  clear q0 q1 cL1 cL2
  have HA2 : Hid (Blk w6 w.heap.size [.int .i64 op, .string t, .bool true] 34) := Lib.hid HS2.out.1
  have HB2 : Hid (Blk w6 (w.heap.size + 1) [.int .i64 op, .string t', .bool true] 34) := Lib.hid HS2.out.2.1
  have B2 := HS2.out.2.2
  obtain ⟨a0, a1, a2⟩ := cells3 HA2.out
  obtain ⟨b0, b1, b2⟩ := cells3 HB2.out
  go_wp2
  go_ret
  exact ⟨rfl, B2⟩

set_option maxRecDepth 100000 in
set_option maxHeartbeats 4000000 in
theorem rimpl_itt (op : Int) (t : ByteArray) (t' : ByteArray) (w : World) (ht : t.size ≤ 999999) (ht' : t'.size ≤ 999999) (hn : neverF op (strB t) true = false) (h5 : 7 < op) : Calls Tryd.prog 33 #[.agg #[.int .i64 op, .string t, .bool true], .agg #[.int .i64 op, .string t', .bool true]] w (Told (.bool false) w) := by
  have cN := fun w => rnever_any op true t w ht
  rw [hn] at cN
  have k0 : (op == 1) = false := beq_eq_false_iff_ne.2 (by omega)
  have k1 : (op == 2) = false := beq_eq_false_iff_ne.2 (by omega)
  have k2 : (op == 3) = false := beq_eq_false_iff_ne.2 (by omega)
  have k3 : (op == 4) = false := beq_eq_false_iff_ne.2 (by omega)
  have k4 : (op == 5) = false := beq_eq_false_iff_ne.2 (by omega)
  have k5 : (op == 6) = false := beq_eq_false_iff_ne.2 (by omega)
  have k9 : (op == op) = true := beq_self_eq_true op
  have k10 : (5 : Int) ≤ op := by omega
  have k11 : ¬ op ≤ (7 : Int) := by omega
  have hA := (Blk.alloc (w := w) [.int .i64 op, .string t, .bool true] 34).alloc_old (.cells #[.int .i64 op, .string t', .bool true] 34)
  have hB := Blk.alloc (w := w.alloc (.cells #[.int .i64 op, .string t, .bool true] 34)) [.int .i64 op, .string t', .bool true] 34
  have B0 : Below w.heap.size w ((w.alloc (.cells #[.int .i64 op, .string t, .bool true] 34)).alloc (.cells #[.int .i64 op, .string t', .bool true] 34)) := ((Below.refl _ w).alloc (Nat.le_refl _) _).alloc (by simp) _
  have hs : (w.alloc (.cells #[.int .i64 op, .string t, .bool true] 34)).heap.size = w.heap.size + 1 := by simp
  rw [hs] at hB
  have HA := Lib.hid hA
  have HB := Lib.hid hB
  obtain ⟨a0, a1, a2⟩ := cells3 hA
  obtain ⟨b0, b1, b2⟩ := cells3 hB
  clear hA hB hs
  go_enter Tryd.func33, Tryd.ntmps33
  go_wp2_with fail
  refine (cN _).mono ?_
  rintro e w1 ⟨rfl, hb1⟩
  have HA1 := Lib.hid (HA.out.later hb1 HA.out.lt)
  have HB1 := Lib.hid (HB.out.later hb1 HB.out.lt)
  have B1 := below_trans B0 hb1
  clear a0 a1 a2 b0 b1 b2 HA HB
  obtain ⟨a0, a1, a2⟩ := cells3 HA1.out
  obtain ⟨b0, b1, b2⟩ := cells3 HB1.out
  go_wp2_with fail
  have cL1 := fun w => rlower_any t w (by omega)
  have cL2 := fun w => rlower_any t' w (by omega)
  have HS0 : Hid (LowS [.int .i64 op, .string t, .bool true] [.int .i64 op, .string t', .bool true] w w1.drew) := Lib.hid ⟨HA1.out, HB1.out, B1.drew⟩
  have q0 := (cells3 HS0.out.1).2.1
  have q1 := (cells3 HS0.out.2.1).2.1
  clear a0 a1 a2 b0 b1 b2 HA1 HB1
  go_region_held3 (fun w' => w'.cell? ⟨w.heap.size, 1, none⟩ = some (.string t) ∧ w'.cell? ⟨w.heap.size + 1, 1, none⟩ = some (.string t'))
    (first | exact ⟨q0, q1⟩ | exact ⟨(cells3 HS1.out.1).2.1, (cells3 HS1.out.2.1).2.1⟩ | exact ⟨(cells3 HS2.out.1).2.1, (cells3 HS2.out.2.1).2.1⟩)
    (first
      | (go_at_call 14; (with_reducible refine (cL1 w1.drew).mono ?_); rintro e w5 ⟨rfl, hb5⟩; have HS1 := Lib.hid (HS0.out.later hb5))
      | (go_at_call 14; (with_reducible refine (cL2 w5).mono ?_); rintro e w6 ⟨rfl, hb6⟩; have HS2 := Lib.hid (HS1.out.later hb6)))
  clear q0 q1 cL1 cL2
  have HA2 : Hid (Blk w6 w.heap.size [.int .i64 op, .string t, .bool true] 34) := Lib.hid HS2.out.1
  have HB2 : Hid (Blk w6 (w.heap.size + 1) [.int .i64 op, .string t', .bool true] 34) := Lib.hid HS2.out.2.1
  have B2 := HS2.out.2.2
  obtain ⟨a0, a1, a2⟩ := cells3 HA2.out
  obtain ⟨b0, b1, b2⟩ := cells3 HB2.out
  go_wp2
  go_ret
  exact ⟨rfl, B2⟩

theorem rimpl_any (op : Int) (fold : Bool) (t : ByteArray) (op' : Int) (fold' : Bool) (t' : ByteArray) (w : World) (ht : t.size ≤ 999999) (ht' : t'.size ≤ 999999) : Calls Tryd.prog 33 #[.agg #[.int .i64 op, .string t, .bool fold], .agg #[.int .i64 op', .string t', .bool fold']] w (Told (.bool (rimplF op (strB t) fold op' (strB t') fold')) w) := by
  unfold rimplF
  cases hn : neverF op (strB t) fold
  case true => rw [if_pos (.inl rfl)]; exact rimpl_c1 op fold t op' fold' t' w ht ht' hn
  by_cases h1 : op' = 1
  · rw [if_pos (.inr h1)]; subst h1; exact rimpl_c2 op fold t fold' t' w ht ht' hn
  rw [if_neg (by simp [h1])]
  by_cases hf : fold = true ∧ fold' = false
  · rw [if_pos hf]
    obtain ⟨rfl, rfl⟩ := hf
    exact rimpl_c3 op t op' t' w ht ht' hn h1
  rw [if_neg hf]
  by_cases h2 : op = 2
  · rw [if_pos h2]
    subst h2
    cases fold <;> cases fold'
    · exact rimpl_aff t op' t' w ht ht' hn h1
    · exact rimpl_aft t op' t' w ht ht' hn h1
    · simp at hf
    · exact rimpl_att t op' t' w ht ht' hn h1
  rw [if_neg h2]
  by_cases he : op = op'
  · subst he
    by_cases h3 : op = 3
    · subst h3
      rw [if_pos (by omega)]
      cases fold <;> cases fold'
      · exact rimpl_b3ff t t' w ht ht' hn
      · exact rimpl_b3ft t t' w ht ht' hn
      · simp at hf
      · exact rimpl_b3tt t t' w ht ht' hn
    by_cases h4 : op = 4
    · subst h4
      rw [if_pos (by omega)]
      cases fold <;> cases fold'
      · exact rimpl_b4ff t t' w ht ht' hn
      · exact rimpl_b4ft t t' w ht ht' hn
      · simp at hf
      · exact rimpl_b4tt t t' w ht ht' hn
    rw [if_neg (by omega)]
    by_cases h5 : op = 5
    · subst h5
      rw [if_pos (by omega)]
      cases fold <;> cases fold'
      · exact rimpl_c5ff t t' w ht ht' hn
      · exact rimpl_c5ft t t' w ht ht' hn
      · simp at hf
      · exact rimpl_c5tt t t' w ht ht' hn
    by_cases h6 : op = 6
    · subst h6
      rw [if_pos (by omega)]
      cases fold <;> cases fold'
      · exact rimpl_c6ff t t' w ht ht' hn
      · exact rimpl_c6ft t t' w ht ht' hn
      · simp at hf
      · exact rimpl_c6tt t t' w ht ht' hn
    by_cases h7 : op = 7
    · subst h7
      rw [if_pos (by omega)]
      cases fold <;> cases fold'
      · exact rimpl_c7ff t t' w ht ht' hn
      · exact rimpl_c7ft t t' w ht ht' hn
      · simp at hf
      · exact rimpl_c7tt t t' w ht ht' hn
    rw [if_neg (by omega), decide_eq_false (show ¬ (op = 3 ∨ op = 5 ∨ op = 6) by omega), Bool.false_and]
    by_cases hl : op < 5
    · cases fold <;> cases fold'
      · exact rimpl_hff op t t' w ht ht' hn h1 h2 h3 h4 hl
      · exact rimpl_hft op t t' w ht ht' hn h1 h2 h3 h4 hl
      · simp at hf
      · exact rimpl_htt op t t' w ht ht' hn h1 h2 h3 h4 hl
    · have hl' : 7 < op := by omega
      cases fold <;> cases fold'
      · exact rimpl_iff op t t' w ht ht' hn hl'
      · exact rimpl_ift op t t' w ht ht' hn hl'
      · simp at hf
      · exact rimpl_itt op t t' w ht ht' hn hl'
  rw [if_neg (fun h => he h.1), if_neg (fun h => he h.1)]
  by_cases h3 : op = 3
  · subst h3
    rw [decide_eq_true (by omega), Bool.true_and]
    by_cases h7 : op' = 7
    · subst h7
      rw [decide_eq_true rfl, Bool.true_and]
      cases fold <;> cases fold'
      · exact rimpl_e3ff t t' w ht ht' hn
      · exact rimpl_e3ft t t' w ht ht' hn
      · simp at hf
      · exact rimpl_e3tt t t' w ht ht' hn
    · rw [decide_eq_false h7, Bool.false_and]
      cases fold <;> cases fold'
      · exact rimpl_f3ff t op' t' w ht ht' hn h1 (fun h => he h.symm) h7
      · exact rimpl_f3ft t op' t' w ht ht' hn h1 (fun h => he h.symm) h7
      · simp at hf
      · exact rimpl_f3tt t op' t' w ht ht' hn h1 (fun h => he h.symm) h7
  by_cases h5 : op = 5
  · subst h5
    rw [decide_eq_true (by omega), Bool.true_and]
    by_cases h7 : op' = 7
    · subst h7
      rw [decide_eq_true rfl, Bool.true_and]
      cases fold <;> cases fold'
      · exact rimpl_e5ff t t' w ht ht' hn
      · exact rimpl_e5ft t t' w ht ht' hn
      · simp at hf
      · exact rimpl_e5tt t t' w ht ht' hn
    · rw [decide_eq_false h7, Bool.false_and]
      cases fold <;> cases fold'
      · exact rimpl_f5ff t op' t' w ht ht' hn h1 (fun h => he h.symm) h7
      · exact rimpl_f5ft t op' t' w ht ht' hn h1 (fun h => he h.symm) h7
      · simp at hf
      · exact rimpl_f5tt t op' t' w ht ht' hn h1 (fun h => he h.symm) h7
  by_cases h6 : op = 6
  · subst h6
    rw [decide_eq_true (by omega), Bool.true_and]
    by_cases h7 : op' = 7
    · subst h7
      rw [decide_eq_true rfl, Bool.true_and]
      cases fold <;> cases fold'
      · exact rimpl_e6ff t t' w ht ht' hn
      · exact rimpl_e6ft t t' w ht ht' hn
      · simp at hf
      · exact rimpl_e6tt t t' w ht ht' hn
    · rw [decide_eq_false h7, Bool.false_and]
      cases fold <;> cases fold'
      · exact rimpl_f6ff t op' t' w ht ht' hn h1 (fun h => he h.symm) h7
      · exact rimpl_f6ft t op' t' w ht ht' hn h1 (fun h => he h.symm) h7
      · simp at hf
      · exact rimpl_f6tt t op' t' w ht ht' hn h1 (fun h => he h.symm) h7
  rw [decide_eq_false (show ¬ (op = 3 ∨ op = 5 ∨ op = 6) by omega), Bool.false_and]
  cases fold <;> cases fold'
  · exact rimpl_gff op t op' t' w ht ht' hn h1 h2 h3 h5 h6 he
  · exact rimpl_gft op t op' t' w ht ht' hn h1 h2 h3 h5 h6 he
  · simp at hf
  · exact rimpl_gtt op t op' t' w ht ht' hn h1 h2 h3 h5 h6 he
end Go.Proofs.YtlbmpggkllkiaaaDoor
