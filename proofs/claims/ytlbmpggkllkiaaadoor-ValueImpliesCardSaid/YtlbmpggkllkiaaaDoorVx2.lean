/- ValueImplies: the law's walk. -/
import Derived.Test.YtlbmpggkllkiaaaDoorVv
import Derived.Test.YtlbmpggkllkiaaaDoorVw2
namespace Go.Proofs.YtlbmpggkllkiaaaDoor
open Go.RowKit
set_option linter.unusedVariables false
set_option linter.unusedSimpArgs false

set_option maxRecDepth 100000 in
set_option maxHeartbeats 4000000 in
theorem implLaw_e1 (op : Int) (fold : Bool) (t : ByteArray) (op' : Int) (fold' : Bool) (t' : ByteArray) (s : ByteArray) (w : World) (hL : LibW w) (g1 : (1000 : Int) < (t.size : Int)) : Calls Tryd.prog 9 #[.agg #[.int .i64 op, .string t, .bool fold], .agg #[.int .i64 op', .string t', .bool fold'], .string s] w (Told (.bool true) w) := by
  have hA := (Blk.alloc (w := w) [.int .i64 op, .string t, .bool fold] 34).alloc_old (.cells #[.int .i64 op', .string t', .bool fold'] 34)
  have hB := Blk.alloc (w := w.alloc (.cells #[.int .i64 op, .string t, .bool fold] 34)) [.int .i64 op', .string t', .bool fold'] 34
  have B0 : Below w.heap.size w ((w.alloc (.cells #[.int .i64 op, .string t, .bool fold] 34)).alloc (.cells #[.int .i64 op', .string t', .bool fold'] 34)) := ((Below.refl _ w).alloc (Nat.le_refl _) _).alloc (by simp) _
  have hs : (w.alloc (.cells #[.int .i64 op, .string t, .bool fold] 34)).heap.size = w.heap.size + 1 := by simp
  rw [hs] at hB
  have HA := Lib.hid hA
  have HB := Lib.hid hB
  obtain ⟨a0, a1, a2⟩ := cells3 hA
  obtain ⟨b0, b1, b2⟩ := cells3 hB
  clear hA hB hs
  have HL := Lib.hid hL
  clear hL
  go_enter Tryd.func9, Tryd.ntmps9
  go_wp2_with fail
  refine (speaks6_any _ (HL.out.later B0)).mono ?_
  rintro e w1 ⟨rfl, hb1⟩
  have HA1 := Lib.hid (HA.out.later hb1 HA.out.lt)
  have HB1 := Lib.hid (HB.out.later hb1 HB.out.lt)
  have B1 := below_trans B0 hb1
  clear a0 a1 a2 b0 b1 b2 HA HB
  obtain ⟨a0, a1, a2⟩ := cells3 HA1.out
  obtain ⟨b0, b1, b2⟩ := cells3 HB1.out
  go_wp2
  go_ret
  exact ⟨rfl, B1⟩

set_option maxRecDepth 100000 in
set_option maxHeartbeats 4000000 in
theorem implLaw_e2 (op : Int) (fold : Bool) (t : ByteArray) (op' : Int) (fold' : Bool) (t' : ByteArray) (s : ByteArray) (w : World) (hL : LibW w) (g1 : ¬ (1000 : Int) < (t.size : Int)) (g2 : (1000 : Int) < (t'.size : Int)) : Calls Tryd.prog 9 #[.agg #[.int .i64 op, .string t, .bool fold], .agg #[.int .i64 op', .string t', .bool fold'], .string s] w (Told (.bool true) w) := by
  have hA := (Blk.alloc (w := w) [.int .i64 op, .string t, .bool fold] 34).alloc_old (.cells #[.int .i64 op', .string t', .bool fold'] 34)
  have hB := Blk.alloc (w := w.alloc (.cells #[.int .i64 op, .string t, .bool fold] 34)) [.int .i64 op', .string t', .bool fold'] 34
  have B0 : Below w.heap.size w ((w.alloc (.cells #[.int .i64 op, .string t, .bool fold] 34)).alloc (.cells #[.int .i64 op', .string t', .bool fold'] 34)) := ((Below.refl _ w).alloc (Nat.le_refl _) _).alloc (by simp) _
  have hs : (w.alloc (.cells #[.int .i64 op, .string t, .bool fold] 34)).heap.size = w.heap.size + 1 := by simp
  rw [hs] at hB
  have HA := Lib.hid hA
  have HB := Lib.hid hB
  obtain ⟨a0, a1, a2⟩ := cells3 hA
  obtain ⟨b0, b1, b2⟩ := cells3 hB
  clear hA hB hs
  have HL := Lib.hid hL
  clear hL
  go_enter Tryd.func9, Tryd.ntmps9
  go_wp2_with fail
  refine (speaks6_any _ (HL.out.later B0)).mono ?_
  rintro e w1 ⟨rfl, hb1⟩
  have HA1 := Lib.hid (HA.out.later hb1 HA.out.lt)
  have HB1 := Lib.hid (HB.out.later hb1 HB.out.lt)
  have B1 := below_trans B0 hb1
  clear a0 a1 a2 b0 b1 b2 HA HB
  obtain ⟨a0, a1, a2⟩ := cells3 HA1.out
  obtain ⟨b0, b1, b2⟩ := cells3 HB1.out
  go_wp2
  go_ret
  exact ⟨rfl, B1⟩

set_option maxRecDepth 100000 in
set_option maxHeartbeats 4000000 in
theorem implLaw_e3 (op : Int) (fold : Bool) (t : ByteArray) (op' : Int) (fold' : Bool) (t' : ByteArray) (s : ByteArray) (w : World) (hL : LibW w) (g1 : ¬ (1000 : Int) < (t.size : Int)) (g2 : ¬ (1000 : Int) < (t'.size : Int)) (g3 : (1000 : Int) < (s.size : Int)) : Calls Tryd.prog 9 #[.agg #[.int .i64 op, .string t, .bool fold], .agg #[.int .i64 op', .string t', .bool fold'], .string s] w (Told (.bool true) w) := by
  have hA := (Blk.alloc (w := w) [.int .i64 op, .string t, .bool fold] 34).alloc_old (.cells #[.int .i64 op', .string t', .bool fold'] 34)
  have hB := Blk.alloc (w := w.alloc (.cells #[.int .i64 op, .string t, .bool fold] 34)) [.int .i64 op', .string t', .bool fold'] 34
  have B0 : Below w.heap.size w ((w.alloc (.cells #[.int .i64 op, .string t, .bool fold] 34)).alloc (.cells #[.int .i64 op', .string t', .bool fold'] 34)) := ((Below.refl _ w).alloc (Nat.le_refl _) _).alloc (by simp) _
  have hs : (w.alloc (.cells #[.int .i64 op, .string t, .bool fold] 34)).heap.size = w.heap.size + 1 := by simp
  rw [hs] at hB
  have HA := Lib.hid hA
  have HB := Lib.hid hB
  obtain ⟨a0, a1, a2⟩ := cells3 hA
  obtain ⟨b0, b1, b2⟩ := cells3 hB
  clear hA hB hs
  have HL := Lib.hid hL
  clear hL
  go_enter Tryd.func9, Tryd.ntmps9
  go_wp2_with fail
  refine (speaks6_any _ (HL.out.later B0)).mono ?_
  rintro e w1 ⟨rfl, hb1⟩
  have HA1 := Lib.hid (HA.out.later hb1 HA.out.lt)
  have HB1 := Lib.hid (HB.out.later hb1 HB.out.lt)
  have B1 := below_trans B0 hb1
  clear a0 a1 a2 b0 b1 b2 HA HB
  obtain ⟨a0, a1, a2⟩ := cells3 HA1.out
  obtain ⟨b0, b1, b2⟩ := cells3 HB1.out
  go_wp2
  go_ret
  exact ⟨rfl, B1⟩

set_option maxRecDepth 100000 in
set_option maxHeartbeats 4000000 in
theorem implLaw_f (op : Int) (fold : Bool) (t : ByteArray) (op' : Int) (fold' : Bool) (t' : ByteArray) (s : ByteArray) (w : World) (hL : LibW w) (g1 : ¬ (1000 : Int) < (t.size : Int)) (g2 : ¬ (1000 : Int) < (t'.size : Int)) (g3 : ¬ (1000 : Int) < (s.size : Int)) (hz : implF op (strB t) fold op' (strB t') fold' = false) : Calls Tryd.prog 9 #[.agg #[.int .i64 op, .string t, .bool fold], .agg #[.int .i64 op', .string t', .bool fold'], .string s] w (Told (.bool true) w) := by
  have cI := fun w h => impl_any op fold t op' fold' t' w h (by omega) (by omega)
  have cR := fun w => rimpl_any op fold t op' fold' t' w (by omega) (by omega)
  rw [← impl_same] at cR
  rw [hz] at cI cR
  have hA := (Blk.alloc (w := w) [.int .i64 op, .string t, .bool fold] 34).alloc_old (.cells #[.int .i64 op', .string t', .bool fold'] 34)
  have hB := Blk.alloc (w := w.alloc (.cells #[.int .i64 op, .string t, .bool fold] 34)) [.int .i64 op', .string t', .bool fold'] 34
  have B0 : Below w.heap.size w ((w.alloc (.cells #[.int .i64 op, .string t, .bool fold] 34)).alloc (.cells #[.int .i64 op', .string t', .bool fold'] 34)) := ((Below.refl _ w).alloc (Nat.le_refl _) _).alloc (by simp) _
  have hs : (w.alloc (.cells #[.int .i64 op, .string t, .bool fold] 34)).heap.size = w.heap.size + 1 := by simp
  rw [hs] at hB
  have HA := Lib.hid hA
  have HB := Lib.hid hB
  obtain ⟨a0, a1, a2⟩ := cells3 hA
  obtain ⟨b0, b1, b2⟩ := cells3 hB
  clear hA hB hs
  have HL := Lib.hid hL
  clear hL
  go_enter Tryd.func9, Tryd.ntmps9
  go_wp2_with fail
  refine (speaks6_any _ (HL.out.later B0)).mono ?_
  rintro e w1 ⟨rfl, hb1⟩
  have HA1 := Lib.hid (HA.out.later hb1 HA.out.lt)
  have HB1 := Lib.hid (HB.out.later hb1 HB.out.lt)
  have B1 := below_trans B0 hb1
  clear a0 a1 a2 b0 b1 b2 HA HB
  obtain ⟨a0, a1, a2⟩ := cells3 HA1.out
  obtain ⟨b0, b1, b2⟩ := cells3 HB1.out
  go_wp2_with fail
  refine (cI _ (HL.out.later B1)).mono ?_
  rintro e w2 ⟨rfl, hb2⟩
  have HA2 := Lib.hid (HA1.out.later hb2 HA1.out.lt)
  have HB2 := Lib.hid (HB1.out.later hb2 HB1.out.lt)
  have B2 := below_trans B1 hb2
  clear a0 a1 a2 b0 b1 b2 HA1 HB1
  obtain ⟨a0, a1, a2⟩ := cells3 HA2.out
  obtain ⟨b0, b1, b2⟩ := cells3 HB2.out
  go_wp2_with fail
  refine (cR _).mono ?_
  rintro e w3 ⟨rfl, hb3⟩
  have HA3 := Lib.hid (HA2.out.later hb3 HA2.out.lt)
  have HB3 := Lib.hid (HB2.out.later hb3 HB2.out.lt)
  have B3 := below_trans B2 hb3
  clear a0 a1 a2 b0 b1 b2 HA2 HB2
  obtain ⟨a0, a1, a2⟩ := cells3 HA3.out
  obtain ⟨b0, b1, b2⟩ := cells3 HB3.out
  go_wp2
  go_ret
  exact ⟨rfl, B3⟩

set_option maxRecDepth 100000 in
set_option maxHeartbeats 4000000 in
theorem implLaw_n (op : Int) (fold : Bool) (t : ByteArray) (op' : Int) (fold' : Bool) (t' : ByteArray) (s : ByteArray) (w : World) (hL : LibW w) (g1 : ¬ (1000 : Int) < (t.size : Int)) (g2 : ¬ (1000 : Int) < (t'.size : Int)) (g3 : ¬ (1000 : Int) < (s.size : Int)) (hz : implF op (strB t) fold op' (strB t') fold' = true) (ha : holdsF op (strB t) fold (strB s) = false) : Calls Tryd.prog 9 #[.agg #[.int .i64 op, .string t, .bool fold], .agg #[.int .i64 op', .string t', .bool fold'], .string s] w (Told (.bool true) w) := by
  have cI := fun w h => impl_any op fold t op' fold' t' w h (by omega) (by omega)
  have cR := fun w => rimpl_any op fold t op' fold' t' w (by omega) (by omega)
  rw [← impl_same] at cR
  rw [hz] at cI cR
  have cA := fun w => rholds_any op fold t s w (by omega) (by omega)
  rw [ha] at cA
  have hA := (Blk.alloc (w := w) [.int .i64 op, .string t, .bool fold] 34).alloc_old (.cells #[.int .i64 op', .string t', .bool fold'] 34)
  have hB := Blk.alloc (w := w.alloc (.cells #[.int .i64 op, .string t, .bool fold] 34)) [.int .i64 op', .string t', .bool fold'] 34
  have B0 : Below w.heap.size w ((w.alloc (.cells #[.int .i64 op, .string t, .bool fold] 34)).alloc (.cells #[.int .i64 op', .string t', .bool fold'] 34)) := ((Below.refl _ w).alloc (Nat.le_refl _) _).alloc (by simp) _
  have hs : (w.alloc (.cells #[.int .i64 op, .string t, .bool fold] 34)).heap.size = w.heap.size + 1 := by simp
  rw [hs] at hB
  have HA := Lib.hid hA
  have HB := Lib.hid hB
  obtain ⟨a0, a1, a2⟩ := cells3 hA
  obtain ⟨b0, b1, b2⟩ := cells3 hB
  clear hA hB hs
  have HL := Lib.hid hL
  clear hL
  go_enter Tryd.func9, Tryd.ntmps9
  go_wp2_with fail
  refine (speaks6_any _ (HL.out.later B0)).mono ?_
  rintro e w1 ⟨rfl, hb1⟩
  have HA1 := Lib.hid (HA.out.later hb1 HA.out.lt)
  have HB1 := Lib.hid (HB.out.later hb1 HB.out.lt)
  have B1 := below_trans B0 hb1
  clear a0 a1 a2 b0 b1 b2 HA HB
  obtain ⟨a0, a1, a2⟩ := cells3 HA1.out
  obtain ⟨b0, b1, b2⟩ := cells3 HB1.out
  go_wp2_with fail
  refine (cI _ (HL.out.later B1)).mono ?_
  rintro e w2 ⟨rfl, hb2⟩
  have HA2 := Lib.hid (HA1.out.later hb2 HA1.out.lt)
  have HB2 := Lib.hid (HB1.out.later hb2 HB1.out.lt)
  have B2 := below_trans B1 hb2
  clear a0 a1 a2 b0 b1 b2 HA1 HB1
  obtain ⟨a0, a1, a2⟩ := cells3 HA2.out
  obtain ⟨b0, b1, b2⟩ := cells3 HB2.out
  go_wp2_with fail
  refine (cR _).mono ?_
  rintro e w3 ⟨rfl, hb3⟩
  have HA3 := Lib.hid (HA2.out.later hb3 HA2.out.lt)
  have HB3 := Lib.hid (HB2.out.later hb3 HB2.out.lt)
  have B3 := below_trans B2 hb3
  clear a0 a1 a2 b0 b1 b2 HA2 HB2
  obtain ⟨a0, a1, a2⟩ := cells3 HA3.out
  obtain ⟨b0, b1, b2⟩ := cells3 HB3.out
  go_wp2_with fail
  refine (cA _).mono ?_
  rintro e w4 ⟨rfl, hb4⟩
  have HA4 := Lib.hid (HA3.out.later hb4 HA3.out.lt)
  have HB4 := Lib.hid (HB3.out.later hb4 HB3.out.lt)
  have B4 := below_trans B3 hb4
  clear a0 a1 a2 b0 b1 b2 HA3 HB3
  obtain ⟨a0, a1, a2⟩ := cells3 HA4.out
  obtain ⟨b0, b1, b2⟩ := cells3 HB4.out
  go_wp2
  go_ret
  exact ⟨rfl, B4⟩

set_option maxRecDepth 100000 in
set_option maxHeartbeats 4000000 in
theorem implLaw_y (op : Int) (fold : Bool) (t : ByteArray) (op' : Int) (fold' : Bool) (t' : ByteArray) (s : ByteArray) (w : World) (hL : LibW w) (g1 : ¬ (1000 : Int) < (t.size : Int)) (g2 : ¬ (1000 : Int) < (t'.size : Int)) (g3 : ¬ (1000 : Int) < (s.size : Int)) (hz : implF op (strB t) fold op' (strB t') fold' = true) (ha : holdsF op (strB t) fold (strB s) = true) (hb : holdsF op' (strB t') fold' (strB s) = true) : Calls Tryd.prog 9 #[.agg #[.int .i64 op, .string t, .bool fold], .agg #[.int .i64 op', .string t', .bool fold'], .string s] w (Told (.bool true) w) := by
  have cI := fun w h => impl_any op fold t op' fold' t' w h (by omega) (by omega)
  have cR := fun w => rimpl_any op fold t op' fold' t' w (by omega) (by omega)
  rw [← impl_same] at cR
  rw [hz] at cI cR
  have cA := fun w => rholds_any op fold t s w (by omega) (by omega)
  rw [ha] at cA
  have cB := fun w => rholds_any op' fold' t' s w (by omega) (by omega)
  rw [hb] at cB
  have hA := (Blk.alloc (w := w) [.int .i64 op, .string t, .bool fold] 34).alloc_old (.cells #[.int .i64 op', .string t', .bool fold'] 34)
  have hB := Blk.alloc (w := w.alloc (.cells #[.int .i64 op, .string t, .bool fold] 34)) [.int .i64 op', .string t', .bool fold'] 34
  have B0 : Below w.heap.size w ((w.alloc (.cells #[.int .i64 op, .string t, .bool fold] 34)).alloc (.cells #[.int .i64 op', .string t', .bool fold'] 34)) := ((Below.refl _ w).alloc (Nat.le_refl _) _).alloc (by simp) _
  have hs : (w.alloc (.cells #[.int .i64 op, .string t, .bool fold] 34)).heap.size = w.heap.size + 1 := by simp
  rw [hs] at hB
  have HA := Lib.hid hA
  have HB := Lib.hid hB
  obtain ⟨a0, a1, a2⟩ := cells3 hA
  obtain ⟨b0, b1, b2⟩ := cells3 hB
  clear hA hB hs
  have HL := Lib.hid hL
  clear hL
  go_enter Tryd.func9, Tryd.ntmps9
  go_wp2_with fail
  refine (speaks6_any _ (HL.out.later B0)).mono ?_
  rintro e w1 ⟨rfl, hb1⟩
  have HA1 := Lib.hid (HA.out.later hb1 HA.out.lt)
  have HB1 := Lib.hid (HB.out.later hb1 HB.out.lt)
  have B1 := below_trans B0 hb1
  clear a0 a1 a2 b0 b1 b2 HA HB
  obtain ⟨a0, a1, a2⟩ := cells3 HA1.out
  obtain ⟨b0, b1, b2⟩ := cells3 HB1.out
  go_wp2_with fail
  refine (cI _ (HL.out.later B1)).mono ?_
  rintro e w2 ⟨rfl, hb2⟩
  have HA2 := Lib.hid (HA1.out.later hb2 HA1.out.lt)
  have HB2 := Lib.hid (HB1.out.later hb2 HB1.out.lt)
  have B2 := below_trans B1 hb2
  clear a0 a1 a2 b0 b1 b2 HA1 HB1
  obtain ⟨a0, a1, a2⟩ := cells3 HA2.out
  obtain ⟨b0, b1, b2⟩ := cells3 HB2.out
  go_wp2_with fail
  refine (cR _).mono ?_
  rintro e w3 ⟨rfl, hb3⟩
  have HA3 := Lib.hid (HA2.out.later hb3 HA2.out.lt)
  have HB3 := Lib.hid (HB2.out.later hb3 HB2.out.lt)
  have B3 := below_trans B2 hb3
  clear a0 a1 a2 b0 b1 b2 HA2 HB2
  obtain ⟨a0, a1, a2⟩ := cells3 HA3.out
  obtain ⟨b0, b1, b2⟩ := cells3 HB3.out
  go_wp2_with fail
  refine (cA _).mono ?_
  rintro e w4 ⟨rfl, hb4⟩
  have HA4 := Lib.hid (HA3.out.later hb4 HA3.out.lt)
  have HB4 := Lib.hid (HB3.out.later hb4 HB3.out.lt)
  have B4 := below_trans B3 hb4
  clear a0 a1 a2 b0 b1 b2 HA3 HB3
  obtain ⟨a0, a1, a2⟩ := cells3 HA4.out
  obtain ⟨b0, b1, b2⟩ := cells3 HB4.out
  go_wp2_with fail
  refine (cB _).mono ?_
  rintro e w5 ⟨rfl, hb5⟩
  have HA5 := Lib.hid (HA4.out.later hb5 HA4.out.lt)
  have HB5 := Lib.hid (HB4.out.later hb5 HB4.out.lt)
  have B5 := below_trans B4 hb5
  clear a0 a1 a2 b0 b1 b2 HA4 HB4
  obtain ⟨a0, a1, a2⟩ := cells3 HA5.out
  obtain ⟨b0, b1, b2⟩ := cells3 HB5.out
  go_wp2
  go_ret
  exact ⟨rfl, B5⟩

theorem lawImplies_any (op : Int) (fold : Bool) (t : ByteArray) (op' : Int) (fold' : Bool) (t' : ByteArray) (s : ByteArray) (w : World) (hL : LibW w) : Calls Tryd.prog 9 #[.agg #[.int .i64 op, .string t, .bool fold], .agg #[.int .i64 op', .string t', .bool fold'], .string s] w (Told (.bool true) w) := by
  by_cases g1 : (1000 : Int) < (t.size : Int)
  · exact implLaw_e1 op fold t op' fold' t' s w hL g1
  by_cases g2 : (1000 : Int) < (t'.size : Int)
  · exact implLaw_e2 op fold t op' fold' t' s w hL g1 g2
  by_cases g3 : (1000 : Int) < (s.size : Int)
  · exact implLaw_e3 op fold t op' fold' t' s w hL g1 g2 g3
  cases hz : implF op (strB t) fold op' (strB t') fold'
  · exact implLaw_f op fold t op' fold' t' s w hL g1 g2 g3 hz
  cases ha : holdsF op (strB t) fold (strB s)
  · exact implLaw_n op fold t op' fold' t' s w hL g1 g2 g3 hz ha
  · exact implLaw_y op fold t op' fold' t' s w hL g1 g2 g3 hz ha (impl_sound hz ha)
end Go.Proofs.YtlbmpggkllkiaaaDoor
