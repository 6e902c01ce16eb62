/- Never of both sides; parts; one text: walks. -/
import Derived.Test.YtlbmpggkllkiaaaDoorVl
import Derived.Test.YtlbmpggkllkiaaaDoorVt
import Derived.Deep.RegionHeld3
namespace Go.Proofs.YtlbmpggkllkiaaaDoor
open Go.RowKit
set_option linter.unusedVariables false
set_option linter.unusedSimpArgs false

set_option maxRecDepth 100000 in
set_option maxHeartbeats 4000000 in
theorem never_any (op : Int) (fold : Bool) (t : ByteArray) (w : World) (hL : LibW w) (ht : t.size ≤ 1000000) : Calls Tryd.prog 30 #[.agg #[.int .i64 op, .string t, .bool fold]] w (Told (.bool (neverF op (strB t) fold)) w) := by
  have cH := fun w h => holds_any op fold t t w ht ht h
  unfold neverF
  have hA := Blk.alloc (w := w) [.int .i64 op, .string t, .bool fold] 34
  have B1 : Below w.heap.size w (w.alloc (.cells #[.int .i64 op, .string t, .bool fold] 34)) := (Below.refl _ w).alloc (Nat.le_refl _) _
  obtain ⟨a0, a1, a2⟩ := cells3 hA
  have HA := Lib.hid hA
  clear hA
  have HL := Lib.hid (hL.later B1)
  clear hL
  generalize holdsF op (strB t) fold (strB t) = z at *
  go_enter Tryd.func30, Tryd.ntmps30
  go_wp2_with fail
  refine (cH _ HL.out).mono ?_
  rintro e w1 ⟨rfl, hb1⟩
  have B2 := below_trans B1 hb1
  clear cH
  go_wp2
  go_ret
  exact ⟨rfl, B2⟩

set_option maxRecDepth 100000 in
set_option maxHeartbeats 4000000 in
theorem rnever_1 (fold : Bool) (t : ByteArray) (w : World) : Calls Tryd.prog 31 #[.agg #[.int .i64 1, .string t, .bool fold]] w (Told (.bool false) w) := by
  have hA := Blk.alloc (w := w) [.int .i64 1, .string t, .bool fold] 34
  have B1 : Below w.heap.size w (w.alloc (.cells #[.int .i64 1, .string t, .bool fold] 34)) := (Below.refl _ w).alloc (Nat.le_refl _) _
  obtain ⟨a0, a1, a2⟩ := cells3 hA
  have HA := Lib.hid hA
  clear hA
  go_enter Tryd.func31, Tryd.ntmps31
  go_wp2
  go_ret
  exact ⟨rfl, B1⟩

set_option maxRecDepth 100000 in
set_option maxHeartbeats 4000000 in
theorem rnever_2 (fold : Bool) (t : ByteArray) (w : World) : Calls Tryd.prog 31 #[.agg #[.int .i64 2, .string t, .bool fold]] w (Told (.bool false) w) := by
  have hA := Blk.alloc (w := w) [.int .i64 2, .string t, .bool fold] 34
  have B1 : Below w.heap.size w (w.alloc (.cells #[.int .i64 2, .string t, .bool fold] 34)) := (Below.refl _ w).alloc (Nat.le_refl _) _
  obtain ⟨a0, a1, a2⟩ := cells3 hA
  have HA := Lib.hid hA
  clear hA
  go_enter Tryd.func31, Tryd.ntmps31
  go_wp2
  go_ret
  exact ⟨rfl, B1⟩

set_option maxRecDepth 100000 in
set_option maxHeartbeats 4000000 in
theorem rnever_4 (fold : Bool) (t : ByteArray) (w : World) : Calls Tryd.prog 31 #[.agg #[.int .i64 4, .string t, .bool fold]] w (Told (.bool false) w) := by
  have hA := Blk.alloc (w := w) [.int .i64 4, .string t, .bool fold] 34
  have B1 : Below w.heap.size w (w.alloc (.cells #[.int .i64 4, .string t, .bool fold] 34)) := (Below.refl _ w).alloc (Nat.le_refl _) _
  obtain ⟨a0, a1, a2⟩ := cells3 hA
  have HA := Lib.hid hA
  clear hA
  go_enter Tryd.func31, Tryd.ntmps31
  go_wp2
  go_ret
  exact ⟨rfl, B1⟩

set_option maxRecDepth 100000 in
set_option maxHeartbeats 4000000 in
theorem rnever_more (op : Int) (fold : Bool) (t : ByteArray) (w : World) (ht : t.size ≤ 999999) (h1 : op ≠ 1) (h2 : op ≠ 2) (h4 : op ≠ 4) : Calls Tryd.prog 31 #[.agg #[.int .i64 op, .string t, .bool fold]] w (Told (.bool (neverF op (strB t) fold)) w) := by
  have cH := fun w => rholds_any op fold t t w ht ht
  unfold neverF
  have hA := Blk.alloc (w := w) [.int .i64 op, .string t, .bool fold] 34
  have B1 : Below w.heap.size w (w.alloc (.cells #[.int .i64 op, .string t, .bool fold] 34)) := (Below.refl _ w).alloc (Nat.le_refl _) _
  obtain ⟨a0, a1, a2⟩ := cells3 hA
  have HA := Lib.hid hA
  clear hA
  generalize holdsF op (strB t) fold (strB t) = z at *
  have n1 : (op == 1) = false := beq_eq_false_iff_ne.2 (by omega)
  have n2 : (op == 2) = false := beq_eq_false_iff_ne.2 (by omega)
  have n3 : (op == 4) = false := beq_eq_false_iff_ne.2 (by omega)
  go_enter Tryd.func31, Tryd.ntmps31
  go_wp2_with fail
  refine (cH _).mono ?_
  rintro e w1 ⟨rfl, hb1⟩
  have B2 := below_trans B1 hb1
  clear cH
  go_wp2
  go_ret
  exact ⟨rfl, B2⟩
theorem rnever_any (op : Int) (fold : Bool) (t : ByteArray) (w : World) (ht : t.size ≤ 999999) : Calls Tryd.prog 31 #[.agg #[.int .i64 op, .string t, .bool fold]] w (Told (.bool (neverF op (strB t) fold)) w) := by
  by_cases h1 : op = 1
  · subst h1; rw [never_some 1 _ _ (by omega)]; exact rnever_1 fold t w
  by_cases h2 : op = 2
  · subst h2; rw [never_some 2 _ _ (by omega)]; exact rnever_2 fold t w
  by_cases h4 : op = 4
  · subst h4; rw [never_some 4 _ _ (by omega)]; exact rnever_4 fold t w
  exact rnever_more op fold t w ht h1 h2 h4

set_option maxRecDepth 100000 in
set_option maxHeartbeats 4000000 in
theorem isPart_3 (w : World) : Calls Tryd.prog 62 #[.int .i64 3] w (Tells (.bool true) w) := by
  go_enter Tryd.func62, Tryd.ntmps62
  go_wp2
  go_ret
  exact ⟨rfl, rfl⟩

set_option maxRecDepth 100000 in
set_option maxHeartbeats 4000000 in
theorem isPart_5 (w : World) : Calls Tryd.prog 62 #[.int .i64 5] w (Tells (.bool true) w) := by
  go_enter Tryd.func62, Tryd.ntmps62
  go_wp2
  go_ret
  exact ⟨rfl, rfl⟩

set_option maxRecDepth 100000 in
set_option maxHeartbeats 4000000 in
theorem isPart_6 (w : World) : Calls Tryd.prog 62 #[.int .i64 6] w (Tells (.bool true) w) := by
  go_enter Tryd.func62, Tryd.ntmps62
  go_wp2
  go_ret
  exact ⟨rfl, rfl⟩

set_option maxRecDepth 100000 in
set_option maxHeartbeats 4000000 in
theorem isPart_no (op : Int) (w : World) (h : op ≠ 3 ∧ op ≠ 5 ∧ op ≠ 6) : Calls Tryd.prog 62 #[.int .i64 op] w (Tells (.bool false) w) := by
  have n1 : (op == 3) = false := beq_eq_false_iff_ne.2 (by omega)
  have n2 : (op == 5) = false := beq_eq_false_iff_ne.2 (by omega)
  have n3 : (op == 6) = false := beq_eq_false_iff_ne.2 (by omega)
  go_enter Tryd.func62, Tryd.ntmps62
  go_wp2
  go_ret
  exact ⟨rfl, rfl⟩
theorem isPart_any (op : Int) (w : World) : Calls Tryd.prog 62 #[.int .i64 op] w (Tells (.bool (decide (op = 3 ∨ op = 5 ∨ op = 6))) w) := by
  by_cases h3 : op = 3
  · subst h3; exact isPart_3 w
  by_cases h5 : op = 5
  · subst h5; exact isPart_5 w
  by_cases h6 : op = 6
  · subst h6; exact isPart_6 w
  rw [decide_eq_false (by omega)]
  exact isPart_no op w ⟨h3, h5, h6⟩

set_option maxRecDepth 100000 in
set_option maxHeartbeats 4000000 in
theorem sameText_yes (op : Int) (fold : Bool) (t : ByteArray) (op' : Int) (t' : ByteArray) (w : World) (ht : t.size ≤ 1000000) : Calls Tryd.prog 61 #[.agg #[.int .i64 op, .string t, .bool fold], .agg #[.int .i64 op', .string t', .bool true]] w (Told (.bool (oneF true (strB t) (strB t'))) w) := by
  have cS := fun w => same_any t t' w ht
  rw [sameB_low] at cS
  rw [show oneF true (strB t) (strB t') = decide ((strB t).map lowB = (strB t').map lowB) from rfl]
  generalize decide ((strB t).map lowB = (strB t').map lowB) = z at *
  have hA := (Blk.alloc (w := w) [.int .i64 op, .string t, .bool fold] 34).alloc_old (.cells #[.int .i64 op', .string t', .bool true] 34)
  have hB := Blk.alloc (w := w.alloc (.cells #[.int .i64 op, .string t, .bool fold] 34)) [.int .i64 op', .string t', .bool true] 34
  have B0 : Below w.heap.size w ((w.alloc (.cells #[.int .i64 op, .string t, .bool fold] 34)).alloc (.cells #[.int .i64 op', .string t', .bool true] 34)) := ((Below.refl _ w).alloc (Nat.le_refl _) _).alloc (by simp) _
  have hs : (w.alloc (.cells #[.int .i64 op, .string t, .bool fold] 34)).heap.size = w.heap.size + 1 := by simp
  rw [hs] at hB
  have HA := Lib.hid hA
  have HB := Lib.hid hB
  obtain ⟨a0, a1, a2⟩ := cells3 hA
  obtain ⟨b0, b1, b2⟩ := cells3 hB
  clear hA hB hs
  go_enter Tryd.func61, Tryd.ntmps61
  go_wp2_with fail
  refine (cS _).mono ?_
  rintro e w1 ⟨rfl, hb1⟩
  have B1 := below_trans B0 hb1
  clear cS
  go_wp2
  go_ret
  exact ⟨rfl, B1⟩

set_option maxRecDepth 100000 in
set_option maxHeartbeats 4000000 in
theorem sameText_no (op : Int) (fold : Bool) (t : ByteArray) (op' : Int) (t' : ByteArray) (w : World) (z : Bool) (hq : (t.toList == t'.toList) = z) : Calls Tryd.prog 61 #[.agg #[.int .i64 op, .string t, .bool fold], .agg #[.int .i64 op', .string t', .bool false]] w (Told (.bool z) w) := by
  have hA := (Blk.alloc (w := w) [.int .i64 op, .string t, .bool fold] 34).alloc_old (.cells #[.int .i64 op', .string t', .bool false] 34)
  have hB := Blk.alloc (w := w.alloc (.cells #[.int .i64 op, .string t, .bool fold] 34)) [.int .i64 op', .string t', .bool false] 34
  have B0 : Below w.heap.size w ((w.alloc (.cells #[.int .i64 op, .string t, .bool fold] 34)).alloc (.cells #[.int .i64 op', .string t', .bool false] 34)) := ((Below.refl _ w).alloc (Nat.le_refl _) _).alloc (by simp) _
  have hs : (w.alloc (.cells #[.int .i64 op, .string t, .bool fold] 34)).heap.size = w.heap.size + 1 := by simp
  rw [hs] at hB
  have HA := Lib.hid hA
  have HB := Lib.hid hB
  obtain ⟨a0, a1, a2⟩ := cells3 hA
  obtain ⟨b0, b1, b2⟩ := cells3 hB
  clear hA hB hs
  cases z
  all_goals
    go_enter Tryd.func61, Tryd.ntmps61
    go_wp2
    go_ret
    exact ⟨rfl, B0⟩
theorem sameText_any (op : Int) (fold : Bool) (t : ByteArray) (op' : Int) (fold' : Bool) (t' : ByteArray) (w : World) (ht : t.size ≤ 1000000) : Calls Tryd.prog 61 #[.agg #[.int .i64 op, .string t, .bool fold], .agg #[.int .i64 op', .string t', .bool fold']] w (Told (.bool (oneF fold' (strB t) (strB t'))) w) := by
  cases fold'
  · rw [show oneF false (strB t) (strB t') = decide (strB t = strB t') from rfl, ← list_beq]
    exact sameText_no op fold t op' t' w _ rfl
  · exact sameText_yes op fold t op' t' w ht
end Go.Proofs.YtlbmpggkllkiaaaDoor
