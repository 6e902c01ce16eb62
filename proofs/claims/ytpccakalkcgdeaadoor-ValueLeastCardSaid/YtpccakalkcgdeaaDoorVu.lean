/- Never of both sides; parts; one text: walks. -/
import Derived.Test.YtpccakalkcgdeaaDoorVl
import Derived.Test.YtpccakalkcgdeaaDoorVt
import Derived.Deep.RegionHeld3
namespace Go.Proofs.YtpccakalkcgdeaaDoor
open Go.RowKit
set_option linter.unusedVariables false
set_option linter.unusedSimpArgs false

set_option maxRecDepth 100000 in
set_option maxHeartbeats 4000000 in
theorem never_any (op : Int) (fold : Bool) (t : ByteArray) (w : World) (hL : LibW w) (ht : t.size ≤ 1000000) : Calls Tryd.prog 27 #[.agg #[.int .i64 op, .string t, .bool fold]] w (Told (.bool (neverF op (strB t) fold)) w) := by
  have cH := fun w h => holds_any op fold t t w ht ht h
  unfold neverF
  have hA := Blk.alloc (w := w) [.int .i64 op, .string t, .bool fold] 34
  have B1 : Below w.heap.size w (w.alloc (.cells #[.int .i64 op, .string t, .bool fold] 34)) := (Below.refl _ w).alloc (Nat.le_refl _) _
  obtain ⟨a0, a1, a2⟩ := cells3 hA
  have HA := Lib.hid hA
  clear hA
  have HL := Lib.hid (hL.later B1)
  clear hL
  generalize holdsF op (strB t) fold (strB t) = z at *
  go_enter Tryd.func27, Tryd.ntmps27
  go_wp2_with fail
  refine (cH _ HL.out).mono ?_
  rintro e w1 ⟨rfl, hb1⟩
  have B2 := below_trans B1 hb1
  clear cH
  go_wp2
  go_ret
  exact ⟨rfl, B2⟩

set_option maxRecDepth 100000 in
set_option maxHeartbeats 4000000 in
theorem rnever_1 (fold : Bool) (t : ByteArray) (w : World) : Calls Tryd.prog 28 #[.agg #[.int .i64 1, .string t, .bool fold]] w (Told (.bool false) w) := by
  have hA := Blk.alloc (w := w) [.int .i64 1, .string t, .bool fold] 34
  have B1 : Below w.heap.size w (w.alloc (.cells #[.int .i64 1, .string t, .bool fold] 34)) := (Below.refl _ w).alloc (Nat.le_refl _) _
  obtain ⟨a0, a1, a2⟩ := cells3 hA
  have HA := Lib.hid hA
  clear hA
  go_enter Tryd.func28, Tryd.ntmps28
  go_wp2
  go_ret
  exact ⟨rfl, B1⟩

set_option maxRecDepth 100000 in
set_option maxHeartbeats 4000000 in
theorem rnever_2 (fold : Bool) (t : ByteArray) (w : World) : Calls Tryd.prog 28 #[.agg #[.int .i64 2, .string t, .bool fold]] w (Told (.bool false) w) := by
  have hA := Blk.alloc (w := w) [.int .i64 2, .string t, .bool fold] 34
  have B1 : Below w.heap.size w (w.alloc (.cells #[.int .i64 2, .string t, .bool fold] 34)) := (Below.refl _ w).alloc (Nat.le_refl _) _
  obtain ⟨a0, a1, a2⟩ := cells3 hA
  have HA := Lib.hid hA
  clear hA
  go_enter Tryd.func28, Tryd.ntmps28
  go_wp2
  go_ret
  exact ⟨rfl, B1⟩

set_option maxRecDepth 100000 in
set_option maxHeartbeats 4000000 in
theorem rnever_4 (fold : Bool) (t : ByteArray) (w : World) : Calls Tryd.prog 28 #[.agg #[.int .i64 4, .string t, .bool fold]] w (Told (.bool false) w) := by
  have hA := Blk.alloc (w := w) [.int .i64 4, .string t, .bool fold] 34
  have B1 : Below w.heap.size w (w.alloc (.cells #[.int .i64 4, .string t, .bool fold] 34)) := (Below.refl _ w).alloc (Nat.le_refl _) _
  obtain ⟨a0, a1, a2⟩ := cells3 hA
  have HA := Lib.hid hA
  clear hA
  go_enter Tryd.func28, Tryd.ntmps28
  go_wp2
  go_ret
  exact ⟨rfl, B1⟩

set_option maxRecDepth 100000 in
set_option maxHeartbeats 4000000 in
theorem rnever_more (op : Int) (fold : Bool) (t : ByteArray) (w : World) (ht : t.size ≤ 999999) (h1 : op ≠ 1) (h2 : op ≠ 2) (h4 : op ≠ 4) : Calls Tryd.prog 28 #[.agg #[.int .i64 op, .string t, .bool fold]] w (Told (.bool (neverF op (strB t) fold)) w) := by
  have cH := fun w => rholds_any op fold t t w ht ht
  unfold neverF
  have hA := Blk.alloc (w := w) [.int .i64 op, .string t, .bool fold] 34
  have B1 : Below w.heap.size w (w.alloc (.cells #[.int .i64 op, .string t, .bool fold] 34)) := (Below.refl _ w).alloc (Nat.le_refl _) _
  obtain ⟨a0, a1, a2⟩ := cells3 hA
  have HA := Lib.hid hA
  clear hA
  generalize holdsF op (strB t) fold (strB t) = z at *
  have n1 : (op == 1) = false := beq_eq_false_iff_ne.2 (by omega)
  have n2 : (op == 2) = false := beq_eq_false_iff_ne.2 (by omega)
  have n3 : (op == 4) = false := beq_eq_false_iff_ne.2 (by omega)
  go_enter Tryd.func28, Tryd.ntmps28
  go_wp2_with fail
  refine (cH _).mono ?_
  rintro e w1 ⟨rfl, hb1⟩
  have B2 := below_trans B1 hb1
  clear cH
  go_wp2
  go_ret
  exact ⟨rfl, B2⟩
theorem rnever_any (op : Int) (fold : Bool) (t : ByteArray) (w : World) (ht : t.size ≤ 999999) : Calls Tryd.prog 28 #[.agg #[.int .i64 op, .string t, .bool fold]] w (Told (.bool (neverF op (strB t) fold)) w) := by
  by_cases h1 : op = 1
  · subst h1; rw [never_some 1 _ _ (by omega)]; exact rnever_1 fold t w
  by_cases h2 : op = 2
  · subst h2; rw [never_some 2 _ _ (by omega)]; exact rnever_2 fold t w
  by_cases h4 : op = 4
  · subst h4; rw [never_some 4 _ _ (by omega)]; exact rnever_4 fold t w
  exact rnever_more op fold t w ht h1 h2 h4

end Go.Proofs.YtpccakalkcgdeaaDoor
