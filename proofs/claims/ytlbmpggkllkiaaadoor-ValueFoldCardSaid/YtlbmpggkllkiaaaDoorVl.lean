/- The document's examples of conditions; ValueJoined: the law's walk. -/
import Derived.Test.YtlbmpggkllkiaaaDoorVj
namespace Go.Proofs.YtlbmpggkllkiaaaDoor
open Go.RowKit
set_option linter.unusedVariables false
set_option linter.unusedSimpArgs false

theorem size32 : (⟨#[32]⟩ : ByteArray).size = 1 := rfl
theorem size9 : (⟨#[9]⟩ : ByteArray).size = 1 := rfl
theorem size45 : (⟨#[45]⟩ : ByteArray).size = 1 := rfl
theorem cells3 {w : World} {p : Nat} {x y z : Value} (h : Blk w p [x, y, z] 34) : w.cell? ⟨p, 0, none⟩ = some x ∧ w.cell? ⟨p, 1, none⟩ = some y ∧ w.cell? ⟨p, 2, none⟩ = some z := ⟨h.cell 0 _ rfl, h.cell 1 _ rfl, h.cell 2 _ rfl⟩

set_option maxRecDepth 100000 in
set_option maxHeartbeats 4000000 in
theorem speaks6_any (w : World) (hL : LibW w) : Calls Tryd.prog 23 #[] w (Told (.bool true) w) := by
  have c1 := fun w h => holds_any 3 false ⟨#[98]⟩ ⟨#[97, 32, 98]⟩ w (by decide) (by decide) h
  have c2 := fun w h => holds_any 3 false ⟨#[98]⟩ ⟨#[97, 98]⟩ w (by decide) (by decide) h
  have c3 := fun w h => holds_any 4 false ⟨#[101, 110]⟩ ⟨#[101, 110, 45, 85, 83]⟩ w (by decide) (by decide) h
  have c4 := fun w h => holds_any 4 false ⟨#[101, 110]⟩ ⟨#[101, 110, 103, 108, 105, 115, 104]⟩ w (by decide) (by decide) h
  rw [show holdsF 3 (strB ⟨#[98]⟩) false (strB ⟨#[97, 32, 98]⟩) = true by decide +kernel] at c1
  rw [show holdsF 3 (strB ⟨#[98]⟩) false (strB ⟨#[97, 98]⟩) = false by decide +kernel] at c2
  rw [show holdsF 4 (strB ⟨#[101, 110]⟩) false (strB ⟨#[101, 110, 45, 85, 83]⟩) = true by decide +kernel] at c3
  rw [show holdsF 4 (strB ⟨#[101, 110]⟩) false (strB ⟨#[101, 110, 103, 108, 105, 115, 104]⟩) = false by decide +kernel] at c4
  go_enter Tryd.func23, Tryd.ntmps23
  have hA := (Blk.alloc (w := w) [.int .i64 3, .string ⟨#[98]⟩, .bool false] 34).alloc_old (.cells #[.int .i64 4, .string ⟨#[101, 110]⟩, .bool false] 34)
  have hB := Blk.alloc (w := w.alloc (.cells #[.int .i64 3, .string ⟨#[98]⟩, .bool false] 34)) [.int .i64 4, .string ⟨#[101, 110]⟩, .bool false] 34
  have B0 : Below w.heap.size w ((w.alloc (.cells #[.int .i64 3, .string ⟨#[98]⟩, .bool false] 34)).alloc (.cells #[.int .i64 4, .string ⟨#[101, 110]⟩, .bool false] 34)) := ((Below.refl _ w).alloc (Nat.le_refl _) _).alloc (by simp) _
  have hs : (w.alloc (.cells #[.int .i64 3, .string ⟨#[98]⟩, .bool false] 34)).heap.size = w.heap.size + 1 := by simp
  rw [hs] at hB
  have HA := Lib.hid hA
  have HB := Lib.hid hB
  have HL := Lib.hid hL
  clear hA hB hL hs
  go_wp2_with fail
  refine (c1 _ (HL.out.later B0)).mono ?_
  rintro e w1 ⟨rfl, hb1⟩
  have HA1 := Lib.hid (HA.out.later hb1 HA.out.lt)
  have HB1 := Lib.hid (HB.out.later hb1 HB.out.lt)
  have B1 := below_trans B0 hb1
  obtain ⟨x0, x1, x2⟩ := cells3 HA1.out
  clear HA HB c1
  go_wp2_with fail
  refine (c2 _ (HL.out.later B1)).mono ?_
  rintro e w2 ⟨rfl, hb2⟩
  have HB2 := Lib.hid (HB1.out.later hb2 HB1.out.lt)
  have B2 := below_trans B1 hb2
  obtain ⟨x0, x1, x2⟩ := cells3 HB2.out
  clear HA1 HB1 c2
  go_wp2_with fail
  refine (c3 _ (HL.out.later B2)).mono ?_
  rintro e w3 ⟨rfl, hb3⟩
  have HB3 := Lib.hid (HB2.out.later hb3 HB2.out.lt)
  have B3 := below_trans B2 hb3
  obtain ⟨x0, x1, x2⟩ := cells3 HB3.out
  clear HB2 c3
  go_wp2_with fail
  refine (c4 _ (HL.out.later B3)).mono ?_
  rintro e w4 ⟨rfl, hb4⟩
  have B4 := below_trans B3 hb4
  clear HB3 c4
  go_wp2
  go_ret
  exact ⟨rfl, B4⟩

theorem strB_append (a b : ByteArray) : strB (a ++ b) = strB a ++ strB b := by unfold strB; simp

set_option maxRecDepth 100000 in
set_option maxHeartbeats 4000000 in
theorem joined_e1 (op : Int) (fold : Bool) (t a s b : ByteArray) (w : World) (hL : LibW w) (h1 : (300 : Int) < (t.size : Int)) :
    Calls Tryd.prog 11 #[.agg #[.int .i64 op, .string t, .bool fold], .string a, .string s, .string b] w (Told (.bool true) w) := by
  have hA := Blk.alloc (w := w) [.int .i64 op, .string t, .bool fold] 34
  have B1 : Below w.heap.size w (w.alloc (.cells #[.int .i64 op, .string t, .bool fold] 34)) := (Below.refl _ w).alloc (Nat.le_refl _) _
  have HA := Lib.hid hA
  have HL := Lib.hid hL
  clear hA hL
  go_enter Tryd.func11, Tryd.ntmps11
  go_wp2_with fail
  refine (speaks6_any _ (HL.out.later B1)).mono ?_
  rintro e w1 ⟨rfl, hb1⟩
  have HA1 := Lib.hid (HA.out.later hb1 HA.out.lt)
  have B2 := below_trans B1 hb1
  obtain ⟨x0, x1, x2⟩ := cells3 HA1.out
  clear HA
  go_wp2
  go_ret
  exact ⟨rfl, B2⟩

set_option maxRecDepth 100000 in
set_option maxHeartbeats 4000000 in
theorem joined_e2 (op : Int) (fold : Bool) (t a s b : ByteArray) (w : World) (hL : LibW w) (h1 : ¬ ((300 : Int) < (t.size : Int))) (h2 : (300 : Int) < (a.size : Int)) :
    Calls Tryd.prog 11 #[.agg #[.int .i64 op, .string t, .bool fold], .string a, .string s, .string b] w (Told (.bool true) w) := by
  have hA := Blk.alloc (w := w) [.int .i64 op, .string t, .bool fold] 34
  have B1 : Below w.heap.size w (w.alloc (.cells #[.int .i64 op, .string t, .bool fold] 34)) := (Below.refl _ w).alloc (Nat.le_refl _) _
  have HA := Lib.hid hA
  have HL := Lib.hid hL
  clear hA hL
  go_enter Tryd.func11, Tryd.ntmps11
  go_wp2_with fail
  refine (speaks6_any _ (HL.out.later B1)).mono ?_
  rintro e w1 ⟨rfl, hb1⟩
  have HA1 := Lib.hid (HA.out.later hb1 HA.out.lt)
  have B2 := below_trans B1 hb1
  obtain ⟨x0, x1, x2⟩ := cells3 HA1.out
  clear HA
  go_wp2
  go_ret
  exact ⟨rfl, B2⟩

set_option maxRecDepth 100000 in
set_option maxHeartbeats 4000000 in
theorem joined_e3 (op : Int) (fold : Bool) (t a s b : ByteArray) (w : World) (hL : LibW w) (h1 : ¬ ((300 : Int) < (t.size : Int))) (h2 : ¬ ((300 : Int) < (a.size : Int))) (h3 : (300 : Int) < (s.size : Int)) :
    Calls Tryd.prog 11 #[.agg #[.int .i64 op, .string t, .bool fold], .string a, .string s, .string b] w (Told (.bool true) w) := by
  have hA := Blk.alloc (w := w) [.int .i64 op, .string t, .bool fold] 34
  have B1 : Below w.heap.size w (w.alloc (.cells #[.int .i64 op, .string t, .bool fold] 34)) := (Below.refl _ w).alloc (Nat.le_refl _) _
  have HA := Lib.hid hA
  have HL := Lib.hid hL
  clear hA hL
  go_enter Tryd.func11, Tryd.ntmps11
  go_wp2_with fail
  refine (speaks6_any _ (HL.out.later B1)).mono ?_
  rintro e w1 ⟨rfl, hb1⟩
  have HA1 := Lib.hid (HA.out.later hb1 HA.out.lt)
  have B2 := below_trans B1 hb1
  obtain ⟨x0, x1, x2⟩ := cells3 HA1.out
  clear HA
  go_wp2
  go_ret
  exact ⟨rfl, B2⟩

set_option maxRecDepth 100000 in
set_option maxHeartbeats 4000000 in
theorem joined_e4 (op : Int) (fold : Bool) (t a s b : ByteArray) (w : World) (hL : LibW w) (h1 : ¬ ((300 : Int) < (t.size : Int))) (h2 : ¬ ((300 : Int) < (a.size : Int))) (h3 : ¬ ((300 : Int) < (s.size : Int))) (h4 : (300 : Int) < (b.size : Int)) :
    Calls Tryd.prog 11 #[.agg #[.int .i64 op, .string t, .bool fold], .string a, .string s, .string b] w (Told (.bool true) w) := by
  have hA := Blk.alloc (w := w) [.int .i64 op, .string t, .bool fold] 34
  have B1 : Below w.heap.size w (w.alloc (.cells #[.int .i64 op, .string t, .bool fold] 34)) := (Below.refl _ w).alloc (Nat.le_refl _) _
  have HA := Lib.hid hA
  have HL := Lib.hid hL
  clear hA hL
  go_enter Tryd.func11, Tryd.ntmps11
  go_wp2_with fail
  refine (speaks6_any _ (HL.out.later B1)).mono ?_
  rintro e w1 ⟨rfl, hb1⟩
  have HA1 := Lib.hid (HA.out.later hb1 HA.out.lt)
  have B2 := below_trans B1 hb1
  obtain ⟨x0, x1, x2⟩ := cells3 HA1.out
  clear HA
  go_wp2
  go_ret
  exact ⟨rfl, B2⟩

set_option maxRecDepth 100000 in
set_option maxHeartbeats 4000000 in
theorem joined_not (op : Int) (fold : Bool) (t a s b : ByteArray) (w : World) (hL : LibW w) (h1 : ¬ ((300 : Int) < (t.size : Int))) (h2 : ¬ ((300 : Int) < (a.size : Int))) (h3 : ¬ ((300 : Int) < (s.size : Int))) (h4 : ¬ ((300 : Int) < (b.size : Int))) (hh : holdsF op (strB t) fold (strB s) = false) :
    Calls Tryd.prog 11 #[.agg #[.int .i64 op, .string t, .bool fold], .string a, .string s, .string b] w (Told (.bool true) w) := by
  have cH := fun w h => holds_any op fold t s w (by omega) (by omega) h
  rw [hh] at cH
  have hA := Blk.alloc (w := w) [.int .i64 op, .string t, .bool fold] 34
  have B1 : Below w.heap.size w (w.alloc (.cells #[.int .i64 op, .string t, .bool fold] 34)) := (Below.refl _ w).alloc (Nat.le_refl _) _
  have HA := Lib.hid hA
  have HL := Lib.hid hL
  clear hA hL
  go_enter Tryd.func11, Tryd.ntmps11
  go_wp2_with fail
  refine (speaks6_any _ (HL.out.later B1)).mono ?_
  rintro e w1 ⟨rfl, hb1⟩
  have HA1 := Lib.hid (HA.out.later hb1 HA.out.lt)
  have B2 := below_trans B1 hb1
  obtain ⟨x0, x1, x2⟩ := cells3 HA1.out
  clear HA
  go_wp2_with fail
  refine (cH _ (HL.out.later B2)).mono ?_
  rintro e w2 ⟨rfl, hb2⟩
  have HA2 := Lib.hid (HA1.out.later hb2 HA1.out.lt)
  have B3 := below_trans B2 hb2
  obtain ⟨x0, x1, x2⟩ := cells3 HA2.out
  clear HA1 cH
  go_wp2
  go_ret
  exact ⟨rfl, B3⟩

set_option maxRecDepth 100000 in
set_option maxHeartbeats 4000000 in
theorem joined_other (op : Int) (fold : Bool) (t a s b : ByteArray) (w : World) (hL : LibW w) (h1 : ¬ ((300 : Int) < (t.size : Int))) (h2 : ¬ ((300 : Int) < (a.size : Int))) (h3 : ¬ ((300 : Int) < (s.size : Int))) (h4 : ¬ ((300 : Int) < (b.size : Int))) (hop : op ≠ 7 ∧ op ≠ 5 ∧ op ≠ 6 ∧ op ≠ 3 ∧ op ≠ 4) (hh : holdsF op (strB t) fold (strB s) = true) :
    Calls Tryd.prog 11 #[.agg #[.int .i64 op, .string t, .bool fold], .string a, .string s, .string b] w (Told (.bool true) w) := by
  have cH := fun w h => holds_any op fold t s w (by omega) (by omega) h
  rw [hh] at cH
  have n7 : (op == 7) = false := beq_eq_false_iff_ne.2 (by omega)
  have n5 : (op == 5) = false := beq_eq_false_iff_ne.2 (by omega)
  have n6 : (op == 6) = false := beq_eq_false_iff_ne.2 (by omega)
  have n3 : (op == 3) = false := beq_eq_false_iff_ne.2 (by omega)
  have n4 : (op == 4) = false := beq_eq_false_iff_ne.2 (by omega)
  have hA := Blk.alloc (w := w) [.int .i64 op, .string t, .bool fold] 34
  have B1 : Below w.heap.size w (w.alloc (.cells #[.int .i64 op, .string t, .bool fold] 34)) := (Below.refl _ w).alloc (Nat.le_refl _) _
  have HA := Lib.hid hA
  have HL := Lib.hid hL
  clear hA hL
  go_enter Tryd.func11, Tryd.ntmps11
  go_wp2_with fail
  refine (speaks6_any _ (HL.out.later B1)).mono ?_
  rintro e w1 ⟨rfl, hb1⟩
  have HA1 := Lib.hid (HA.out.later hb1 HA.out.lt)
  have B2 := below_trans B1 hb1
  obtain ⟨x0, x1, x2⟩ := cells3 HA1.out
  clear HA
  go_wp2_with fail
  refine (cH _ (HL.out.later B2)).mono ?_
  rintro e w2 ⟨rfl, hb2⟩
  have HA2 := Lib.hid (HA1.out.later hb2 HA1.out.lt)
  have B3 := below_trans B2 hb2
  obtain ⟨x0, x1, x2⟩ := cells3 HA2.out
  clear HA1 cH
  go_wp2
  go_ret
  exact ⟨rfl, B3⟩

set_option maxRecDepth 100000 in
set_option maxHeartbeats 4000000 in
theorem joined_7w (fold : Bool) (t a s b : ByteArray) (w : World) (hL : LibW w) (h1 : ¬ ((300 : Int) < (t.size : Int))) (h2 : ¬ ((300 : Int) < (a.size : Int))) (h3 : ¬ ((300 : Int) < (s.size : Int))) (h4 : ¬ ((300 : Int) < (b.size : Int))) (hh : holdsF 7 (strB t) fold (strB s) = true) :
    Calls Tryd.prog 11 #[.agg #[.int .i64 7, .string t, .bool fold], .string a, .string s, .string b] w (Told (.bool true) w) := by
  have cH := fun w h => holds_any 7 fold t s w (by omega) (by omega) h
  rw [hh] at cH
  have hj : holdsF 7 (strB t) fold (strB (a ++ s ++ b)) = true := by
    simp only [strB_append]
    exact joined_7 (strB t) (strB s) (strB a) (strB b) fold hh
  have z0 : ¬ 9223372036854775807 < (a : ByteArray).size + (s : ByteArray).size := by (try simp only [ByteArray.size_append, size32, size9, size45]); omega
  have z1 : ¬ 9223372036854775807 < (a ++ s : ByteArray).size + (b : ByteArray).size := by (try simp only [ByteArray.size_append, size32, size9, size45]); omega
  have cJ := fun w h => holds_any 7 fold t (a ++ s ++ b) w (by omega) (by (try simp only [ByteArray.size_append, size32, size9, size45]); omega) h
  rw [hj] at cJ
  have hA := Blk.alloc (w := w) [.int .i64 7, .string t, .bool fold] 34
  have B1 : Below w.heap.size w (w.alloc (.cells #[.int .i64 7, .string t, .bool fold] 34)) := (Below.refl _ w).alloc (Nat.le_refl _) _
  have HA := Lib.hid hA
  have HL := Lib.hid hL
  clear hA hL
  go_enter Tryd.func11, Tryd.ntmps11
  go_wp2_with fail
  refine (speaks6_any _ (HL.out.later B1)).mono ?_
  rintro e w1 ⟨rfl, hb1⟩
  have HA1 := Lib.hid (HA.out.later hb1 HA.out.lt)
  have B2 := below_trans B1 hb1
  obtain ⟨x0, x1, x2⟩ := cells3 HA1.out
  clear HA
  go_wp2_with fail
  refine (cH _ (HL.out.later B2)).mono ?_
  rintro e w2 ⟨rfl, hb2⟩
  have HA2 := Lib.hid (HA1.out.later hb2 HA1.out.lt)
  have B3 := below_trans B2 hb2
  obtain ⟨x0, x1, x2⟩ := cells3 HA2.out
  clear HA1 cH
  go_wp2_with fail
  refine (cJ _ (HL.out.later B3)).mono ?_
  rintro e w3 ⟨rfl, hb3⟩
  have B4 := below_trans B3 hb3
  clear cJ
  go_wp2
  go_ret
  exact ⟨rfl, B4⟩

set_option maxRecDepth 100000 in
set_option maxHeartbeats 4000000 in
theorem joined_5w (fold : Bool) (t a s b : ByteArray) (w : World) (hL : LibW w) (h1 : ¬ ((300 : Int) < (t.size : Int))) (h2 : ¬ ((300 : Int) < (a.size : Int))) (h3 : ¬ ((300 : Int) < (s.size : Int))) (h4 : ¬ ((300 : Int) < (b.size : Int))) (hh : holdsF 5 (strB t) fold (strB s) = true) :
    Calls Tryd.prog 11 #[.agg #[.int .i64 5, .string t, .bool fold], .string a, .string s, .string b] w (Told (.bool true) w) := by
  have cH := fun w h => holds_any 5 fold t s w (by omega) (by omega) h
  rw [hh] at cH
  have hj : holdsF 5 (strB t) fold (strB (s ++ b)) = true := by
    simp only [strB_append]
    exact joined_5 (strB t) (strB s) (strB b) fold hh
  have z0 : ¬ 9223372036854775807 < (s : ByteArray).size + (b : ByteArray).size := by (try simp only [ByteArray.size_append, size32, size9, size45]); omega
  have cJ := fun w h => holds_any 5 fold t (s ++ b) w (by omega) (by (try simp only [ByteArray.size_append, size32, size9, size45]); omega) h
  rw [hj] at cJ
  have hA := Blk.alloc (w := w) [.int .i64 5, .string t, .bool fold] 34
  have B1 : Below w.heap.size w (w.alloc (.cells #[.int .i64 5, .string t, .bool fold] 34)) := (Below.refl _ w).alloc (Nat.le_refl _) _
  have HA := Lib.hid hA
  have HL := Lib.hid hL
  clear hA hL
  go_enter Tryd.func11, Tryd.ntmps11
  go_wp2_with fail
  refine (speaks6_any _ (HL.out.later B1)).mono ?_
  rintro e w1 ⟨rfl, hb1⟩
  have HA1 := Lib.hid (HA.out.later hb1 HA.out.lt)
  have B2 := below_trans B1 hb1
  obtain ⟨x0, x1, x2⟩ := cells3 HA1.out
  clear HA
  go_wp2_with fail
  refine (cH _ (HL.out.later B2)).mono ?_
  rintro e w2 ⟨rfl, hb2⟩
  have HA2 := Lib.hid (HA1.out.later hb2 HA1.out.lt)
  have B3 := below_trans B2 hb2
  obtain ⟨x0, x1, x2⟩ := cells3 HA2.out
  clear HA1 cH
  go_wp2_with fail
  refine (cJ _ (HL.out.later B3)).mono ?_
  rintro e w3 ⟨rfl, hb3⟩
  have B4 := below_trans B3 hb3
  clear cJ
  go_wp2
  go_ret
  exact ⟨rfl, B4⟩

set_option maxRecDepth 100000 in
set_option maxHeartbeats 4000000 in
theorem joined_6w (fold : Bool) (t a s b : ByteArray) (w : World) (hL : LibW w) (h1 : ¬ ((300 : Int) < (t.size : Int))) (h2 : ¬ ((300 : Int) < (a.size : Int))) (h3 : ¬ ((300 : Int) < (s.size : Int))) (h4 : ¬ ((300 : Int) < (b.size : Int))) (hh : holdsF 6 (strB t) fold (strB s) = true) :
    Calls Tryd.prog 11 #[.agg #[.int .i64 6, .string t, .bool fold], .string a, .string s, .string b] w (Told (.bool true) w) := by
  have cH := fun w h => holds_any 6 fold t s w (by omega) (by omega) h
  rw [hh] at cH
  have hj : holdsF 6 (strB t) fold (strB (a ++ s)) = true := by
    simp only [strB_append]
    exact joined_6 (strB t) (strB s) (strB a) fold hh
  have z0 : ¬ 9223372036854775807 < (a : ByteArray).size + (s : ByteArray).size := by (try simp only [ByteArray.size_append, size32, size9, size45]); omega
  have cJ := fun w h => holds_any 6 fold t (a ++ s) w (by omega) (by (try simp only [ByteArray.size_append, size32, size9, size45]); omega) h
  rw [hj] at cJ
  have hA := Blk.alloc (w := w) [.int .i64 6, .string t, .bool fold] 34
  have B1 : Below w.heap.size w (w.alloc (.cells #[.int .i64 6, .string t, .bool fold] 34)) := (Below.refl _ w).alloc (Nat.le_refl _) _
  have HA := Lib.hid hA
  have HL := Lib.hid hL
  clear hA hL
  go_enter Tryd.func11, Tryd.ntmps11
  go_wp2_with fail
  refine (speaks6_any _ (HL.out.later B1)).mono ?_
  rintro e w1 ⟨rfl, hb1⟩
  have HA1 := Lib.hid (HA.out.later hb1 HA.out.lt)
  have B2 := below_trans B1 hb1
  obtain ⟨x0, x1, x2⟩ := cells3 HA1.out
  clear HA
  go_wp2_with fail
  refine (cH _ (HL.out.later B2)).mono ?_
  rintro e w2 ⟨rfl, hb2⟩
  have HA2 := Lib.hid (HA1.out.later hb2 HA1.out.lt)
  have B3 := below_trans B2 hb2
  obtain ⟨x0, x1, x2⟩ := cells3 HA2.out
  clear HA1 cH
  go_wp2_with fail
  refine (cJ _ (HL.out.later B3)).mono ?_
  rintro e w3 ⟨rfl, hb3⟩
  have B4 := below_trans B3 hb3
  clear cJ
  go_wp2
  go_ret
  exact ⟨rfl, B4⟩

set_option maxRecDepth 100000 in
set_option maxHeartbeats 4000000 in
theorem joined_3w (fold : Bool) (t a s b : ByteArray) (w : World) (hL : LibW w) (h1 : ¬ ((300 : Int) < (t.size : Int))) (h2 : ¬ ((300 : Int) < (a.size : Int))) (h3 : ¬ ((300 : Int) < (s.size : Int))) (h4 : ¬ ((300 : Int) < (b.size : Int))) (hh : holdsF 3 (strB t) fold (strB s) = true) :
    Calls Tryd.prog 11 #[.agg #[.int .i64 3, .string t, .bool fold], .string a, .string s, .string b] w (Told (.bool true) w) := by
  have cH := fun w h => holds_any 3 fold t s w (by omega) (by omega) h
  rw [hh] at cH
  have hj : holdsF 3 (strB t) fold (strB (a ++ ⟨#[32]⟩ ++ s ++ ⟨#[9]⟩ ++ b)) = true := by
    simp only [strB_append]
    exact joined_3 (strB t) (strB s) (strB a) (strB b) fold hh
  have z0 : ¬ 9223372036854775807 < (a : ByteArray).size + (⟨#[32]⟩ : ByteArray).size := by (try simp only [ByteArray.size_append, size32, size9, size45]); omega
  have z1 : ¬ 9223372036854775807 < (a ++ ⟨#[32]⟩ : ByteArray).size + (s : ByteArray).size := by (try simp only [ByteArray.size_append, size32, size9, size45]); omega
  have z2 : ¬ 9223372036854775807 < (a ++ ⟨#[32]⟩ ++ s : ByteArray).size + (⟨#[9]⟩ : ByteArray).size := by (try simp only [ByteArray.size_append, size32, size9, size45]); omega
  have z3 : ¬ 9223372036854775807 < (a ++ ⟨#[32]⟩ ++ s ++ ⟨#[9]⟩ : ByteArray).size + (b : ByteArray).size := by (try simp only [ByteArray.size_append, size32, size9, size45]); omega
  have cJ := fun w h => holds_any 3 fold t (a ++ ⟨#[32]⟩ ++ s ++ ⟨#[9]⟩ ++ b) w (by omega) (by (try simp only [ByteArray.size_append, size32, size9, size45]); omega) h
  rw [hj] at cJ
  have hA := Blk.alloc (w := w) [.int .i64 3, .string t, .bool fold] 34
  have B1 : Below w.heap.size w (w.alloc (.cells #[.int .i64 3, .string t, .bool fold] 34)) := (Below.refl _ w).alloc (Nat.le_refl _) _
  have HA := Lib.hid hA
  have HL := Lib.hid hL
  clear hA hL
  go_enter Tryd.func11, Tryd.ntmps11
  go_wp2_with fail
  refine (speaks6_any _ (HL.out.later B1)).mono ?_
  rintro e w1 ⟨rfl, hb1⟩
  have HA1 := Lib.hid (HA.out.later hb1 HA.out.lt)
  have B2 := below_trans B1 hb1
  obtain ⟨x0, x1, x2⟩ := cells3 HA1.out
  clear HA
  go_wp2_with fail
  refine (cH _ (HL.out.later B2)).mono ?_
  rintro e w2 ⟨rfl, hb2⟩
  have HA2 := Lib.hid (HA1.out.later hb2 HA1.out.lt)
  have B3 := below_trans B2 hb2
  obtain ⟨x0, x1, x2⟩ := cells3 HA2.out
  clear HA1 cH
  go_wp2_with fail
  refine (cJ _ (HL.out.later B3)).mono ?_
  rintro e w3 ⟨rfl, hb3⟩
  have B4 := below_trans B3 hb3
  clear cJ
  go_wp2
  go_ret
  exact ⟨rfl, B4⟩

set_option maxRecDepth 100000 in
set_option maxHeartbeats 4000000 in
theorem joined_4w (fold : Bool) (t a s b : ByteArray) (w : World) (hL : LibW w) (h1 : ¬ ((300 : Int) < (t.size : Int))) (h2 : ¬ ((300 : Int) < (a.size : Int))) (h3 : ¬ ((300 : Int) < (s.size : Int))) (h4 : ¬ ((300 : Int) < (b.size : Int))) (hh : holdsF 4 (strB t) fold (strB s) = true) :
    Calls Tryd.prog 11 #[.agg #[.int .i64 4, .string t, .bool fold], .string a, .string s, .string b] w (Told (.bool true) w) := by
  have cH := fun w h => holds_any 4 fold t s w (by omega) (by omega) h
  rw [hh] at cH
  have hj : holdsF 4 (strB t) fold (strB (s ++ ⟨#[45]⟩ ++ b)) = true := by
    simp only [strB_append]
    exact joined_4 (strB t) (strB s) (strB b) fold hh
  have z0 : ¬ 9223372036854775807 < (s : ByteArray).size + (⟨#[45]⟩ : ByteArray).size := by (try simp only [ByteArray.size_append, size32, size9, size45]); omega
  have z1 : ¬ 9223372036854775807 < (s ++ ⟨#[45]⟩ : ByteArray).size + (b : ByteArray).size := by (try simp only [ByteArray.size_append, size32, size9, size45]); omega
  have cJ := fun w h => holds_any 4 fold t (s ++ ⟨#[45]⟩ ++ b) w (by omega) (by (try simp only [ByteArray.size_append, size32, size9, size45]); omega) h
  rw [hj] at cJ
  have hA := Blk.alloc (w := w) [.int .i64 4, .string t, .bool fold] 34
  have B1 : Below w.heap.size w (w.alloc (.cells #[.int .i64 4, .string t, .bool fold] 34)) := (Below.refl _ w).alloc (Nat.le_refl _) _
  have HA := Lib.hid hA
  have HL := Lib.hid hL
  clear hA hL
  go_enter Tryd.func11, Tryd.ntmps11
  go_wp2_with fail
  refine (speaks6_any _ (HL.out.later B1)).mono ?_
  rintro e w1 ⟨rfl, hb1⟩
  have HA1 := Lib.hid (HA.out.later hb1 HA.out.lt)
  have B2 := below_trans B1 hb1
  obtain ⟨x0, x1, x2⟩ := cells3 HA1.out
  clear HA
  go_wp2_with fail
  refine (cH _ (HL.out.later B2)).mono ?_
  rintro e w2 ⟨rfl, hb2⟩
  have HA2 := Lib.hid (HA1.out.later hb2 HA1.out.lt)
  have B3 := below_trans B2 hb2
  obtain ⟨x0, x1, x2⟩ := cells3 HA2.out
  clear HA1 cH
  go_wp2_with fail
  refine (cJ _ (HL.out.later B3)).mono ?_
  rintro e w3 ⟨rfl, hb3⟩
  have B4 := below_trans B3 hb3
  clear cJ
  go_wp2
  go_ret
  exact ⟨rfl, B4⟩

theorem lawJoined_any (op : Int) (fold : Bool) (t a s b : ByteArray) (w : World) (hL : LibW w) :
    Calls Tryd.prog 11 #[.agg #[.int .i64 op, .string t, .bool fold], .string a, .string s, .string b] w (Told (.bool true) w) := by
  by_cases h1 : (300 : Int) < (t.size : Int)
  · exact joined_e1 op fold t a s b w hL h1
  by_cases h2 : (300 : Int) < (a.size : Int)
  · exact joined_e2 op fold t a s b w hL h1 h2
  by_cases h3 : (300 : Int) < (s.size : Int)
  · exact joined_e3 op fold t a s b w hL h1 h2 h3
  by_cases h4 : (300 : Int) < (b.size : Int)
  · exact joined_e4 op fold t a s b w hL h1 h2 h3 h4
  cases hh : holdsF op (strB t) fold (strB s)
  · exact joined_not op fold t a s b w hL h1 h2 h3 h4 hh
  · by_cases h7 : op = 7
    · subst h7; exact joined_7w fold t a s b w hL h1 h2 h3 h4 hh
    by_cases h5 : op = 5
    · subst h5; exact joined_5w fold t a s b w hL h1 h2 h3 h4 hh
    by_cases h6 : op = 6
    · subst h6; exact joined_6w fold t a s b w hL h1 h2 h3 h4 hh
    by_cases h8 : op = 3
    · subst h8; exact joined_3w fold t a s b w hL h1 h2 h3 h4 hh
    by_cases h9 : op = 4
    · subst h9; exact joined_4w fold t a s b w hL h1 h2 h3 h4 hh
    exact joined_other op fold t a s b w hL h1 h2 h3 h4 ⟨h7, h5, h6, h8, h9⟩ hh
end Go.Proofs.YtlbmpggkllkiaaaDoor
