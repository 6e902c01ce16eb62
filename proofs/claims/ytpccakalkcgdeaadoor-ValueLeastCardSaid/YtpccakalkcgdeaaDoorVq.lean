/- Whether a condition holds of a value, by the document: the walk. -/
import Derived.Test.YtpccakalkcgdeaaDoorVp
namespace Go.Proofs.YtpccakalkcgdeaaDoor
open Go.RowKit
set_option linter.unusedVariables false
set_option linter.unusedSimpArgs false


set_option maxRecDepth 100000 in
set_option maxHeartbeats 4000000 in
theorem rholds_has (fold : Bool) (t v T V : ByteArray) (w : World) (eT : nS fold t = T) (eV : nS fold v = V) (ht : t.size ≤ 1000000) (hv : v.size ≤ 1000000) (hT : T.size ≤ 1000000) (hV : V.size ≤ 1000000) :
    Calls Tryd.prog 22 #[.agg #[.int .i64 1, .string t, .bool fold], .string v] w (Told (.bool true) w) := by
  have hA := Blk.alloc (w := w) [.int .i64 1, .string t, .bool fold] 34
  have B1 : Below w.heap.size w (w.alloc (.cells #[.int .i64 1, .string t, .bool fold] 34)) := (Below.refl _ w).alloc (Nat.le_refl _) _
  obtain ⟨a0, a1, a2⟩ := cellsC hA
  have hlt := hA.lt
  have HA := Lib.hid hA
  clear hA
  cases fold
  · obtain rfl : T = t := eT.symm
    obtain rfl : V = v := eV.symm
    have hbx := B1
    have HAx := HA
    go_enter Tryd.func22, Tryd.ntmps22
    go_wp2
    go_ret
    exact ⟨rfl, hbx⟩
  · have c1 := fun w => rlower_any t w (by omega)
    have c2 := fun w => rlower_any v w (by omega)
    rw [show lowS t = T from eT] at c1
    rw [show lowS v = V from eV] at c2
    clear eT eV
    go_enter Tryd.func22, Tryd.ntmps22
    go_wp2_with fail
    refine (c1 _).mono ?_
    rintro e w2 ⟨rfl, hb2⟩
    go_wp2_with fail
    refine (c2 _).mono ?_
    rintro e w3 ⟨rfl, hb3⟩
    have hb23 := below_trans hb2 hb3
    have HAx := Lib.hid (HA.out.later hb23 hlt)
    have hbx := below_trans B1 hb23
    clear a0 a1 a2 c1 c2 HA
    obtain ⟨a0, a1, a2⟩ := cellsC HAx.out
    go_wp2
    go_ret
    exact ⟨rfl, hbx⟩

set_option maxRecDepth 100000 in
set_option maxHeartbeats 4000000 in
theorem rholds_is_y (fold : Bool) (t v T V : ByteArray) (w : World) (eT : nS fold t = T) (eV : nS fold v = V) (ht : t.size ≤ 1000000) (hv : v.size ≤ 1000000) (hT : T.size ≤ 1000000) (hV : V.size ≤ 1000000) (hq : (T.toList == V.toList) = true) :
    Calls Tryd.prog 22 #[.agg #[.int .i64 2, .string t, .bool fold], .string v] w (Told (.bool true) w) := by
  have hA := Blk.alloc (w := w) [.int .i64 2, .string t, .bool fold] 34
  have B1 : Below w.heap.size w (w.alloc (.cells #[.int .i64 2, .string t, .bool fold] 34)) := (Below.refl _ w).alloc (Nat.le_refl _) _
  obtain ⟨a0, a1, a2⟩ := cellsC hA
  have hlt := hA.lt
  have HA := Lib.hid hA
  clear hA
  cases fold
  · obtain rfl : T = t := eT.symm
    obtain rfl : V = v := eV.symm
    have hbx := B1
    have HAx := HA
    go_enter Tryd.func22, Tryd.ntmps22
    go_wp2
    go_ret
    exact ⟨rfl, hbx⟩
  · have c1 := fun w => rlower_any t w (by omega)
    have c2 := fun w => rlower_any v w (by omega)
    rw [show lowS t = T from eT] at c1
    rw [show lowS v = V from eV] at c2
    clear eT eV
    go_enter Tryd.func22, Tryd.ntmps22
    go_wp2_with fail
    refine (c1 _).mono ?_
    rintro e w2 ⟨rfl, hb2⟩
    go_wp2_with fail
    refine (c2 _).mono ?_
    rintro e w3 ⟨rfl, hb3⟩
    have hb23 := below_trans hb2 hb3
    have HAx := Lib.hid (HA.out.later hb23 hlt)
    have hbx := below_trans B1 hb23
    clear a0 a1 a2 c1 c2 HA
    obtain ⟨a0, a1, a2⟩ := cellsC HAx.out
    go_wp2
    go_ret
    exact ⟨rfl, hbx⟩

set_option maxRecDepth 100000 in
set_option maxHeartbeats 4000000 in
theorem rholds_is_n (fold : Bool) (t v T V : ByteArray) (w : World) (eT : nS fold t = T) (eV : nS fold v = V) (ht : t.size ≤ 1000000) (hv : v.size ≤ 1000000) (hT : T.size ≤ 1000000) (hV : V.size ≤ 1000000) (hq : (T.toList == V.toList) = false) :
    Calls Tryd.prog 22 #[.agg #[.int .i64 2, .string t, .bool fold], .string v] w (Told (.bool false) w) := by
  have hA := Blk.alloc (w := w) [.int .i64 2, .string t, .bool fold] 34
  have B1 : Below w.heap.size w (w.alloc (.cells #[.int .i64 2, .string t, .bool fold] 34)) := (Below.refl _ w).alloc (Nat.le_refl _) _
  obtain ⟨a0, a1, a2⟩ := cellsC hA
  have hlt := hA.lt
  have HA := Lib.hid hA
  clear hA
  cases fold
  · obtain rfl : T = t := eT.symm
    obtain rfl : V = v := eV.symm
    have hbx := B1
    have HAx := HA
    go_enter Tryd.func22, Tryd.ntmps22
    go_wp2
    go_ret
    exact ⟨rfl, hbx⟩
  · have c1 := fun w => rlower_any t w (by omega)
    have c2 := fun w => rlower_any v w (by omega)
    rw [show lowS t = T from eT] at c1
    rw [show lowS v = V from eV] at c2
    clear eT eV
    go_enter Tryd.func22, Tryd.ntmps22
    go_wp2_with fail
    refine (c1 _).mono ?_
    rintro e w2 ⟨rfl, hb2⟩
    go_wp2_with fail
    refine (c2 _).mono ?_
    rintro e w3 ⟨rfl, hb3⟩
    have hb23 := below_trans hb2 hb3
    have HAx := Lib.hid (HA.out.later hb23 hlt)
    have hbx := below_trans B1 hb23
    clear a0 a1 a2 c1 c2 HA
    obtain ⟨a0, a1, a2⟩ := cellsC HAx.out
    go_wp2
    go_ret
    exact ⟨rfl, hbx⟩

set_option maxRecDepth 100000 in
set_option maxHeartbeats 4000000 in
theorem rholds_dash_y (fold : Bool) (t v T V : ByteArray) (w : World) (eT : nS fold t = T) (eV : nS fold v = V) (ht : t.size ≤ 1000000) (hv : v.size ≤ 1000000) (hT : T.size ≤ 1000000) (hV : V.size ≤ 1000000) (hq : (T.toList == V.toList) = true) :
    Calls Tryd.prog 22 #[.agg #[.int .i64 4, .string t, .bool fold], .string v] w (Told (.bool true) w) := by
  have hA := Blk.alloc (w := w) [.int .i64 4, .string t, .bool fold] 34
  have B1 : Below w.heap.size w (w.alloc (.cells #[.int .i64 4, .string t, .bool fold] 34)) := (Below.refl _ w).alloc (Nat.le_refl _) _
  obtain ⟨a0, a1, a2⟩ := cellsC hA
  have hlt := hA.lt
  have HA := Lib.hid hA
  clear hA
  cases fold
  · obtain rfl : T = t := eT.symm
    obtain rfl : V = v := eV.symm
    have hbx := B1
    have HAx := HA
    go_enter Tryd.func22, Tryd.ntmps22
    go_wp2
    go_ret
    exact ⟨rfl, hbx⟩
  · have c1 := fun w => rlower_any t w (by omega)
    have c2 := fun w => rlower_any v w (by omega)
    rw [show lowS t = T from eT] at c1
    rw [show lowS v = V from eV] at c2
    clear eT eV
    go_enter Tryd.func22, Tryd.ntmps22
    go_wp2_with fail
    refine (c1 _).mono ?_
    rintro e w2 ⟨rfl, hb2⟩
    go_wp2_with fail
    refine (c2 _).mono ?_
    rintro e w3 ⟨rfl, hb3⟩
    have hb23 := below_trans hb2 hb3
    have HAx := Lib.hid (HA.out.later hb23 hlt)
    have hbx := below_trans B1 hb23
    clear a0 a1 a2 c1 c2 HA
    obtain ⟨a0, a1, a2⟩ := cellsC HAx.out
    go_wp2
    go_ret
    exact ⟨rfl, hbx⟩

set_option maxRecDepth 100000 in
set_option maxHeartbeats 4000000 in
theorem rholds_empty (op : Int) (fold : Bool) (t v T V : ByteArray) (w : World) (eT : nS fold t = T) (eV : nS fold v = V) (hop : op ≠ 1 ∧ op ≠ 2 ∧ op ≠ 4) (ht : t.size ≤ 1000000) (hv : v.size ≤ 1000000) (hT : T.size ≤ 1000000) (hV : V.size ≤ 1000000) (h0 : T = ⟨#[]⟩) :
    Calls Tryd.prog 22 #[.agg #[.int .i64 op, .string t, .bool fold], .string v] w (Told (.bool false) w) := by
  have n1 : (op == 1) = false := beq_eq_false_iff_ne.2 (by omega)
  have n2 : (op == 2) = false := beq_eq_false_iff_ne.2 (by omega)
  have n4 : (op == 4) = false := beq_eq_false_iff_ne.2 (by omega)
  have hA := Blk.alloc (w := w) [.int .i64 op, .string t, .bool fold] 34
  have B1 : Below w.heap.size w (w.alloc (.cells #[.int .i64 op, .string t, .bool fold] 34)) := (Below.refl _ w).alloc (Nat.le_refl _) _
  obtain ⟨a0, a1, a2⟩ := cellsC hA
  have hlt := hA.lt
  have HA := Lib.hid hA
  clear hA
  cases fold
  · obtain rfl : T = t := eT.symm
    obtain rfl : V = v := eV.symm
    have hbx := B1
    have HAx := HA
    subst h0
    go_enter Tryd.func22, Tryd.ntmps22
    go_wp2
    go_ret
    exact ⟨rfl, hbx⟩
  · have c1 := fun w => rlower_any t w (by omega)
    have c2 := fun w => rlower_any v w (by omega)
    rw [show lowS t = T from eT] at c1
    rw [show lowS v = V from eV] at c2
    clear eT eV
    go_enter Tryd.func22, Tryd.ntmps22
    go_wp2_with fail
    refine (c1 _).mono ?_
    rintro e w2 ⟨rfl, hb2⟩
    go_wp2_with fail
    refine (c2 _).mono ?_
    rintro e w3 ⟨rfl, hb3⟩
    have hb23 := below_trans hb2 hb3
    have HAx := Lib.hid (HA.out.later hb23 hlt)
    have hbx := below_trans B1 hb23
    clear a0 a1 a2 c1 c2 HA
    obtain ⟨a0, a1, a2⟩ := cellsC HAx.out
    subst h0
    go_wp2
    go_ret
    exact ⟨rfl, hbx⟩

set_option maxRecDepth 100000 in
set_option maxHeartbeats 4000000 in
theorem rholds_none (op : Int) (fold : Bool) (t v T V : ByteArray) (w : World) (eT : nS fold t = T) (eV : nS fold v = V) (hop : op < 1 ∨ 7 < op) (ht : t.size ≤ 1000000) (hv : v.size ≤ 1000000) (hT : T.size ≤ 1000000) (hV : V.size ≤ 1000000) (h0 : strB T ≠ []) :
    Calls Tryd.prog 22 #[.agg #[.int .i64 op, .string t, .bool fold], .string v] w (Told (.bool false) w) := by
  have n1 : (op == 1) = false := beq_eq_false_iff_ne.2 (by omega)
  have n2 : (op == 2) = false := beq_eq_false_iff_ne.2 (by omega)
  have n4 : (op == 4) = false := beq_eq_false_iff_ne.2 (by omega)
  have n5 : (op == 5) = false := beq_eq_false_iff_ne.2 (by omega)
  have n6 : (op == 6) = false := beq_eq_false_iff_ne.2 (by omega)
  have n3 : (op == 3) = false := beq_eq_false_iff_ne.2 (by omega)
  have n7 : (op == 7) = false := beq_eq_false_iff_ne.2 (by omega)
  have hA := Blk.alloc (w := w) [.int .i64 op, .string t, .bool fold] 34
  have B1 : Below w.heap.size w (w.alloc (.cells #[.int .i64 op, .string t, .bool fold] 34)) := (Below.refl _ w).alloc (Nat.le_refl _) _
  obtain ⟨a0, a1, a2⟩ := cellsC hA
  have hlt := hA.lt
  have HA := Lib.hid hA
  clear hA
  cases fold
  · obtain rfl : T = t := eT.symm
    obtain rfl : V = v := eV.symm
    have hbx := B1
    have HAx := HA
    have hn := ne_empty h0
    go_enter Tryd.func22, Tryd.ntmps22
    go_wp2
    go_ret
    exact ⟨rfl, hbx⟩
  · have c1 := fun w => rlower_any t w (by omega)
    have c2 := fun w => rlower_any v w (by omega)
    rw [show lowS t = T from eT] at c1
    rw [show lowS v = V from eV] at c2
    clear eT eV
    go_enter Tryd.func22, Tryd.ntmps22
    go_wp2_with fail
    refine (c1 _).mono ?_
    rintro e w2 ⟨rfl, hb2⟩
    go_wp2_with fail
    refine (c2 _).mono ?_
    rintro e w3 ⟨rfl, hb3⟩
    have hb23 := below_trans hb2 hb3
    have HAx := Lib.hid (HA.out.later hb23 hlt)
    have hbx := below_trans B1 hb23
    clear a0 a1 a2 c1 c2 HA
    obtain ⟨a0, a1, a2⟩ := cellsC HAx.out
    have hn := ne_empty h0
    go_wp2
    go_ret
    exact ⟨rfl, hbx⟩

set_option maxRecDepth 100000 in
set_option maxHeartbeats 4000000 in
theorem rholds_begin (fold : Bool) (t v T V : ByteArray) (w : World) (eT : nS fold t = T) (eV : nS fold v = V) (ht : t.size ≤ 1000000) (hv : v.size ≤ 1000000) (hT : T.size ≤ 1000000) (hV : V.size ≤ 1000000) (h0 : strB T ≠ []) :
    Calls Tryd.prog 22 #[.agg #[.int .i64 5, .string t, .bool fold], .string v] w (Told (.bool (atB (strB V) 0 (strB T))) w) := by
  have hA := Blk.alloc (w := w) [.int .i64 5, .string t, .bool fold] 34
  have B1 : Below w.heap.size w (w.alloc (.cells #[.int .i64 5, .string t, .bool fold] 34)) := (Below.refl _ w).alloc (Nat.le_refl _) _
  obtain ⟨a0, a1, a2⟩ := cellsC hA
  have hlt := hA.lt
  have HA := Lib.hid hA
  clear hA
  cases fold
  · obtain rfl : T = t := eT.symm
    obtain rfl : V = v := eV.symm
    have hbx := B1
    have HAx := HA
    have hn := ne_empty h0
    go_enter Tryd.func22, Tryd.ntmps22
    go_wp2_with (go_at_call 54; refine (rat_any V T 0 _ (by omega) (by omega) (by omega)).mono ?_; rintro e w4 ⟨rfl, hw4⟩; replace hw4 := hw4.symm; subst hw4)
    go_ret
    exact ⟨rfl, hbx⟩
  · have c1 := fun w => rlower_any t w (by omega)
    have c2 := fun w => rlower_any v w (by omega)
    rw [show lowS t = T from eT] at c1
    rw [show lowS v = V from eV] at c2
    clear eT eV
    go_enter Tryd.func22, Tryd.ntmps22
    go_wp2_with fail
    refine (c1 _).mono ?_
    rintro e w2 ⟨rfl, hb2⟩
    go_wp2_with fail
    refine (c2 _).mono ?_
    rintro e w3 ⟨rfl, hb3⟩
    have hb23 := below_trans hb2 hb3
    have HAx := Lib.hid (HA.out.later hb23 hlt)
    have hbx := below_trans B1 hb23
    clear a0 a1 a2 c1 c2 HA
    obtain ⟨a0, a1, a2⟩ := cellsC HAx.out
    have hn := ne_empty h0
    go_wp2_with (go_at_call 54; refine (rat_any V T 0 _ (by omega) (by omega) (by omega)).mono ?_; rintro e w4 ⟨rfl, hw4⟩; replace hw4 := hw4.symm; subst hw4)
    go_ret
    exact ⟨rfl, hbx⟩

set_option maxRecDepth 100000 in
set_option maxHeartbeats 4000000 in
theorem rholds_end_no (fold : Bool) (t v T V : ByteArray) (w : World) (eT : nS fold t = T) (eV : nS fold v = V) (ht : t.size ≤ 1000000) (hv : v.size ≤ 1000000) (hT : T.size ≤ 1000000) (hV : V.size ≤ 1000000) (h0 : strB T ≠ []) (hl : V.size < T.size) :
    Calls Tryd.prog 22 #[.agg #[.int .i64 6, .string t, .bool fold], .string v] w (Told (.bool false) w) := by
  have hA := Blk.alloc (w := w) [.int .i64 6, .string t, .bool fold] 34
  have B1 : Below w.heap.size w (w.alloc (.cells #[.int .i64 6, .string t, .bool fold] 34)) := (Below.refl _ w).alloc (Nat.le_refl _) _
  obtain ⟨a0, a1, a2⟩ := cellsC hA
  have hlt := hA.lt
  have HA := Lib.hid hA
  clear hA
  cases fold
  · obtain rfl : T = t := eT.symm
    obtain rfl : V = v := eV.symm
    have hbx := B1
    have HAx := HA
    have hn := ne_empty h0
    go_enter Tryd.func22, Tryd.ntmps22
    go_wp2_with (go_at_call 54; refine (rat_neg V T ((V.size : Int) - (T.size : Int)) _ (by omega)).mono ?_; rintro e w4 ⟨rfl, hw4⟩; replace hw4 := hw4.symm; subst hw4)
    go_ret
    exact ⟨rfl, hbx⟩
  · have c1 := fun w => rlower_any t w (by omega)
    have c2 := fun w => rlower_any v w (by omega)
    rw [show lowS t = T from eT] at c1
    rw [show lowS v = V from eV] at c2
    clear eT eV
    go_enter Tryd.func22, Tryd.ntmps22
    go_wp2_with fail
    refine (c1 _).mono ?_
    rintro e w2 ⟨rfl, hb2⟩
    go_wp2_with fail
    refine (c2 _).mono ?_
    rintro e w3 ⟨rfl, hb3⟩
    have hb23 := below_trans hb2 hb3
    have HAx := Lib.hid (HA.out.later hb23 hlt)
    have hbx := below_trans B1 hb23
    clear a0 a1 a2 c1 c2 HA
    obtain ⟨a0, a1, a2⟩ := cellsC HAx.out
    have hn := ne_empty h0
    go_wp2_with (go_at_call 54; refine (rat_neg V T ((V.size : Int) - (T.size : Int)) _ (by omega)).mono ?_; rintro e w4 ⟨rfl, hw4⟩; replace hw4 := hw4.symm; subst hw4)
    go_ret
    exact ⟨rfl, hbx⟩

set_option maxRecDepth 100000 in
set_option maxHeartbeats 4000000 in
theorem rholds_end (fold : Bool) (t v T V : ByteArray) (w : World) (eT : nS fold t = T) (eV : nS fold v = V) (ht : t.size ≤ 1000000) (hv : v.size ≤ 1000000) (hT : T.size ≤ 1000000) (hV : V.size ≤ 1000000) (h0 : strB T ≠ []) (k : Nat) (hl : (V.size : Int) - (T.size : Int) = (k : Int)) :
    Calls Tryd.prog 22 #[.agg #[.int .i64 6, .string t, .bool fold], .string v] w (Told (.bool (atB (strB V) k (strB T))) w) := by
  have hA := Blk.alloc (w := w) [.int .i64 6, .string t, .bool fold] 34
  have B1 : Below w.heap.size w (w.alloc (.cells #[.int .i64 6, .string t, .bool fold] 34)) := (Below.refl _ w).alloc (Nat.le_refl _) _
  obtain ⟨a0, a1, a2⟩ := cellsC hA
  have hlt := hA.lt
  have HA := Lib.hid hA
  clear hA
  cases fold
  · obtain rfl : T = t := eT.symm
    obtain rfl : V = v := eV.symm
    have hbx := B1
    have HAx := HA
    have hn := ne_empty h0
    have hat := fun w => rat_any V T k w (by omega) (by omega) (by omega)
    rw [← hl] at hat
    clear hl
    go_enter Tryd.func22, Tryd.ntmps22
    go_wp2_with (go_at_call 54; refine (hat _).mono ?_; rintro e w4 ⟨rfl, hw4⟩; replace hw4 := hw4.symm; subst hw4)
    go_ret
    exact ⟨rfl, hbx⟩
  · have c1 := fun w => rlower_any t w (by omega)
    have c2 := fun w => rlower_any v w (by omega)
    rw [show lowS t = T from eT] at c1
    rw [show lowS v = V from eV] at c2
    clear eT eV
    go_enter Tryd.func22, Tryd.ntmps22
    go_wp2_with fail
    refine (c1 _).mono ?_
    rintro e w2 ⟨rfl, hb2⟩
    go_wp2_with fail
    refine (c2 _).mono ?_
    rintro e w3 ⟨rfl, hb3⟩
    have hb23 := below_trans hb2 hb3
    have HAx := Lib.hid (HA.out.later hb23 hlt)
    have hbx := below_trans B1 hb23
    clear a0 a1 a2 c1 c2 HA
    obtain ⟨a0, a1, a2⟩ := cellsC HAx.out
    have hn := ne_empty h0
    have hat := fun w => rat_any V T k w (by omega) (by omega) (by omega)
    rw [← hl] at hat
    clear hl
    go_wp2_with (go_at_call 54; refine (hat _).mono ?_; rintro e w4 ⟨rfl, hw4⟩; replace hw4 := hw4.symm; subst hw4)
    go_ret
    exact ⟨rfl, hbx⟩
end Go.Proofs.YtpccakalkcgdeaaDoor
