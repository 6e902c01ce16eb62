/- Whether a condition holds of a value: the program's walk. -/
import Derived.Test.YtkpjkeplbjkigaaDoorVg
namespace Go.Proofs.YtkpjkeplbjkigaaDoor
open Go.RowKit
set_option linter.unusedVariables false

/-- What the library's functions read of package-level variables. -/
def LibW (w : World) : Prop := Lib.Utf8Tabs 2 3 w ∧ ∃ m, w.cell? ⟨0, 0, none⟩ = some (.int .i64 m)
theorem LibW.later {w w' : World} (h : LibW w) (hb : Below w.heap.size w w') : LibW w' := by
  obtain ⟨h1, m, h2⟩ := h
  have hl := tabs_lt h1
  exact ⟨tabs_later hb hl.1 hl.2 h1, m, (hb.cell (p := ⟨0, 0, none⟩) (World.block_lt_of_cell? w _ h2)).trans h2⟩

theorem str_empty (s : ByteArray) (h : strB s = []) : s = ⟨#[]⟩ := strB_inj (by rw [h]; rfl)
theorem isPrefix_dec (t v : List UInt8) : Lib.hasPrefix v t = decide (t <+: v) := by
  unfold Lib.hasPrefix
  rw [Bool.eq_iff_iff, List.isPrefixOf_iff_prefix, decide_eq_true_eq]
theorem isSuffix_dec (t v : List UInt8) : Lib.hasSuffix v t = decide (t <:+ v) := by
  unfold Lib.hasSuffix
  rw [Bool.eq_iff_iff, List.isSuffixOf_iff_suffix, decide_eq_true_eq]
theorem contains_dec (t v : List UInt8) : Lib.contains v t = decide (t <:+: v) := by
  unfold Lib.contains
  rcases Lib.index_spec v t with ⟨h, hno⟩ | ⟨i, h, hi, ho, _⟩
  · rw [h]
    symm
    show decide (t <:+: v) = false
    refine decide_eq_false (fun ⟨a, b, e⟩ => ?_)
    have hl : a.length ≤ v.length := by rw [← e]; simp
    have := hno a.length hl
    unfold Lib.occAt at this
    rw [← e, List.append_assoc, List.drop_left] at this
    have h2 : t.isPrefixOf (t ++ b) = true := by rw [List.isPrefixOf_iff_prefix]; exact List.prefix_append _ _
    rw [h2] at this; cases this
  · rw [h]
    have hd : decide (t <:+: v) = true := by
      refine decide_eq_true ?_
      unfold Lib.occAt at ho
      rw [List.isPrefixOf_iff_prefix] at ho
      exact ho.isInfix.trans (List.drop_suffix _ _).isInfix
    rw [hd]
    simp
    try omega
/-- The text as a condition looks at it. -/
def nS (fold : Bool) (x : ByteArray) : ByteArray := if fold = true then lowS x else x
theorem nS_bytes (fold : Bool) (x : ByteArray) : strB (nS fold x) = nF fold (strB x) := by cases fold <;> simp [nS, nF, strB_low]
theorem nS_size (fold : Bool) (x : ByteArray) : (nS fold x).size = x.size := by cases fold <;> simp [nS, lowS_size]
theorem ne_empty {x : ByteArray} (h : strB x ≠ []) : x.toList.isEmpty = false := by
  rw [ByteArray.toList_eq]
  show (strB x).isEmpty = false
  cases hh : strB x with
  | nil => exact absurd hh h
  | cons _ _ => rfl

set_option maxRecDepth 100000 in
set_option maxHeartbeats 2000000 in
theorem holds_has (fold : Bool) (t v T V : ByteArray) (w : World) (eT : nS fold t = T) (eV : nS fold v = V) (ht : t.size ≤ 1000000) (hv : v.size ≤ 1000000) (hL : LibW w) :
    Calls Tryd.prog 21 #[.agg #[.int .i64 1, .string t, .bool fold], .string v] w (Told (.bool true) w) := by
  have hA := Blk.alloc (w := w) [.int .i64 1, .string t, .bool fold] 34
  have B1 : Below w.heap.size w (w.alloc (.cells #[.int .i64 1, .string t, .bool fold] 34)) := (Below.refl _ w).alloc (Nat.le_refl _) _
  have a0 := hA.cell 0 _ rfl
  have a1 := hA.cell 1 _ rfl
  have a2 := hA.cell 2 _ rfl
  have hlt := hA.lt
  have HA := Lib.hid hA
  have HL := Lib.hid hL
  clear hA hL
  cases fold
  · obtain rfl : T = t := eT.symm
    obtain rfl : V = v := eV.symm
    have hbx := B1
    have HLx := Lib.hid (HL.out.later B1)
    clear HL HA hlt
    go_enter Tryd.func21, Tryd.ntmps21
    go_wp2
    go_ret
    exact ⟨rfl, hbx⟩
  · have c1 := fun w => lower_any t w (by omega)
    have c2 := fun w => lower_any v w (by omega)
    rw [show lowS t = T from eT] at c1
    rw [show lowS v = V from eV] at c2
    clear eT eV
    go_enter Tryd.func21, Tryd.ntmps21
    go_wp2_with fail
    refine (c1 _).mono ?_
    rintro e w2 ⟨rfl, hb2⟩
    go_wp2_with fail
    refine (c2 _).mono ?_
    rintro e w3 ⟨rfl, hb3⟩
    have hb23 := below_trans hb2 hb3
    have a0' := (HA.out.later hb23 hlt).cell 0 _ rfl
    have hbx := below_trans B1 hb23
    have HLx := Lib.hid (HL.out.later hbx)
    clear a0 a1 a2 c1 c2 HA HL
    go_wp2
    go_ret
    exact ⟨rfl, hbx⟩

set_option maxRecDepth 100000 in
set_option maxHeartbeats 2000000 in
theorem holds_word (fold : Bool) (t v T V : ByteArray) (w : World) (eT : nS fold t = T) (eV : nS fold v = V) (ht : t.size ≤ 1000000) (hv : v.size ≤ 1000000) (hV : V.size ≤ 1000000) (hL : LibW w) :
    Calls Tryd.prog 21 #[.agg #[.int .i64 3, .string t, .bool fold], .string v] w (Told (.bool (decide (strB T ∈ words (strB V)))) w) := by
  have hA := Blk.alloc (w := w) [.int .i64 3, .string t, .bool fold] 34
  have B1 : Below w.heap.size w (w.alloc (.cells #[.int .i64 3, .string t, .bool fold] 34)) := (Below.refl _ w).alloc (Nat.le_refl _) _
  have a0 := hA.cell 0 _ rfl
  have a1 := hA.cell 1 _ rfl
  have a2 := hA.cell 2 _ rfl
  have hlt := hA.lt
  have HA := Lib.hid hA
  have HL := Lib.hid hL
  clear hA hL
  cases fold
  · obtain rfl : T = t := eT.symm
    obtain rfl : V = v := eV.symm
    have hbx := B1
    have HLx := Lib.hid (HL.out.later B1)
    clear HL HA hlt
    go_enter Tryd.func21, Tryd.ntmps21
    go_wp2_with fail
    refine (hasWord_any _ _ _ hV HLx.out.1).mono ?_
    rintro e w4 ⟨rfl, hb4⟩
    have hb4' := below_trans hbx hb4
    go_wp2
    go_ret
    exact ⟨rfl, hb4'⟩
  · have c1 := fun w => lower_any t w (by omega)
    have c2 := fun w => lower_any v w (by omega)
    rw [show lowS t = T from eT] at c1
    rw [show lowS v = V from eV] at c2
    clear eT eV
    go_enter Tryd.func21, Tryd.ntmps21
    go_wp2_with fail
    refine (c1 _).mono ?_
    rintro e w2 ⟨rfl, hb2⟩
    go_wp2_with fail
    refine (c2 _).mono ?_
    rintro e w3 ⟨rfl, hb3⟩
    have hb23 := below_trans hb2 hb3
    have a0' := (HA.out.later hb23 hlt).cell 0 _ rfl
    have hbx := below_trans B1 hb23
    have HLx := Lib.hid (HL.out.later hbx)
    clear a0 a1 a2 c1 c2 HA HL
    go_wp2_with fail
    refine (hasWord_any _ _ _ hV HLx.out.1).mono ?_
    rintro e w4 ⟨rfl, hb4⟩
    have hb4' := below_trans hbx hb4
    go_wp2
    go_ret
    exact ⟨rfl, hb4'⟩

set_option maxRecDepth 100000 in
set_option maxHeartbeats 2000000 in
theorem holds_is_y (fold : Bool) (t v T V : ByteArray) (w : World) (eT : nS fold t = T) (eV : nS fold v = V) (ht : t.size ≤ 1000000) (hv : v.size ≤ 1000000) (hq : (V.toList == T.toList) = true) (hL : LibW w) :
    Calls Tryd.prog 21 #[.agg #[.int .i64 2, .string t, .bool fold], .string v] w (Told (.bool true) w) := by
  have hA := Blk.alloc (w := w) [.int .i64 2, .string t, .bool fold] 34
  have B1 : Below w.heap.size w (w.alloc (.cells #[.int .i64 2, .string t, .bool fold] 34)) := (Below.refl _ w).alloc (Nat.le_refl _) _
  have a0 := hA.cell 0 _ rfl
  have a1 := hA.cell 1 _ rfl
  have a2 := hA.cell 2 _ rfl
  have hlt := hA.lt
  have HA := Lib.hid hA
  have HL := Lib.hid hL
  clear hA hL
  cases fold
  · obtain rfl : T = t := eT.symm
    obtain rfl : V = v := eV.symm
    have hbx := B1
    have HLx := Lib.hid (HL.out.later B1)
    clear HL HA hlt
    go_enter Tryd.func21, Tryd.ntmps21
    go_wp2
    go_ret
    exact ⟨rfl, hbx⟩
  · have c1 := fun w => lower_any t w (by omega)
    have c2 := fun w => lower_any v w (by omega)
    rw [show lowS t = T from eT] at c1
    rw [show lowS v = V from eV] at c2
    clear eT eV
    go_enter Tryd.func21, Tryd.ntmps21
    go_wp2_with fail
    refine (c1 _).mono ?_
    rintro e w2 ⟨rfl, hb2⟩
    go_wp2_with fail
    refine (c2 _).mono ?_
    rintro e w3 ⟨rfl, hb3⟩
    have hb23 := below_trans hb2 hb3
    have a0' := (HA.out.later hb23 hlt).cell 0 _ rfl
    have hbx := below_trans B1 hb23
    have HLx := Lib.hid (HL.out.later hbx)
    clear a0 a1 a2 c1 c2 HA HL
    go_wp2
    go_ret
    exact ⟨rfl, hbx⟩

set_option maxRecDepth 100000 in
set_option maxHeartbeats 2000000 in
theorem holds_is_n (fold : Bool) (t v T V : ByteArray) (w : World) (eT : nS fold t = T) (eV : nS fold v = V) (ht : t.size ≤ 1000000) (hv : v.size ≤ 1000000) (hq : (V.toList == T.toList) = false) (hL : LibW w) :
    Calls Tryd.prog 21 #[.agg #[.int .i64 2, .string t, .bool fold], .string v] w (Told (.bool false) w) := by
  have hA := Blk.alloc (w := w) [.int .i64 2, .string t, .bool fold] 34
  have B1 : Below w.heap.size w (w.alloc (.cells #[.int .i64 2, .string t, .bool fold] 34)) := (Below.refl _ w).alloc (Nat.le_refl _) _
  have a0 := hA.cell 0 _ rfl
  have a1 := hA.cell 1 _ rfl
  have a2 := hA.cell 2 _ rfl
  have hlt := hA.lt
  have HA := Lib.hid hA
  have HL := Lib.hid hL
  clear hA hL
  cases fold
  · obtain rfl : T = t := eT.symm
    obtain rfl : V = v := eV.symm
    have hbx := B1
    have HLx := Lib.hid (HL.out.later B1)
    clear HL HA hlt
    go_enter Tryd.func21, Tryd.ntmps21
    go_wp2
    go_ret
    exact ⟨rfl, hbx⟩
  · have c1 := fun w => lower_any t w (by omega)
    have c2 := fun w => lower_any v w (by omega)
    rw [show lowS t = T from eT] at c1
    rw [show lowS v = V from eV] at c2
    clear eT eV
    go_enter Tryd.func21, Tryd.ntmps21
    go_wp2_with fail
    refine (c1 _).mono ?_
    rintro e w2 ⟨rfl, hb2⟩
    go_wp2_with fail
    refine (c2 _).mono ?_
    rintro e w3 ⟨rfl, hb3⟩
    have hb23 := below_trans hb2 hb3
    have a0' := (HA.out.later hb23 hlt).cell 0 _ rfl
    have hbx := below_trans B1 hb23
    have HLx := Lib.hid (HL.out.later hbx)
    clear a0 a1 a2 c1 c2 HA HL
    go_wp2
    go_ret
    exact ⟨rfl, hbx⟩

set_option maxRecDepth 100000 in
set_option maxHeartbeats 2000000 in
theorem holds_begin_0 (fold : Bool) (t v T V : ByteArray) (w : World) (eT : nS fold t = T) (eV : nS fold v = V) (ht : t.size ≤ 1000000) (hv : v.size ≤ 1000000) (h0 : T = ⟨#[]⟩) (hL : LibW w) :
    Calls Tryd.prog 21 #[.agg #[.int .i64 5, .string t, .bool fold], .string v] w (Told (.bool false) w) := by
  have hA := Blk.alloc (w := w) [.int .i64 5, .string t, .bool fold] 34
  have B1 : Below w.heap.size w (w.alloc (.cells #[.int .i64 5, .string t, .bool fold] 34)) := (Below.refl _ w).alloc (Nat.le_refl _) _
  have a0 := hA.cell 0 _ rfl
  have a1 := hA.cell 1 _ rfl
  have a2 := hA.cell 2 _ rfl
  have hlt := hA.lt
  have HA := Lib.hid hA
  have HL := Lib.hid hL
  clear hA hL
  cases fold
  · obtain rfl : T = t := eT.symm
    obtain rfl : V = v := eV.symm
    have hbx := B1
    have HLx := Lib.hid (HL.out.later B1)
    subst h0
    clear HL HA hlt
    go_enter Tryd.func21, Tryd.ntmps21
    go_wp2
    go_ret
    exact ⟨rfl, hbx⟩
  · have c1 := fun w => lower_any t w (by omega)
    have c2 := fun w => lower_any v w (by omega)
    rw [show lowS t = T from eT] at c1
    rw [show lowS v = V from eV] at c2
    clear eT eV
    go_enter Tryd.func21, Tryd.ntmps21
    go_wp2_with fail
    refine (c1 _).mono ?_
    rintro e w2 ⟨rfl, hb2⟩
    go_wp2_with fail
    refine (c2 _).mono ?_
    rintro e w3 ⟨rfl, hb3⟩
    have hb23 := below_trans hb2 hb3
    have a0' := (HA.out.later hb23 hlt).cell 0 _ rfl
    have hbx := below_trans B1 hb23
    have HLx := Lib.hid (HL.out.later hbx)
    clear a0 a1 a2 c1 c2 HA HL
    subst h0
    go_wp2
    go_ret
    exact ⟨rfl, hbx⟩

set_option maxRecDepth 100000 in
set_option maxHeartbeats 2000000 in
theorem holds_begin (fold : Bool) (t v T V : ByteArray) (w : World) (eT : nS fold t = T) (eV : nS fold v = V) (ht : t.size ≤ 1000000) (hv : v.size ≤ 1000000) (h0 : strB T ≠ []) (hV : V.size ≤ 1000000) (hL : LibW w) :
    Calls Tryd.prog 21 #[.agg #[.int .i64 5, .string t, .bool fold], .string v] w (Told (.bool (Lib.hasPrefix (strB V) (strB T))) w) := by
  have hA := Blk.alloc (w := w) [.int .i64 5, .string t, .bool fold] 34
  have B1 : Below w.heap.size w (w.alloc (.cells #[.int .i64 5, .string t, .bool fold] 34)) := (Below.refl _ w).alloc (Nat.le_refl _) _
  have a0 := hA.cell 0 _ rfl
  have a1 := hA.cell 1 _ rfl
  have a2 := hA.cell 2 _ rfl
  have hlt := hA.lt
  have HA := Lib.hid hA
  have HL := Lib.hid hL
  clear hA hL
  cases fold
  · obtain rfl : T = t := eT.symm
    obtain rfl : V = v := eV.symm
    have hbx := B1
    have HLx := Lib.hid (HL.out.later B1)
    have hn := ne_empty h0
    clear HL HA hlt
    go_enter Tryd.func21, Tryd.ntmps21
    go_wp2_with (go_at_call 51; refine (Tryd.strings_HasPrefix V T _).mono ?_; rintro e w4 ⟨rfl, hw4⟩; replace hw4 := hw4.symm; subst hw4)
    go_ret
    exact ⟨rfl, hbx⟩
  · have c1 := fun w => lower_any t w (by omega)
    have c2 := fun w => lower_any v w (by omega)
    rw [show lowS t = T from eT] at c1
    rw [show lowS v = V from eV] at c2
    clear eT eV
    go_enter Tryd.func21, Tryd.ntmps21
    go_wp2_with fail
    refine (c1 _).mono ?_
    rintro e w2 ⟨rfl, hb2⟩
    go_wp2_with fail
    refine (c2 _).mono ?_
    rintro e w3 ⟨rfl, hb3⟩
    have hb23 := below_trans hb2 hb3
    have a0' := (HA.out.later hb23 hlt).cell 0 _ rfl
    have hbx := below_trans B1 hb23
    have HLx := Lib.hid (HL.out.later hbx)
    clear a0 a1 a2 c1 c2 HA HL
    have hn := ne_empty h0
    go_wp2_with (go_at_call 51; refine (Tryd.strings_HasPrefix V T _).mono ?_; rintro e w4 ⟨rfl, hw4⟩; replace hw4 := hw4.symm; subst hw4)
    go_ret
    exact ⟨rfl, hbx⟩

set_option maxRecDepth 100000 in
set_option maxHeartbeats 2000000 in
theorem holds_end_0 (fold : Bool) (t v T V : ByteArray) (w : World) (eT : nS fold t = T) (eV : nS fold v = V) (ht : t.size ≤ 1000000) (hv : v.size ≤ 1000000) (h0 : T = ⟨#[]⟩) (hL : LibW w) :
    Calls Tryd.prog 21 #[.agg #[.int .i64 6, .string t, .bool fold], .string v] w (Told (.bool false) w) := by
  have hA := Blk.alloc (w := w) [.int .i64 6, .string t, .bool fold] 34
  have B1 : Below w.heap.size w (w.alloc (.cells #[.int .i64 6, .string t, .bool fold] 34)) := (Below.refl _ w).alloc (Nat.le_refl _) _
  have a0 := hA.cell 0 _ rfl
  have a1 := hA.cell 1 _ rfl
  have a2 := hA.cell 2 _ rfl
  have hlt := hA.lt
  have HA := Lib.hid hA
  have HL := Lib.hid hL
  clear hA hL
  cases fold
  · obtain rfl : T = t := eT.symm
    obtain rfl : V = v := eV.symm
    have hbx := B1
    have HLx := Lib.hid (HL.out.later B1)
    subst h0
    clear HL HA hlt
    go_enter Tryd.func21, Tryd.ntmps21
    go_wp2
    go_ret
    exact ⟨rfl, hbx⟩
  · have c1 := fun w => lower_any t w (by omega)
    have c2 := fun w => lower_any v w (by omega)
    rw [show lowS t = T from eT] at c1
    rw [show lowS v = V from eV] at c2
    clear eT eV
    go_enter Tryd.func21, Tryd.ntmps21
    go_wp2_with fail
    refine (c1 _).mono ?_
    rintro e w2 ⟨rfl, hb2⟩
    go_wp2_with fail
    refine (c2 _).mono ?_
    rintro e w3 ⟨rfl, hb3⟩
    have hb23 := below_trans hb2 hb3
    have a0' := (HA.out.later hb23 hlt).cell 0 _ rfl
    have hbx := below_trans B1 hb23
    have HLx := Lib.hid (HL.out.later hbx)
    clear a0 a1 a2 c1 c2 HA HL
    subst h0
    go_wp2
    go_ret
    exact ⟨rfl, hbx⟩

set_option maxRecDepth 100000 in
set_option maxHeartbeats 2000000 in
theorem holds_end (fold : Bool) (t v T V : ByteArray) (w : World) (eT : nS fold t = T) (eV : nS fold v = V) (ht : t.size ≤ 1000000) (hv : v.size ≤ 1000000) (h0 : strB T ≠ []) (hV : V.size ≤ 1000000) (hL : LibW w) :
    Calls Tryd.prog 21 #[.agg #[.int .i64 6, .string t, .bool fold], .string v] w (Told (.bool (Lib.hasSuffix (strB V) (strB T))) w) := by
  have hA := Blk.alloc (w := w) [.int .i64 6, .string t, .bool fold] 34
  have B1 : Below w.heap.size w (w.alloc (.cells #[.int .i64 6, .string t, .bool fold] 34)) := (Below.refl _ w).alloc (Nat.le_refl _) _
  have a0 := hA.cell 0 _ rfl
  have a1 := hA.cell 1 _ rfl
  have a2 := hA.cell 2 _ rfl
  have hlt := hA.lt
  have HA := Lib.hid hA
  have HL := Lib.hid hL
  clear hA hL
  cases fold
  · obtain rfl : T = t := eT.symm
    obtain rfl : V = v := eV.symm
    have hbx := B1
    have HLx := Lib.hid (HL.out.later B1)
    have hn := ne_empty h0
    clear HL HA hlt
    go_enter Tryd.func21, Tryd.ntmps21
    go_wp2_with (go_at_call 52; refine (Tryd.strings_HasSuffix V T _ (by omega)).mono ?_; rintro e w4 ⟨rfl, hw4⟩; replace hw4 := hw4.symm; subst hw4)
    go_ret
    exact ⟨rfl, hbx⟩
  · have c1 := fun w => lower_any t w (by omega)
    have c2 := fun w => lower_any v w (by omega)
    rw [show lowS t = T from eT] at c1
    rw [show lowS v = V from eV] at c2
    clear eT eV
    go_enter Tryd.func21, Tryd.ntmps21
    go_wp2_with fail
    refine (c1 _).mono ?_
    rintro e w2 ⟨rfl, hb2⟩
    go_wp2_with fail
    refine (c2 _).mono ?_
    rintro e w3 ⟨rfl, hb3⟩
    have hb23 := below_trans hb2 hb3
    have a0' := (HA.out.later hb23 hlt).cell 0 _ rfl
    have hbx := below_trans B1 hb23
    have HLx := Lib.hid (HL.out.later hbx)
    clear a0 a1 a2 c1 c2 HA HL
    have hn := ne_empty h0
    go_wp2_with (go_at_call 52; refine (Tryd.strings_HasSuffix V T _ (by omega)).mono ?_; rintro e w4 ⟨rfl, hw4⟩; replace hw4 := hw4.symm; subst hw4)
    go_ret
    exact ⟨rfl, hbx⟩

set_option maxRecDepth 100000 in
set_option maxHeartbeats 2000000 in
theorem holds_part_0 (fold : Bool) (t v T V : ByteArray) (w : World) (eT : nS fold t = T) (eV : nS fold v = V) (ht : t.size ≤ 1000000) (hv : v.size ≤ 1000000) (h0 : T = ⟨#[]⟩) (hL : LibW w) :
    Calls Tryd.prog 21 #[.agg #[.int .i64 7, .string t, .bool fold], .string v] w (Told (.bool false) w) := by
  have hA := Blk.alloc (w := w) [.int .i64 7, .string t, .bool fold] 34
  have B1 : Below w.heap.size w (w.alloc (.cells #[.int .i64 7, .string t, .bool fold] 34)) := (Below.refl _ w).alloc (Nat.le_refl _) _
  have a0 := hA.cell 0 _ rfl
  have a1 := hA.cell 1 _ rfl
  have a2 := hA.cell 2 _ rfl
  have hlt := hA.lt
  have HA := Lib.hid hA
  have HL := Lib.hid hL
  clear hA hL
  cases fold
  · obtain rfl : T = t := eT.symm
    obtain rfl : V = v := eV.symm
    have hbx := B1
    have HLx := Lib.hid (HL.out.later B1)
    subst h0
    clear HL HA hlt
    go_enter Tryd.func21, Tryd.ntmps21
    go_wp2
    go_ret
    exact ⟨rfl, hbx⟩
  · have c1 := fun w => lower_any t w (by omega)
    have c2 := fun w => lower_any v w (by omega)
    rw [show lowS t = T from eT] at c1
    rw [show lowS v = V from eV] at c2
    clear eT eV
    go_enter Tryd.func21, Tryd.ntmps21
    go_wp2_with fail
    refine (c1 _).mono ?_
    rintro e w2 ⟨rfl, hb2⟩
    go_wp2_with fail
    refine (c2 _).mono ?_
    rintro e w3 ⟨rfl, hb3⟩
    have hb23 := below_trans hb2 hb3
    have a0' := (HA.out.later hb23 hlt).cell 0 _ rfl
    have hbx := below_trans B1 hb23
    have HLx := Lib.hid (HL.out.later hbx)
    clear a0 a1 a2 c1 c2 HA HL
    subst h0
    go_wp2
    go_ret
    exact ⟨rfl, hbx⟩

set_option maxRecDepth 100000 in
set_option maxHeartbeats 2000000 in
theorem holds_part (fold : Bool) (t v T V : ByteArray) (w : World) (eT : nS fold t = T) (eV : nS fold v = V) (ht : t.size ≤ 1000000) (hv : v.size ≤ 1000000) (h0 : strB T ≠ []) (hV : V.size ≤ 1000000) (hL : LibW w) :
    Calls Tryd.prog 21 #[.agg #[.int .i64 7, .string t, .bool fold], .string v] w (Told (.bool (Lib.contains (strB V) (strB T))) w) := by
  have hA := Blk.alloc (w := w) [.int .i64 7, .string t, .bool fold] 34
  have B1 : Below w.heap.size w (w.alloc (.cells #[.int .i64 7, .string t, .bool fold] 34)) := (Below.refl _ w).alloc (Nat.le_refl _) _
  have a0 := hA.cell 0 _ rfl
  have a1 := hA.cell 1 _ rfl
  have a2 := hA.cell 2 _ rfl
  have hlt := hA.lt
  have HA := Lib.hid hA
  have HL := Lib.hid hL
  clear hA hL
  cases fold
  · obtain rfl : T = t := eT.symm
    obtain rfl : V = v := eV.symm
    have hbx := B1
    have HLx := Lib.hid (HL.out.later B1)
    have hn := ne_empty h0
    obtain ⟨m, hm⟩ := HLx.out.2
    clear HL HA hlt
    go_enter Tryd.func21, Tryd.ntmps21
    go_wp2_with (go_at_call 53; refine (Tryd.strings_Contains V T m _ (by omega) hm).mono ?_; rintro e w4 ⟨rfl, hw4⟩; replace hw4 := hw4.symm; subst hw4)
    go_ret
    exact ⟨rfl, hbx⟩
  · have c1 := fun w => lower_any t w (by omega)
    have c2 := fun w => lower_any v w (by omega)
    rw [show lowS t = T from eT] at c1
    rw [show lowS v = V from eV] at c2
    clear eT eV
    go_enter Tryd.func21, Tryd.ntmps21
    go_wp2_with fail
    refine (c1 _).mono ?_
    rintro e w2 ⟨rfl, hb2⟩
    go_wp2_with fail
    refine (c2 _).mono ?_
    rintro e w3 ⟨rfl, hb3⟩
    have hb23 := below_trans hb2 hb3
    have a0' := (HA.out.later hb23 hlt).cell 0 _ rfl
    have hbx := below_trans B1 hb23
    have HLx := Lib.hid (HL.out.later hbx)
    clear a0 a1 a2 c1 c2 HA HL
    have hn := ne_empty h0
    obtain ⟨m, hm⟩ := HLx.out.2
    go_wp2_with (go_at_call 53; refine (Tryd.strings_Contains V T m _ (by omega) hm).mono ?_; rintro e w4 ⟨rfl, hw4⟩; replace hw4 := hw4.symm; subst hw4)
    go_ret
    exact ⟨rfl, hbx⟩

set_option maxRecDepth 100000 in
set_option maxHeartbeats 2000000 in
theorem holds_dash_no (fold : Bool) (t v T V : ByteArray) (w : World) (eT : nS fold t = T) (eV : nS fold v = V) (ht : t.size ≤ 1000000) (hv : v.size ≤ 1000000) (R : ByteArray) (hR : (⟨(Lib.trimPrefix (strB V) (strB T)).toArray⟩ : ByteArray) = R) (hp : Lib.hasPrefix (strB V) (strB T) = false) (hL : LibW w) :
    Calls Tryd.prog 21 #[.agg #[.int .i64 4, .string t, .bool fold], .string v] w (Told (.bool false) w) := by
  have hA := Blk.alloc (w := w) [.int .i64 4, .string t, .bool fold] 34
  have B1 : Below w.heap.size w (w.alloc (.cells #[.int .i64 4, .string t, .bool fold] 34)) := (Below.refl _ w).alloc (Nat.le_refl _) _
  have a0 := hA.cell 0 _ rfl
  have a1 := hA.cell 1 _ rfl
  have a2 := hA.cell 2 _ rfl
  have hlt := hA.lt
  have HA := Lib.hid hA
  have HL := Lib.hid hL
  clear hA hL
  cases fold
  · obtain rfl : T = t := eT.symm
    obtain rfl : V = v := eV.symm
    have hbx := B1
    have HLx := Lib.hid (HL.out.later B1)
    have cP := fun w => Tryd.strings_CutPrefix V T w
    rw [show (⟨(Lib.trimPrefix V.data.toList T.data.toList).toArray⟩ : ByteArray) = R from hR, show Lib.hasPrefix V.data.toList T.data.toList = false from hp] at cP
    clear HL HA hlt
    go_enter Tryd.func21, Tryd.ntmps21
    go_wp2_with (go_at_call 50; refine (cP _).mono ?_; rintro e w4 ⟨rfl, hw4⟩; replace hw4 := hw4.symm; subst hw4)
    go_ret
    exact ⟨rfl, hbx⟩
  · have c1 := fun w => lower_any t w (by omega)
    have c2 := fun w => lower_any v w (by omega)
    rw [show lowS t = T from eT] at c1
    rw [show lowS v = V from eV] at c2
    clear eT eV
    go_enter Tryd.func21, Tryd.ntmps21
    go_wp2_with fail
    refine (c1 _).mono ?_
    rintro e w2 ⟨rfl, hb2⟩
    go_wp2_with fail
    refine (c2 _).mono ?_
    rintro e w3 ⟨rfl, hb3⟩
    have hb23 := below_trans hb2 hb3
    have a0' := (HA.out.later hb23 hlt).cell 0 _ rfl
    have hbx := below_trans B1 hb23
    have HLx := Lib.hid (HL.out.later hbx)
    clear a0 a1 a2 c1 c2 HA HL
    have cP := fun w => Tryd.strings_CutPrefix V T w
    rw [show (⟨(Lib.trimPrefix V.data.toList T.data.toList).toArray⟩ : ByteArray) = R from hR, show Lib.hasPrefix V.data.toList T.data.toList = false from hp] at cP
    go_wp2_with (go_at_call 50; refine (cP _).mono ?_; rintro e w4 ⟨rfl, hw4⟩; replace hw4 := hw4.symm; subst hw4)
    go_ret
    exact ⟨rfl, hbx⟩

set_option maxRecDepth 100000 in
set_option maxHeartbeats 2000000 in
theorem holds_dash_all (fold : Bool) (t v T V : ByteArray) (w : World) (eT : nS fold t = T) (eV : nS fold v = V) (ht : t.size ≤ 1000000) (hv : v.size ≤ 1000000) (R : ByteArray) (hR : (⟨(Lib.trimPrefix (strB V) (strB T)).toArray⟩ : ByteArray) = R) (hp : Lib.hasPrefix (strB V) (strB T) = true) (h0 : R = ⟨#[]⟩) (hL : LibW w) :
    Calls Tryd.prog 21 #[.agg #[.int .i64 4, .string t, .bool fold], .string v] w (Told (.bool true) w) := by
  have hA := Blk.alloc (w := w) [.int .i64 4, .string t, .bool fold] 34
  have B1 : Below w.heap.size w (w.alloc (.cells #[.int .i64 4, .string t, .bool fold] 34)) := (Below.refl _ w).alloc (Nat.le_refl _) _
  have a0 := hA.cell 0 _ rfl
  have a1 := hA.cell 1 _ rfl
  have a2 := hA.cell 2 _ rfl
  have hlt := hA.lt
  have HA := Lib.hid hA
  have HL := Lib.hid hL
  clear hA hL
  cases fold
  · obtain rfl : T = t := eT.symm
    obtain rfl : V = v := eV.symm
    have hbx := B1
    have HLx := Lib.hid (HL.out.later B1)
    have cP := fun w => Tryd.strings_CutPrefix V T w
    rw [show (⟨(Lib.trimPrefix V.data.toList T.data.toList).toArray⟩ : ByteArray) = R from hR, show Lib.hasPrefix V.data.toList T.data.toList = true from hp] at cP
    subst h0
    clear HL HA hlt
    go_enter Tryd.func21, Tryd.ntmps21
    go_wp2_with (go_at_call 50; refine (cP _).mono ?_; rintro e w4 ⟨rfl, hw4⟩; replace hw4 := hw4.symm; subst hw4)
    go_ret
    exact ⟨rfl, hbx⟩
  · have c1 := fun w => lower_any t w (by omega)
    have c2 := fun w => lower_any v w (by omega)
    rw [show lowS t = T from eT] at c1
    rw [show lowS v = V from eV] at c2
    clear eT eV
    go_enter Tryd.func21, Tryd.ntmps21
    go_wp2_with fail
    refine (c1 _).mono ?_
    rintro e w2 ⟨rfl, hb2⟩
    go_wp2_with fail
    refine (c2 _).mono ?_
    rintro e w3 ⟨rfl, hb3⟩
    have hb23 := below_trans hb2 hb3
    have a0' := (HA.out.later hb23 hlt).cell 0 _ rfl
    have hbx := below_trans B1 hb23
    have HLx := Lib.hid (HL.out.later hbx)
    clear a0 a1 a2 c1 c2 HA HL
    have cP := fun w => Tryd.strings_CutPrefix V T w
    rw [show (⟨(Lib.trimPrefix V.data.toList T.data.toList).toArray⟩ : ByteArray) = R from hR, show Lib.hasPrefix V.data.toList T.data.toList = true from hp] at cP
    subst h0
    go_wp2_with (go_at_call 50; refine (cP _).mono ?_; rintro e w4 ⟨rfl, hw4⟩; replace hw4 := hw4.symm; subst hw4)
    go_ret
    exact ⟨rfl, hbx⟩

set_option maxRecDepth 100000 in
set_option maxHeartbeats 2000000 in
theorem holds_dash_true (fold : Bool) (t v T V : ByteArray) (w : World) (eT : nS fold t = T) (eV : nS fold v = V) (ht : t.size ≤ 1000000) (hv : v.size ≤ 1000000) (R : ByteArray) (hR : (⟨(Lib.trimPrefix (strB V) (strB T)).toArray⟩ : ByteArray) = R) (hp : Lib.hasPrefix (strB V) (strB T) = true) (h0 : 0 < R.size) (h1 : ((((R[0]'h0).toNat : Nat) : Int) == 45) = true) (hL : LibW w) :
    Calls Tryd.prog 21 #[.agg #[.int .i64 4, .string t, .bool fold], .string v] w (Told (.bool true) w) := by
  have hA := Blk.alloc (w := w) [.int .i64 4, .string t, .bool fold] 34
  have B1 : Below w.heap.size w (w.alloc (.cells #[.int .i64 4, .string t, .bool fold] 34)) := (Below.refl _ w).alloc (Nat.le_refl _) _
  have a0 := hA.cell 0 _ rfl
  have a1 := hA.cell 1 _ rfl
  have a2 := hA.cell 2 _ rfl
  have hlt := hA.lt
  have HA := Lib.hid hA
  have HL := Lib.hid hL
  clear hA hL
  cases fold
  · obtain rfl : T = t := eT.symm
    obtain rfl : V = v := eV.symm
    have hbx := B1
    have HLx := Lib.hid (HL.out.later B1)
    have cP := fun w => Tryd.strings_CutPrefix V T w
    rw [show (⟨(Lib.trimPrefix V.data.toList T.data.toList).toArray⟩ : ByteArray) = R from hR, show Lib.hasPrefix V.data.toList T.data.toList = true from hp] at cP
    have hn0 := ne_empty (x := R) (by intro e; rw [← strB_len, e] at h0; simp at h0)
    have h0' : (0 : Int) < (R.size : Int) := by omega
    clear hR
    clear HL HA hlt
    go_enter Tryd.func21, Tryd.ntmps21
    go_wp2_with (go_at_call 50; refine (cP _).mono ?_; rintro e w4 ⟨rfl, hw4⟩; replace hw4 := hw4.symm; subst hw4)
    go_ret
    exact ⟨rfl, hbx⟩
  · have c1 := fun w => lower_any t w (by omega)
    have c2 := fun w => lower_any v w (by omega)
    rw [show lowS t = T from eT] at c1
    rw [show lowS v = V from eV] at c2
    clear eT eV
    go_enter Tryd.func21, Tryd.ntmps21
    go_wp2_with fail
    refine (c1 _).mono ?_
    rintro e w2 ⟨rfl, hb2⟩
    go_wp2_with fail
    refine (c2 _).mono ?_
    rintro e w3 ⟨rfl, hb3⟩
    have hb23 := below_trans hb2 hb3
    have a0' := (HA.out.later hb23 hlt).cell 0 _ rfl
    have hbx := below_trans B1 hb23
    have HLx := Lib.hid (HL.out.later hbx)
    clear a0 a1 a2 c1 c2 HA HL
    have cP := fun w => Tryd.strings_CutPrefix V T w
    rw [show (⟨(Lib.trimPrefix V.data.toList T.data.toList).toArray⟩ : ByteArray) = R from hR, show Lib.hasPrefix V.data.toList T.data.toList = true from hp] at cP
    have hn0 := ne_empty (x := R) (by intro e; rw [← strB_len, e] at h0; simp at h0)
    have h0' : (0 : Int) < (R.size : Int) := by omega
    clear hR
    go_wp2_with (go_at_call 50; refine (cP _).mono ?_; rintro e w4 ⟨rfl, hw4⟩; replace hw4 := hw4.symm; subst hw4)
    go_ret
    exact ⟨rfl, hbx⟩

set_option maxRecDepth 100000 in
set_option maxHeartbeats 2000000 in
theorem holds_dash_false (fold : Bool) (t v T V : ByteArray) (w : World) (eT : nS fold t = T) (eV : nS fold v = V) (ht : t.size ≤ 1000000) (hv : v.size ≤ 1000000) (R : ByteArray) (hR : (⟨(Lib.trimPrefix (strB V) (strB T)).toArray⟩ : ByteArray) = R) (hp : Lib.hasPrefix (strB V) (strB T) = true) (h0 : 0 < R.size) (h1 : ((((R[0]'h0).toNat : Nat) : Int) == 45) = false) (hL : LibW w) :
    Calls Tryd.prog 21 #[.agg #[.int .i64 4, .string t, .bool fold], .string v] w (Told (.bool false) w) := by
  have hA := Blk.alloc (w := w) [.int .i64 4, .string t, .bool fold] 34
  have B1 : Below w.heap.size w (w.alloc (.cells #[.int .i64 4, .string t, .bool fold] 34)) := (Below.refl _ w).alloc (Nat.le_refl _) _
  have a0 := hA.cell 0 _ rfl
  have a1 := hA.cell 1 _ rfl
  have a2 := hA.cell 2 _ rfl
  have hlt := hA.lt
  have HA := Lib.hid hA
  have HL := Lib.hid hL
  clear hA hL
  cases fold
  · obtain rfl : T = t := eT.symm
    obtain rfl : V = v := eV.symm
    have hbx := B1
    have HLx := Lib.hid (HL.out.later B1)
    have cP := fun w => Tryd.strings_CutPrefix V T w
    rw [show (⟨(Lib.trimPrefix V.data.toList T.data.toList).toArray⟩ : ByteArray) = R from hR, show Lib.hasPrefix V.data.toList T.data.toList = true from hp] at cP
    have hn0 := ne_empty (x := R) (by intro e; rw [← strB_len, e] at h0; simp at h0)
    have h0' : (0 : Int) < (R.size : Int) := by omega
    clear hR
    clear HL HA hlt
    go_enter Tryd.func21, Tryd.ntmps21
    go_wp2_with (go_at_call 50; refine (cP _).mono ?_; rintro e w4 ⟨rfl, hw4⟩; replace hw4 := hw4.symm; subst hw4)
    go_ret
    exact ⟨rfl, hbx⟩
  · have c1 := fun w => lower_any t w (by omega)
    have c2 := fun w => lower_any v w (by omega)
    rw [show lowS t = T from eT] at c1
    rw [show lowS v = V from eV] at c2
    clear eT eV
    go_enter Tryd.func21, Tryd.ntmps21
    go_wp2_with fail
    refine (c1 _).mono ?_
    rintro e w2 ⟨rfl, hb2⟩
    go_wp2_with fail
    refine (c2 _).mono ?_
    rintro e w3 ⟨rfl, hb3⟩
    have hb23 := below_trans hb2 hb3
    have a0' := (HA.out.later hb23 hlt).cell 0 _ rfl
    have hbx := below_trans B1 hb23
    have HLx := Lib.hid (HL.out.later hbx)
    clear a0 a1 a2 c1 c2 HA HL
    have cP := fun w => Tryd.strings_CutPrefix V T w
    rw [show (⟨(Lib.trimPrefix V.data.toList T.data.toList).toArray⟩ : ByteArray) = R from hR, show Lib.hasPrefix V.data.toList T.data.toList = true from hp] at cP
    have hn0 := ne_empty (x := R) (by intro e; rw [← strB_len, e] at h0; simp at h0)
    have h0' : (0 : Int) < (R.size : Int) := by omega
    clear hR
    go_wp2_with (go_at_call 50; refine (cP _).mono ?_; rintro e w4 ⟨rfl, hw4⟩; replace hw4 := hw4.symm; subst hw4)
    go_ret
    exact ⟨rfl, hbx⟩

set_option maxRecDepth 100000 in
set_option maxHeartbeats 2000000 in
theorem holds_none (op : Int) (fold : Bool) (t v T V : ByteArray) (w : World) (eT : nS fold t = T) (eV : nS fold v = V) (hop : op < 1 ∨ 7 < op) (ht : t.size ≤ 1000000) (hv : v.size ≤ 1000000) (hL : LibW w) :
    Calls Tryd.prog 21 #[.agg #[.int .i64 op, .string t, .bool fold], .string v] w (Told (.bool false) w) := by
  have n1 : (op == 1) = false := beq_eq_false_iff_ne.2 (by omega)
  have n2 : (op == 2) = false := beq_eq_false_iff_ne.2 (by omega)
  have n3 : (op == 3) = false := beq_eq_false_iff_ne.2 (by omega)
  have n4 : (op == 4) = false := beq_eq_false_iff_ne.2 (by omega)
  have n5 : (op == 5) = false := beq_eq_false_iff_ne.2 (by omega)
  have n6 : (op == 6) = false := beq_eq_false_iff_ne.2 (by omega)
  have n7 : (op == 7) = false := beq_eq_false_iff_ne.2 (by omega)
  have hA := Blk.alloc (w := w) [.int .i64 op, .string t, .bool fold] 34
  have B1 : Below w.heap.size w (w.alloc (.cells #[.int .i64 op, .string t, .bool fold] 34)) := (Below.refl _ w).alloc (Nat.le_refl _) _
  have a0 := hA.cell 0 _ rfl
  have a1 := hA.cell 1 _ rfl
  have a2 := hA.cell 2 _ rfl
  have hlt := hA.lt
  have HA := Lib.hid hA
  have HL := Lib.hid hL
  clear hA hL
  cases fold
  · obtain rfl : T = t := eT.symm
    obtain rfl : V = v := eV.symm
    have hbx := B1
    have HLx := Lib.hid (HL.out.later B1)
    clear HL HA hlt
    go_enter Tryd.func21, Tryd.ntmps21
    go_wp2
    go_ret
    exact ⟨rfl, hbx⟩
  · have c1 := fun w => lower_any t w (by omega)
    have c2 := fun w => lower_any v w (by omega)
    rw [show lowS t = T from eT] at c1
    rw [show lowS v = V from eV] at c2
    clear eT eV
    go_enter Tryd.func21, Tryd.ntmps21
    go_wp2_with fail
    refine (c1 _).mono ?_
    rintro e w2 ⟨rfl, hb2⟩
    go_wp2_with fail
    refine (c2 _).mono ?_
    rintro e w3 ⟨rfl, hb3⟩
    have hb23 := below_trans hb2 hb3
    have a0' := (HA.out.later hb23 hlt).cell 0 _ rfl
    have hbx := below_trans B1 hb23
    have HLx := Lib.hid (HL.out.later hbx)
    clear a0 a1 a2 c1 c2 HA HL
    go_wp2
    go_ret
    exact ⟨rfl, hbx⟩

end Go.Proofs.YtkpjkeplbjkigaaDoor
