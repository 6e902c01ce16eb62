/- The example's tree: its elements and those ahead of them: walks. -/
import Derived.Test.YtfgnepbpfglepaaDn3
import Derived.Deep.RegionWith
namespace Go.Proofs.Ytfgnepbpfglepaa
open Go.RowKit
set_option linter.unusedVariables false
set_option linter.unusedSimpArgs false

/-- The tree of the example's document, as New leaves it: its rows, the kinds of its nodes, the places ahead. -/
structure Tree0 (w : World) (t b c r d : Nat) : Prop where
  doc : w.cell? ⟨t, 0, none⟩ = some (.slice (some ⟨b, 0, none⟩) 3 c)
  row : w.cell? ⟨t, 1, none⟩ = some (.slice (some ⟨r, 0, none⟩) 3 d)
  k0 : w.cell? ⟨b, 1, none⟩ = some (.int .i64 1)
  k1 : w.cell? ⟨b, 8, none⟩ = some (.int .i64 1)
  k2 : w.cell? ⟨b, 15, none⟩ = some (.int .i64 1)
  a0 : w.cell? ⟨r, 0, none⟩ = some (.int .i64 (-1))
  a1 : w.cell? ⟨r, 1, none⟩ = some (.int .i64 (-1))
  a2 : w.cell? ⟨r, 2, none⟩ = some (.int .i64 1)
  lt : t < w.heap.size ∧ b < w.heap.size ∧ r < w.heap.size
theorem Tree0.later {w w' : World} {t b c r d : Nat} (h : Tree0 w t b c r d) (hb : Below w.heap.size w w') : Tree0 w' t b c r d :=
  ⟨(hb.cell (p := ⟨t, 0, none⟩) h.lt.1).trans h.doc, (hb.cell (p := ⟨t, 1, none⟩) h.lt.1).trans h.row, (hb.cell (p := ⟨b, 1, none⟩) h.lt.2.1).trans h.k0, (hb.cell (p := ⟨b, 8, none⟩) h.lt.2.1).trans h.k1, (hb.cell (p := ⟨b, 15, none⟩) h.lt.2.1).trans h.k2,
   (hb.cell (p := ⟨r, 0, none⟩) h.lt.2.2).trans h.a0, (hb.cell (p := ⟨r, 1, none⟩) h.lt.2.2).trans h.a1, (hb.cell (p := ⟨r, 2, none⟩) h.lt.2.2).trans h.a2,
   Nat.lt_of_lt_of_le h.lt.1 hb.size, Nat.lt_of_lt_of_le h.lt.2.1 hb.size, Nat.lt_of_lt_of_le h.lt.2.2 hb.size⟩

set_option maxRecDepth 100000 in
set_option maxHeartbeats 4000000 in
theorem has_0 (t b c r d k : Nat) (w : World) (h : Tree0 w t b c r d) (hk : k < 3) : Calls Try.prog 67 #[.pointer (some ⟨t, 0, none⟩), .int .i64 (k : Nat)] w (Told (.bool true) w) := by
  have c0 := h.doc
  rcases (show k = 0 ∨ k = 1 ∨ k = 2 by omega) with rfl | rfl | rfl
  all_goals
    go_enter Try.func67, Try.ntmps67
    go_wp2
    go_ret
    exact ⟨rfl, Below.refl _ _⟩

set_option maxRecDepth 100000 in
set_option maxHeartbeats 4000000 in
theorem isElement_0 (t b c r d k : Nat) (w : World) (h : Tree0 w t b c r d) (hk : k < 3) : Calls Try.prog 43 #[.pointer (some ⟨t, 0, none⟩), .int .i64 (k : Nat)] w (Told (.bool true) w) := by
  have f0 := has_0 t b c r d k w h hk
  have HT := Lib.hid h
  clear h
  rcases (show k = 0 ∨ k = 1 ∨ k = 2 by omega) with rfl | rfl | rfl
  all_goals
    go_enter Try.func43, Try.ntmps43
    go_wp2_with (first | (go_at_call 67; (refine f0.mono ?_); rintro e w1 ⟨rfl, hb1⟩; have T1 := HT.out.later hb1; have c0 := T1.doc; have c1 := T1.k0; have c2 := T1.k1; have c3 := T1.k2; clear T1))
    go_ret
    exact ⟨rfl, hb1⟩

def aheadK : Nat → Value
  | 2 => .tuple #[.int .i64 1, .bool true]
  | _ => .tuple #[.int .i64 0, .bool false]
set_option maxRecDepth 100000 in
set_option maxHeartbeats 4000000 in
theorem place_0 (w : World) : Calls Try.prog 47 #[.int .i64 (-1)] w (Told (.tuple #[.int .i64 0, .bool false]) w) := by
  go_enter Try.func47, Try.ntmps47
  go_wp2
  refine bodyPost_ret (v := .tuple #[.int .i64 0, .bool false]) (by simp [results, Try.results47, go_sem]) rfl ⟨rfl, Below.refl _ _⟩
set_option maxRecDepth 100000 in
set_option maxHeartbeats 4000000 in
theorem place_1 (w : World) : Calls Try.prog 47 #[.int .i64 1] w (Told (.tuple #[.int .i64 1, .bool true]) w) := by
  go_enter Try.func47, Try.ntmps47
  go_wp2
  refine bodyPost_ret (v := .tuple #[.int .i64 1, .bool true]) (by simp [results, Try.results47, go_sem]) rfl ⟨rfl, Below.refl _ _⟩
set_option maxRecDepth 100000 in
set_option maxHeartbeats 4000000 in
theorem ahead_0 (t b c r d k : Nat) (w : World) (h : Tree0 w t b c r d) (hk : k < 3) : Calls Try.prog 23 #[.pointer (some ⟨t, 0, none⟩), .int .i64 (k : Nat)] w (Told (aheadK k) w) := by
  have f0 := isElement_0 t b c r d k w h hk
  have p0 := fun w => place_0 w
  have p1 := fun w => place_1 w
  have HT := Lib.hid h
  clear h
  rcases (show k = 0 ∨ k = 1 ∨ k = 2 by omega) with rfl | rfl | rfl
  all_goals
    go_enter Try.func23, Try.ntmps23
    go_wp2_with (first
      | (go_at_call 43; (refine f0.mono ?_); rintro e w1 ⟨rfl, hb1⟩; have T1 := HT.out.later hb1; have c0 := T1.row; have c1 := T1.a0; have c2 := T1.a1; have c3 := T1.a2; clear T1)
      | (go_at_call 47; (first | (refine (p0 _).mono ?_) | (refine (p1 _).mono ?_)); rintro e w2 ⟨rfl, hb2⟩; have hb3 := hb1.trans (hb2.mono hb1.size)))
    first
      | refine bodyPost_ret (v := .tuple #[.int .i64 0, .bool false]) (by simp [results, Try.results23, go_sem]) rfl ⟨rfl, hb3⟩
      | refine bodyPost_ret (v := .tuple #[.int .i64 1, .bool true]) (by simp [results, Try.results23, go_sem]) rfl ⟨rfl, hb3⟩
end Go.Proofs.Ytfgnepbpfglepaa
