/- The document's examples of conditions; ValueJoined: the law's walk. -/
import Derived.Test.YtpccakalkcgdeaaDoorVj
namespace Go.Proofs.YtpccakalkcgdeaaDoor
open Go.RowKit
set_option linter.unusedVariables false
set_option linter.unusedSimpArgs false

theorem size32 : (⟨#[32]⟩ : ByteArray).size = 1 := rfl
theorem size9 : (⟨#[9]⟩ : ByteArray).size = 1 := rfl
theorem size45 : (⟨#[45]⟩ : ByteArray).size = 1 := rfl
theorem cells3 {w : World} {p : Nat} {x y z : Value} (h : Blk w p [x, y, z] 34) : w.cell? ⟨p, 0, none⟩ = some x ∧ w.cell? ⟨p, 1, none⟩ = some y ∧ w.cell? ⟨p, 2, none⟩ = some z := ⟨h.cell 0 _ rfl, h.cell 1 _ rfl, h.cell 2 _ rfl⟩

set_option maxRecDepth 100000 in
set_option maxHeartbeats 4000000 in
theorem speaks6_any (w : World) (hL : LibW w) : Calls Tryd.prog 20 #[] w (Told (.bool true) w) := by
  have c1 := fun w h => holds_any 3 false ⟨#[98]⟩ ⟨#[97, 32, 98]⟩ w (by decide) (by decide) h
  have c2 := fun w h => holds_any 3 false ⟨#[98]⟩ ⟨#[97, 98]⟩ w (by decide) (by decide) h
  have c3 := fun w h => holds_any 4 false ⟨#[101, 110]⟩ ⟨#[101, 110, 45, 85, 83]⟩ w (by decide) (by decide) h
  have c4 := fun w h => holds_any 4 false ⟨#[101, 110]⟩ ⟨#[101, 110, 103, 108, 105, 115, 104]⟩ w (by decide) (by decide) h
  rw [show holdsF 3 (strB ⟨#[98]⟩) false (strB ⟨#[97, 32, 98]⟩) = true by decide +kernel] at c1
  rw [show holdsF 3 (strB ⟨#[98]⟩) false (strB ⟨#[97, 98]⟩) = false by decide +kernel] at c2
  rw [show holdsF 4 (strB ⟨#[101, 110]⟩) false (strB ⟨#[101, 110, 45, 85, 83]⟩) = true by decide +kernel] at c3
  rw [show holdsF 4 (strB ⟨#[101, 110]⟩) false (strB ⟨#[101, 110, 103, 108, 105, 115, 104]⟩) = false by decide +kernel] at c4
  go_enter Tryd.func20, Tryd.ntmps20
  have hA := (Blk.alloc (w := w) [.int .i64 3, .string ⟨#[98]⟩, .bool false] 34).alloc_old (.cells #[.int .i64 4, .string ⟨#[101, 110]⟩, .bool false] 34)
  have hB := Blk.alloc (w := w.alloc (.cells #[.int .i64 3, .string ⟨#[98]⟩, .bool false] 34)) [.int .i64 4, .string ⟨#[101, 110]⟩, .bool false] 34
  have B0 : Below w.heap.size w ((w.alloc (.cells #[.int .i64 3, .string ⟨#[98]⟩, .bool false] 34)).alloc (.cells #[.int .i64 4, .string ⟨#[101, 110]⟩, .bool false] 34)) := ((Below.refl _ w).alloc (Nat.le_refl _) _).alloc (by simp) _
  have hs : (w.alloc (.cells #[.int .i64 3, .string ⟨#[98]⟩, .bool false] 34)).heap.size = w.heap.size + 1 := by simp
  rw [hs] at hB
  have HA := Lib.hid hA
  have HB := Lib.hid hB
  have HL := Lib.hid hL
  clear hA hB hL hs
  go_wp2_with fail
  refine (c1 _ (HL.out.later B0)).mono ?_
  rintro e w1 ⟨rfl, hb1⟩
  have HA1 := Lib.hid (HA.out.later hb1 HA.out.lt)
  have HB1 := Lib.hid (HB.out.later hb1 HB.out.lt)
  have B1 := below_trans B0 hb1
  obtain ⟨x0, x1, x2⟩ := cells3 HA1.out
  clear HA HB c1
  go_wp2_with fail
  refine (c2 _ (HL.out.later B1)).mono ?_
  rintro e w2 ⟨rfl, hb2⟩
  have HB2 := Lib.hid (HB1.out.later hb2 HB1.out.lt)
  have B2 := below_trans B1 hb2
  obtain ⟨x0, x1, x2⟩ := cells3 HB2.out
  clear HA1 HB1 c2
  go_wp2_with fail
  refine (c3 _ (HL.out.later B2)).mono ?_
  rintro e w3 ⟨rfl, hb3⟩
  have HB3 := Lib.hid (HB2.out.later hb3 HB2.out.lt)
  have B3 := below_trans B2 hb3
  obtain ⟨x0, x1, x2⟩ := cells3 HB3.out
  clear HB2 c3
  go_wp2_with fail
  refine (c4 _ (HL.out.later B3)).mono ?_
  rintro e w4 ⟨rfl, hb4⟩
  have B4 := below_trans B3 hb4
  clear HB3 c4
  go_wp2
  go_ret
  exact ⟨rfl, B4⟩

theorem strB_append (a b : ByteArray) : strB (a ++ b) = strB a ++ strB b := by unfold strB; simp

end Go.Proofs.YtpccakalkcgdeaaDoor
