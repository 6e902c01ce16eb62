/- The program's errors: made, told by kind and place. -/
import Derived.Test.YtknggcbhfkbelaaDoorAs
import Derived.Test.YtknggcbhfkbelaaDoorKit
namespace Go.Proofs.YtknggcbhfkbelaaDoor
open Go.RowKit

/-- The error value of a fault at a place. -/
def fltV (e : Nat) : Value := .iface 53 (.pointer (some ⟨e, 0, none⟩))
/-- The variable errors.errorType holds the handle of the type error. -/
def HasET (w : World) : Prop := w.cell? ⟨0, 0, none⟩ = some (.iface 101 (.agg #[.pointer (some ⟨1, 26, none⟩)]))
theorem HasET.below {w w' : World} {B : Nat} (h : HasET w) (hb : Below B w w') (hB : 0 < B) : HasET w' := (hb.cell (p := ⟨0, 0, none⟩) hB).trans h

theorem fail_any (k at_ : Int) (w : World) : Calls Tryd.prog 14 #[.int .i64 k, .int .i64 at_] w fun e w' => e = .returned (fltV w.heap.size) ∧ w' = w.alloc (.cells [.int .i64 k, .int .i64 at_, .nilIface].toArray 57) := by
  go_enter Tryd.func14, Tryd.ntmps14
  go_wp2
  go_ret
  exact ⟨rfl, rfl⟩


set_option maxRecDepth 100000 in
set_option maxHeartbeats 1000000 in
theorem kind_hit (e : Nat) (k at_ : Int) (v : Value) (w : World) (hB : Blk w e [.int .i64 k, .int .i64 at_, v] 57) (hg : HasET w) :
    Calls Tryd.prog 9 #[fltV e] w fun r w' => r = .returned (.int .i64 k) ∧ Below w.heap.size w w' := by
  have hlt := hB.lt
  have hgl := World.block_lt_of_cell? w _ hg
  have hg1 : HasET (w.alloc (.cells #[.pointer none] 53)) := hg.below ((Below.refl _ w).alloc (Nat.le_refl _) _) hgl
  unfold fltV
  go_enter Tryd.func9, Tryd.ntmps9
  go_wp2_with fail
  refine (as_hit ⟨e, 0, none⟩ ⟨w.heap.size, 0, none⟩ (.pointer none) _ hg1 (by simp) (by simp)).mono ?_
  rintro r w2 ⟨rfl, hw2⟩
  have hb2 : Below w.heap.size w w2 := by
    rw [hw2]
    exact (((((((Below.refl _ w).alloc (Nat.le_refl _) _).alloc (by simp) _).alloc (by simp <;> omega) _).alloc (by simp <;> omega) _).alloc (by simp <;> omega) _).setCell (p := ⟨w.heap.size, 0, none⟩) (Nat.le_refl _) _)
  have ht : w2.cell? ⟨w.heap.size, 0, none⟩ = some (.pointer (some ⟨e, 0, none⟩)) := by
    rw [hw2, World.cell?_setCell_same' _ _ _ ?_]
    rw [World.cell?_alloc_lt _ _ ⟨w.heap.size, 0, none⟩ (by simp <;> omega), World.cell?_alloc_lt _ _ ⟨w.heap.size, 0, none⟩ (by simp <;> omega), World.cell?_alloc_lt _ _ ⟨w.heap.size, 0, none⟩ (by simp <;> omega), World.cell?_alloc_lt _ _ ⟨w.heap.size, 0, none⟩ (by simp <;> omega)]
    simp
  have h0 := (hB.later hb2 hlt).cell 0 _ rfl
  clear hw2
  go_wp2
  go_ret
  exact ⟨rfl, hb2⟩
set_option maxRecDepth 100000 in
set_option maxHeartbeats 1000000 in
theorem at_hit (e : Nat) (k at_ : Int) (v : Value) (w : World) (hB : Blk w e [.int .i64 k, .int .i64 at_, v] 57) (hg : HasET w) :
    Calls Tryd.prog 10 #[fltV e] w fun r w' => r = .returned (.int .i64 at_) ∧ Below w.heap.size w w' := by
  have hlt := hB.lt
  have hgl := World.block_lt_of_cell? w _ hg
  have hg1 : HasET (w.alloc (.cells #[.pointer none] 53)) := hg.below ((Below.refl _ w).alloc (Nat.le_refl _) _) hgl
  unfold fltV
  go_enter Tryd.func10, Tryd.ntmps10
  go_wp2_with fail
  refine (as_hit ⟨e, 0, none⟩ ⟨w.heap.size, 0, none⟩ (.pointer none) _ hg1 (by simp) (by simp)).mono ?_
  rintro r w2 ⟨rfl, hw2⟩
  have hb2 : Below w.heap.size w w2 := by
    rw [hw2]
    exact (((((((Below.refl _ w).alloc (Nat.le_refl _) _).alloc (by simp) _).alloc (by simp <;> omega) _).alloc (by simp <;> omega) _).alloc (by simp <;> omega) _).setCell (p := ⟨w.heap.size, 0, none⟩) (Nat.le_refl _) _)
  have ht : w2.cell? ⟨w.heap.size, 0, none⟩ = some (.pointer (some ⟨e, 0, none⟩)) := by
    rw [hw2, World.cell?_setCell_same' _ _ _ ?_]
    rw [World.cell?_alloc_lt _ _ ⟨w.heap.size, 0, none⟩ (by simp <;> omega), World.cell?_alloc_lt _ _ ⟨w.heap.size, 0, none⟩ (by simp <;> omega), World.cell?_alloc_lt _ _ ⟨w.heap.size, 0, none⟩ (by simp <;> omega), World.cell?_alloc_lt _ _ ⟨w.heap.size, 0, none⟩ (by simp <;> omega)]
    simp
  have h0 := (hB.later hb2 hlt).cell 1 _ rfl
  clear hw2
  go_wp2
  go_ret
  exact ⟨rfl, hb2⟩
end Go.Proofs.YtknggcbhfkbelaaDoor
