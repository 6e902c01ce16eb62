/- SelLess: the law. -/
import Derived.Test.YtpccakalkcgdeaaSl7
import Derived.Deep.RegionHeld3
namespace Go.Proofs.Ytpccakalkcgdeaa
open Go.RowKit

theorem lessB_self (s : Sp) : lessB s s = false := by unfold lessB; simp

/-- What the law's region reads, and what it keeps. -/
def LessS (x1 x2 x3 y1 y2 y3 : Int) (P Q : Nat) (w0 w' : World) : Prop :=
  Blk w' P [.int .i64 x1, .int .i64 x2, .int .i64 x3] 23 ∧ Blk w' Q [.int .i64 y1, .int .i64 y2, .int .i64 y3] 23 ∧ Below w0.heap.size w0 w'
theorem LessS.later {x1 x2 x3 y1 y2 y3 : Int} {P Q : Nat} {w0 w1 w2 : World} (h : LessS x1 x2 x3 y1 y2 y3 P Q w0 w1) (hb : Below w1.heap.size w1 w2) : LessS x1 x2 x3 y1 y2 y3 P Q w0 w2 := by
  obtain ⟨h1, h2, h3⟩ := h
  exact ⟨h1.later hb h1.lt, h2.later hb h2.lt, below_trans h3 hb⟩
theorem LessS.says {x1 x2 x3 y1 y2 y3 : Int} {P Q : Nat} {w0 w1 : World} (h : LessS x1 x2 x3 y1 y2 y3 P Q w0 w1) :
    w1.cell? ⟨P, 0, none⟩ = some (.int .i64 x1) ∧ w1.cell? ⟨P, 1, none⟩ = some (.int .i64 x2) ∧ w1.cell? ⟨P, 2, none⟩ = some (.int .i64 x3) ∧
    w1.cell? ⟨Q, 0, none⟩ = some (.int .i64 y1) ∧ w1.cell? ⟨Q, 1, none⟩ = some (.int .i64 y2) ∧ w1.cell? ⟨Q, 2, none⟩ = some (.int .i64 y3) :=
  ⟨h.1.cell 0 _ rfl, h.1.cell 1 _ rfl, h.1.cell 2 _ rfl, h.2.1.cell 0 _ rfl, h.2.1.cell 1 _ rfl, h.2.1.cell 2 _ rfl⟩

set_option maxRecDepth 100000 in
set_option maxHeartbeats 4000000 in
theorem lawLess_any (x1 x2 x3 y1 y2 y3 : Int) (s : ByteArray) (w : World) :
    Calls Try.prog 3 #[.agg #[.int .i64 x1, .int .i64 x2, .int .i64 x3], .agg #[.int .i64 y1, .int .i64 y2, .int .i64 y3], .string s] w (Told (.bool true) w) := by
  have hS0 : LessS x1 x2 x3 y1 y2 y3 w.heap.size (w.heap.size + 1) w ((w.alloc (.cells #[.int .i64 x1, .int .i64 x2, .int .i64 x3] 23)).alloc (.cells #[.int .i64 y1, .int .i64 y2, .int .i64 y3] 23)) :=
    ⟨(Blk.alloc _ _).alloc_old _, by have := Blk.alloc (w := w.alloc (.cells #[.int .i64 x1, .int .i64 x2, .int .i64 x3] 23)) [.int .i64 y1, .int .i64 y2, .int .i64 y3] 23; rwa [World.size_alloc] at this, ((Below.refl _ w).alloc (Nat.le_refl _) _).alloc (by simp) _⟩
  have HSa := Lib.hid hS0
  clear hS0
  by_cases h1 : (100 : Int) < (s.size : Int)
  · go_enter Try.func3, Try.ntmps3
    go_wp2_with fail
    refine (speaks8_any _).mono ?_
    rintro e w1 ⟨rfl, hb1⟩
    go_wp2
    go_ret
    exact ⟨rfl, below_trans HSa.out.2.2 hb1⟩
  · have c1 := fun w => less_any (x1, x2, x3) (y1, y2, y3) w
    have c2 := fun w => rless_any (x1, x2, x3) (y1, y2, y3) w
    have c3 := fun w => less_any (x1, x2, x3) (x1, x2, x3) w
    rw [lessB_self] at c3
    have c4 := fun w => (state_any s w).mono (fun _ _ h => h.told)
    have c5 := fun w => rstate_any s w
    have c6 := fun w => (elem_any s w).mono (fun _ _ h => h.told)
    have c7 := fun w => relem_any s w
    generalize lessB (x1, x2, x3) (y1, y2, y3) = b1 at *
    generalize hasB stateNames s = b2 at *
    generalize hasB elemNames s = b3 at *
    have n1 : (b1 == b1) = true := by simp
    have n2 : (b2 == b2) = true := by simp
    have n3 : (b3 == b3) = true := by simp
    unfold spV at c1 c2 c3
    dsimp only at c1 c2 c3
    go_enter Try.func3, Try.ntmps3
    go_wp2_with fail
    refine (speaks8_any _).mono ?_
    rintro e w1 ⟨rfl, hb1⟩
    have HS0 : Hid (LessS x1 x2 x3 y1 y2 y3 w.heap.size (w.heap.size + 1) w w1.drew) := Lib.hid (by have h := HSa.out.later hb1; exact ⟨h.1, h.2.1, h.2.2.drew⟩)
    clear HSa hb1
    go_wp2_with fail
    generalize w.heap.size = P at *
    go_region_held3 (fun w1 => w1.cell? ⟨P, 0, none⟩ = some (.int .i64 x1) ∧ w1.cell? ⟨P, 1, none⟩ = some (.int .i64 x2) ∧ w1.cell? ⟨P, 2, none⟩ = some (.int .i64 x3) ∧
        w1.cell? ⟨P + 1, 0, none⟩ = some (.int .i64 y1) ∧ w1.cell? ⟨P + 1, 1, none⟩ = some (.int .i64 y2) ∧ w1.cell? ⟨P + 1, 2, none⟩ = some (.int .i64 y3))
      (first | exact HS0.out.says | exact HS1.out.says | exact HS2.out.says | exact HS3.out.says | exact HS4.out.says | exact HS5.out.says | exact HS6.out.says | exact HS7.out.says)
      (first
        | (go_at_call 7; (with_reducible refine (c1 _).mono ?_); rintro e w11 ⟨rfl, hb11⟩; have HS1 := Lib.hid (HS0.out.later hb11))
        | (go_at_call 8; (with_reducible refine (c2 _).mono ?_); rintro e w12 ⟨rfl, hb12⟩; have HS2 := Lib.hid (HS1.out.later hb12))
        | (go_at_call 7; (with_reducible refine (c3 _).mono ?_); rintro e w13 ⟨rfl, hb13⟩; have HS3 := Lib.hid (HS2.out.later hb13))
        | (go_at_call 9; (with_reducible refine (c4 _).mono ?_); rintro e w14 ⟨rfl, hb14⟩; have HS4 := Lib.hid (HS3.out.later hb14))
        | (go_at_call 10; (with_reducible refine (c5 _).mono ?_); rintro e w15 ⟨rfl, hb15⟩; have HS5 := Lib.hid (HS4.out.later hb15))
        | (go_at_call 11; (with_reducible refine (c6 _).mono ?_); rintro e w16 ⟨rfl, hb16⟩; have HS6 := Lib.hid (HS5.out.later hb16))
        | (go_at_call 12; (with_reducible refine (c7 _).mono ?_); rintro e w17 ⟨rfl, hb17⟩; have HS7 := Lib.hid (HS6.out.later hb17)))
    all_goals
      go_wp2
      go_ret
      exact ⟨rfl, HS7.out.2.2⟩
end Go.Proofs.Ytpccakalkcgdeaa
