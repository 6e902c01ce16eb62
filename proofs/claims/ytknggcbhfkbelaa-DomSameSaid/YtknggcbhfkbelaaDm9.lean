/- DomSame: the law's walk, where the document's example is as it says. -/
import Derived.Test.YtknggcbhfkbelaaDm4
import Derived.Test.YtknggcbhfkbelaaDm5
import Derived.Test.YtknggcbhfkbelaaDm6
import Derived.Test.YtknggcbhfkbelaaDm8
namespace Go.Proofs.Ytknggcbhfkbelaa
open Go.RowKit
set_option linter.unusedVariables false
set_option linter.unusedSimpArgs false

theorem bel_trans {w0 w1 w2 : World} (h : Below w0.heap.size w0 w1) (h2 : Below w1.heap.size w1 w2) : Below w0.heap.size w0 w2 := h.trans (h2.mono h.size)
set_option maxRecDepth 100000 in
set_option maxHeartbeats 4000000 in
theorem lawDomSame_of (hS : ∀ w, Calls Try.prog 6 #[] w (Told (.bool true) w)) (xs ys : List Nd) (a b : Option Addr) (n m c d : Nat) (w : World) (hx : RdN (· < w.heap.size) w a n c xs) (hy : RdN (· < w.heap.size) w b m d ys) :
    Calls Try.prog 3 #[.slice a n c, .slice b m d] w (Told (.bool true) w) := by
  have HX := Lib.hid (fun w' (hb : Below w.heap.size w w') => hx.later hb (Nat.le_refl _))
  have HY := Lib.hid (fun w' (hb : Below w.heap.size w w') => hy.later hb (Nat.le_refl _))
  have HN := Lib.hid hx.1
  clear hx hy
  go_enter Try.func3, Try.ntmps3
  go_wp2_with fail
  refine (hS _).mono ?_
  rintro e1 w1 ⟨rfl, hb1⟩
  go_wp2_with fail
  refine (rgreat_any xs 200 (by omega) a n c w1 (HX.out w1 hb1)).mono ?_
  rintro e2 w2 ⟨v1, rfl, hb2, hv1⟩
  have hb12 := bel_trans hb1 hb2
  rcases v1 with _ | _
  rotate_left
  · clear hv1
    go_wp2
    go_ret
    exact ⟨rfl, hb12⟩
  have hg1 := hv1 rfl
  have HG1 := Lib.hid hg1
  clear hv1 hg1
  go_wp2_with fail
  refine (rgreat_any ys 200 (by omega) b m d w2 (HY.out w2 hb12)).mono ?_
  rintro e3 w3 ⟨v2, rfl, hb3, hv2⟩
  have hb13 := bel_trans hb12 hb3
  rcases v2 with _ | _
  rotate_left
  · clear hv2
    go_wp2
    go_ret
    exact ⟨rfl, hb13⟩
  clear hv2
  go_wp2_with fail
  refine (domSame_any xs ys a b n m c d w3 (HX.out w3 hb13) (HY.out w3 hb13)).mono ?_
  rintro e4 w4 ⟨rfl, hb4⟩
  have hb14 := bel_trans hb13 hb4
  go_wp2_with fail
  refine (rsame_any xs ys a b n m c d w4 (HX.out w4 hb14) (HY.out w4 hb14)).mono ?_
  rintro e5 w5 ⟨rfl, hb5⟩
  have hb15 := bel_trans hb14 hb5
  generalize decide (xs = ys) = r at *
  have hr : (r == r) = true := beq_self_eq_true _
  have hcp := copied_any xs a n c w5 (HX.out w5 hb15) (by rw [HN.out]; exact HG1.out.1) (fun x hx => ⟨(HG1.out.2 x hx).1, (HG1.out.2 x hx).2.1⟩)
  go_wp2_with fail
  refine hcp.mono ?_
  rintro e6 w6 ⟨a6, c6, rfl, hr6, hb6⟩
  have hb16 := bel_trans hb15 hb6
  have hr6' : RdN (· < w6.heap.size) w6 a6 n c6 xs := hr6.move (fun b hb => ⟨by have := hb6.size; omega, rfl⟩)
  have hsm := domSame_any xs xs a a6 n n c c6 w6 (HX.out w6 hb16) hr6'
  rw [decide_eq_true rfl] at hsm
  clear hcp hr6 hr6'
  go_wp2_with fail
  refine hsm.mono ?_
  rintro e7 w7 ⟨rfl, hb7⟩
  go_wp2
  go_ret
  exact ⟨rfl, bel_trans hb16 hb7⟩
end Go.Proofs.Ytknggcbhfkbelaa
