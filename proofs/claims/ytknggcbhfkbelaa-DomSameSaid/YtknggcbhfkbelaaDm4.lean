/- Documents held against one another, by the program: walks. -/
import Derived.Test.YtknggcbhfkbelaaDm2
import Derived.Shelf.Abstract
namespace Go.Proofs.Ytknggcbhfkbelaa
open Go.RowKit
set_option linter.unusedVariables false
set_option linter.unusedSimpArgs false

theorem nd_eta (x y : Nd) : (decide ((⟨x.par, x.kind, x.space, x.name, x.attrs, x.states, x.text⟩ : Nd) = ⟨y.par, y.kind, y.space, y.name, y.attrs, y.states, y.text⟩)) = decide (x = y) := rfl

set_option maxRecDepth 100000 in
set_option maxHeartbeats 4000000 in
theorem eqN_any (xs ys : List Nd) (a a' : Option Addr) (n n' c c' : Nat) (w : World) (hx : RdN (· < w.heap.size) w a n c xs) (hy : RdN (· < w.heap.size) w a' n' c' ys) :
    Calls Try.prog 23 #[.slice a n c, .slice a' n' c', .func (.func 24) #[] #[]] w (Told (.bool (decide (xs = ys))) w) := by
  have hm : n ≤ 9223372036854775807 := by have := hx.2.1; have := hx.2.2.1; unfold maxLen at this; omega
  have hm' : n' ≤ 9223372036854775807 := by have := hy.2.1; have := hy.2.2.1; unfold maxLen at this; omega
  have HN := Lib.hid hx.1
  have HN' := Lib.hid hy.1
  have HX := Lib.hid hx
  have HY := Lib.hid hy
  clear hx hy
  by_cases hl : n = n'
  · subst hl
    have n0 : ((n : Int) != (n : Int)) = false := by simp
    go_enter Try.func23, Try.ntmps23
    go_wp2_with fail
    go_loopw [17] (fun i wr => ∃ k : Nat, k ≤ n ∧ i = .int .i64 k ∧ Hid (xs.take k = ys.take k) ∧ Below w.heap.size w wr) (fun i _ => n - (intOf i).toNat)
    case atStart => exact ⟨0, Nat.zero_le _, rfl, Lib.hid rfl, Below.refl _ _⟩
    case round =>
      obtain ⟨k, hk, rfl, hp, hB⟩ := hrel
      by_cases hlt : k < n
      · obtain ⟨x, hx⟩ : ∃ x, xs[k]? = some x := ⟨_, List.getElem?_eq_getElem (by rw [← HN.out]; exact hlt)⟩
        obtain ⟨y, hy⟩ : ∃ y, ys[k]? = some y := ⟨_, List.getElem?_eq_getElem (by rw [← HN'.out]; exact hlt)⟩
        obtain ⟨g, off, rfl, hg, x0, x1, x2, x3, ⟨a1, n1, c1, x4, hA1⟩, ⟨a2, n2, c2, x5, hS1⟩, x6, _⟩ := HX.out.at k x hx
        obtain ⟨g', off', rfl, hg', y0, y1, y2, y3, ⟨b1, m1, d1, y4, hA2⟩, ⟨b2, m2, d2, y5, hS2⟩, y6, _⟩ := HY.out.at k y hy
        rw [← cell_same (hB.block g hg)] at x0 x1 x2 x3 x4 x5 x6
        rw [← cell_same (hB.block g' hg')] at y0 y1 y2 y3 y4 y5 y6
        have hkI : (0 : Int) ≤ (k : Int) := by omega
        have hkI2 : (k : Int) < (n : Int) := by omega
        have HXK := Lib.hid hx
        have HYK := Lib.hid hy
        have hbX := hB.alloc hB.size (.cells [.int .i64 x.par, .int .i64 x.kind, .string x.space, .string x.name, .slice a1 n1 c1, .slice a2 n2 c2, .string x.text].toArray 44)
        have hbW := hbX.alloc hbX.size (.cells [.int .i64 y.par, .int .i64 y.kind, .string y.space, .string y.name, .slice b1 m1 d1, .slice b2 m2 d2, .string y.text].toArray 44)
        have hmv := fun bl (hb : bl < w.heap.size) => (And.intro hb (hbW.block bl hb))
        have cS := sameNode_any x.par x.kind y.par y.kind x.space x.name x.text y.space y.name y.text x.attrs y.attrs x.states y.states a1 a2 b1 b2 n1 n2 c1 c2 m1 m2 d1 d2 (· < w.heap.size) _ (fun b hb => Nat.lt_of_lt_of_le hb hbW.size) (hA1.move hmv) (hS1.move hmv) (hA2.move hmv) (hS2.move hmv)
        rw [nd_eta] at cS
        have y0' : (wr.alloc (.cells #[.int .i64 x.par, .int .i64 x.kind, .string x.space, .string x.name, .slice a1 n1 c1, .slice a2 n2 c2, .string x.text] 44)).heap[g']? = wr.heap[g']? := Below.heap_alloc _ _ _ (Nat.lt_of_lt_of_le hg' hB.size)
        have z0 := (cell_same y0' (off' + k * 7)).trans y0
        have z1 := (cell_same y0' (off' + k * 7 + 1)).trans y1
        have z2 := (cell_same y0' (off' + k * 7 + 2)).trans y2
        have z3 := (cell_same y0' (off' + k * 7 + 3)).trans y3
        have z4 := (cell_same y0' (off' + k * 7 + 4)).trans y4
        have z5 := (cell_same y0' (off' + k * 7 + 5)).trans y5
        have z6 := (cell_same y0' (off' + k * 7 + 6)).trans y6
        have HBW := Lib.hid hbW
        by_cases hxy : x = y
        · have hst := Lib.hid (show xs.take (k + 1) = ys.take (k + 1) from by rw [List.take_add_one, List.take_add_one, HXK.out, HYK.out, hp.out, hxy])
          rw [decide_eq_true hxy] at cS
          clear hp hx hy hxy hA1 hS1 hA2 hS2 hmv hbX hbW y0 y1 y2 y3 y4 y5 y6 y0' hB
          go_wp2_with (go_at_call 24; (with_reducible refine cS.mono ?_); rintro e w3 ⟨rfl, hb3⟩)
          go_roundw
          case rel => exact ⟨k + 1, by omega, by go_num, hst, HBW.out.trans (hb3.mono HBW.out.size)⟩
          case measure => simp [intOf]; omega
        · have hres := Lib.hid (show decide (xs = ys) = false from decide_eq_false (fun e => hxy (by
            have h1 := HXK.out
            rw [e, HYK.out] at h1
            exact (Option.some.inj h1).symm)))
          rw [decide_eq_false hxy] at cS
          clear hp hx hy hxy hA1 hS1 hA2 hS2 hmv hbX hbW y0 y1 y2 y3 y4 y5 y6 y0' hB
          go_wp2_with (go_at_call 24; (with_reducible refine cS.mono ?_); rintro e w3 ⟨rfl, hb3⟩)
          go_ret
          exact ⟨by rw [hres.out]; rfl, HBW.out.trans (hb3.mono HBW.out.size)⟩
      · have hres := Lib.hid (show decide (xs = ys) = true from decide_eq_true (by
          have := hp.out
          rwa [List.take_of_length_le (by rw [← HN.out]; omega), List.take_of_length_le (by rw [← HN'.out]; omega)] at this))
        have hkI : ¬ (k : Int) < (n : Int) := by omega
        clear hp
        go_wp2
        go_ret
        exact ⟨by rw [hres.out]; rfl, hB⟩
  · have hres := Lib.hid (show decide (xs = ys) = false from decide_eq_false (fun e => hl (by rw [HN.out, HN'.out, e])))
    have n0 : ((n : Int) != (n' : Int)) = true := by rw [bne, show ((n : Int) == (n' : Int)) = false from beq_eq_false_iff_ne.2 (by omega)]; rfl
    clear hl
    go_enter Try.func23, Try.ntmps23
    go_wp2
    go_ret
    exact ⟨by rw [hres.out]; rfl, Below.refl _ _⟩
set_option maxRecDepth 100000 in
theorem domSame_any (xs ys : List Nd) (a a' : Option Addr) (n n' c c' : Nat) (w : World) (hx : RdN (· < w.heap.size) w a n c xs) (hy : RdN (· < w.heap.size) w a' n' c' ys) :
    Calls Try.prog 8 #[.slice a n c, .slice a' n' c'] w (Told (.bool (decide (xs = ys))) w) := by
  have h := eqN_any xs ys a a' n n' c c' w hx hy
  clear hx hy
  go_enter Try.func8, Try.ntmps8
  go_wp2_with fail
  refine h.mono ?_
  rintro e w1 ⟨rfl, hb1⟩
  go_wp2
  go_ret
  exact ⟨rfl, hb1⟩
end Go.Proofs.Ytknggcbhfkbelaa
