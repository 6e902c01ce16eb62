/- Lists of selectors held against one another, by the document: walks. -/
import Derived.Test.YtfgnepbpfglepaaSm1
import Derived.Deep.CutRange
import Derived.Deep.RegionWith
namespace Go.Proofs.Ytfgnepbpfglepaa
open Go.RowKit
set_option linter.unusedVariables false
set_option linter.unusedSimpArgs false

set_option maxRecDepth 100000 in
set_option maxHeartbeats 8000000 in
theorem rsame1_any (d : Nat) (IH : SameV 27 d) (f g : Flat) (x y : Lx d) (a : Option Addr) (n c : Nat) (b : Option Addr) (m e : Nat) (w : World) (hx : RdL (· < w.heap.size) d w a n c x) (hy : RdL (· < w.heap.size) d w b m e y) :
    Calls Try.prog 54 #[sval f a n c, sval g b m e] w (Told (.bool (decide ((f, x) = (g, y)))) w) := by
  unfold sval
  have hbX := (Below.refl w.heap.size w).alloc (Nat.le_refl _) (.cells #[.int .i64 f.kind, .int .i64 f.ns, .string f.pre, .string f.name, .int .i64 f.op, .string f.text, .bool f.fold, .int .i64 f.mark, .int .i64 f.a, .int .i64 f.b, .slice a n c] 86)
  have hbW := hbX.alloc hbX.size (.cells #[.int .i64 g.kind, .int .i64 g.ns, .string g.pre, .string g.name, .int .i64 g.op, .string g.text, .bool g.fold, .int .i64 g.mark, .int .i64 g.a, .int .i64 g.b, .slice b m e] 86)
  have fS := IH x y a n c b m e _ (hx.later hbW (Nat.le_refl _)) (hy.later hbW (Nat.le_refl _))
  have HBW := Lib.hid hbW
  have HR : Hid (decide ((f, x) = (g, y)) = (decide (f.kind = g.kind) && (decide (f.ns = g.ns) && (decide (f.pre = g.pre) && (decide (f.name = g.name) && (decide (f.op = g.op) && (decide (f.text = g.text) && (decide (f.fold = g.fold) && (decide (f.mark = g.mark) && (decide (f.a = g.a) && (decide (f.b = g.b) && decide (x = y)))))))))))) := Lib.hid (by
    rw [Bool.eq_iff_iff]
    cases f; cases g
    simp only [Bool.and_eq_true, decide_eq_true_iff, Prod.mk.injEq, Flat.mk.injEq]
    constructor
    · rintro ⟨⟨h0, h1, h2, h3, h4, h5, h6, h7, h8, h9⟩, h10⟩; exact ⟨h0, h1, h2, h3, h4, h5, h6, h7, h8, h9, h10⟩
    · rintro ⟨h0, h1, h2, h3, h4, h5, h6, h7, h8, h9, h10⟩; exact ⟨⟨h0, h1, h2, h3, h4, h5, h6, h7, h8, h9⟩, h10⟩)
  generalize decide ((f, x) = (g, y)) = R at *
  have e0 : (f.kind == g.kind) = decide (f.kind = g.kind) := rfl
  have e1 : (f.ns == g.ns) = decide (f.ns = g.ns) := rfl
  have e2 := str_beq f.pre g.pre
  have e3 := str_beq f.name g.name
  have e4 : (f.op == g.op) = decide (f.op = g.op) := rfl
  have e5 := str_beq f.text g.text
  have e6 : (f.fold == g.fold) = decide (f.fold = g.fold) := rfl
  have e7 : (f.mark == g.mark) = decide (f.mark = g.mark) := rfl
  have e8 : (f.a == g.a) = decide (f.a = g.a) := rfl
  have e9 : (f.b == g.b) = decide (f.b = g.b) := rfl
  clear hx hy hbX hbW IH
  generalize decide (x = y) = r10 at *
  generalize decide (f.kind = g.kind) = r0 at *
  generalize decide (f.ns = g.ns) = r1 at *
  generalize decide (f.pre = g.pre) = r2 at *
  generalize decide (f.name = g.name) = r3 at *
  generalize decide (f.op = g.op) = r4 at *
  generalize decide (f.text = g.text) = r5 at *
  generalize decide (f.fold = g.fold) = r6 at *
  generalize decide (f.mark = g.mark) = r7 at *
  generalize decide (f.a = g.a) = r8 at *
  generalize decide (f.b = g.b) = r9 at *
  cases r0
  · go_enter Try.func54, Try.ntmps54
    go_wp2_with (go_at_call 27; (with_reducible refine fS.mono ?_); rintro e wq ⟨rfl, hq⟩)
    go_ret
    exact ⟨by rw [HR.out]; first | rfl | (cases r10 <;> rfl), by first | exact HBW.out | exact bel_tr HBW.out hq⟩
  · cases r1
    · go_enter Try.func54, Try.ntmps54
      go_wp2_with (go_at_call 27; (with_reducible refine fS.mono ?_); rintro e wq ⟨rfl, hq⟩)
      go_ret
      exact ⟨by rw [HR.out]; first | rfl | (cases r10 <;> rfl), by first | exact HBW.out | exact bel_tr HBW.out hq⟩
    · cases r2
      · go_enter Try.func54, Try.ntmps54
        go_wp2_with (go_at_call 27; (with_reducible refine fS.mono ?_); rintro e wq ⟨rfl, hq⟩)
        go_ret
        exact ⟨by rw [HR.out]; first | rfl | (cases r10 <;> rfl), by first | exact HBW.out | exact bel_tr HBW.out hq⟩
      · cases r3
        · go_enter Try.func54, Try.ntmps54
          go_wp2_with (go_at_call 27; (with_reducible refine fS.mono ?_); rintro e wq ⟨rfl, hq⟩)
          go_ret
          exact ⟨by rw [HR.out]; first | rfl | (cases r10 <;> rfl), by first | exact HBW.out | exact bel_tr HBW.out hq⟩
        · cases r4
          · go_enter Try.func54, Try.ntmps54
            go_wp2_with (go_at_call 27; (with_reducible refine fS.mono ?_); rintro e wq ⟨rfl, hq⟩)
            go_ret
            exact ⟨by rw [HR.out]; first | rfl | (cases r10 <;> rfl), by first | exact HBW.out | exact bel_tr HBW.out hq⟩
          · cases r5
            · go_enter Try.func54, Try.ntmps54
              go_wp2_with (go_at_call 27; (with_reducible refine fS.mono ?_); rintro e wq ⟨rfl, hq⟩)
              go_ret
              exact ⟨by rw [HR.out]; first | rfl | (cases r10 <;> rfl), by first | exact HBW.out | exact bel_tr HBW.out hq⟩
            · cases r6
              · go_enter Try.func54, Try.ntmps54
                go_wp2_with (go_at_call 27; (with_reducible refine fS.mono ?_); rintro e wq ⟨rfl, hq⟩)
                go_ret
                exact ⟨by rw [HR.out]; first | rfl | (cases r10 <;> rfl), by first | exact HBW.out | exact bel_tr HBW.out hq⟩
              · cases r7
                · go_enter Try.func54, Try.ntmps54
                  go_wp2_with (go_at_call 27; (with_reducible refine fS.mono ?_); rintro e wq ⟨rfl, hq⟩)
                  go_ret
                  exact ⟨by rw [HR.out]; first | rfl | (cases r10 <;> rfl), by first | exact HBW.out | exact bel_tr HBW.out hq⟩
                · cases r8
                  · go_enter Try.func54, Try.ntmps54
                    go_wp2_with (go_at_call 27; (with_reducible refine fS.mono ?_); rintro e wq ⟨rfl, hq⟩)
                    go_ret
                    exact ⟨by rw [HR.out]; first | rfl | (cases r10 <;> rfl), by first | exact HBW.out | exact bel_tr HBW.out hq⟩
                  · cases r9
                    · go_enter Try.func54, Try.ntmps54
                      go_wp2_with (go_at_call 27; (with_reducible refine fS.mono ?_); rintro e wq ⟨rfl, hq⟩)
                      go_ret
                      exact ⟨by rw [HR.out]; first | rfl | (cases r10 <;> rfl), by first | exact HBW.out | exact bel_tr HBW.out hq⟩
                    · go_enter Try.func54, Try.ntmps54
                      go_wp2_with (go_at_call 27; (with_reducible refine fS.mono ?_); rintro e wq ⟨rfl, hq⟩)
                      go_ret
                      exact ⟨by rw [HR.out]; first | rfl | (cases r10 <;> rfl), by first | exact HBW.out | exact bel_tr HBW.out hq⟩

theorem two_blk (W : World) (cs1 cs2 : List Value) (T : TypeId) : Blk ((W.alloc (.cells cs1.toArray T)).alloc (.cells cs2.toArray T)).drew W.heap.size cs1 T ∧ Blk ((W.alloc (.cells cs1.toArray T)).alloc (.cells cs2.toArray T)).drew (W.heap.size + 1) cs2 T :=
  ⟨(Blk.alloc cs1 T).alloc_old _, by
    have := Blk.alloc (w := W.alloc (.cells cs1.toArray T)) cs2 T
    rwa [World.size_alloc] at this⟩
theorem take_ne {α : Type} [DecidableEq α] {xs ys : List α} {k : Nat} {x y : α} (hx : xs[k]? = some x) (hy : ys[k]? = some y) (h : x ≠ y) : decide (xs = ys) = false := decide_eq_false (fun e => h (by rw [e, hy] at hx; exact (Option.some.inj hx).symm))
theorem take_eq {α : Type} {xs ys : List α} {k : Nat} {x y : α} (hx : xs[k]? = some x) (hy : ys[k]? = some y) (h : x = y) (hp : xs.take k = ys.take k) : xs.take (k + 1) = ys.take (k + 1) := by rw [List.take_add_one, List.take_add_one, hx, hy, hp, h]
theorem take_all {α : Type} [DecidableEq α] {xs ys : List α} {n : Nat} (hx : n = xs.length) (hy : n = ys.length) (hp : xs.take n = ys.take n) : xs = ys := by
  rwa [List.take_of_length_le (by omega), List.take_of_length_le (by omega)] at hp

set_option maxRecDepth 100000 in
set_option maxHeartbeats 8000000 in
theorem rsameX_any (d : Nat) (IH : SameV 27 d) (xs ys : List (List (Int × List (Flat × Lx d)))) (a a' : Option Addr) (n n' c c' : Nat) (w : World) (hx : RdOf (· < w.heap.size) 1 (ComplexAt (· < w.heap.size) (RdL (· < w.heap.size) d w) w) a n c xs) (hy : RdOf (· < w.heap.size) 1 (ComplexAt (· < w.heap.size) (RdL (· < w.heap.size) d w) w) a' n' c' ys) :
    Calls Try.prog 27 #[.slice a n c, .slice a' n' c'] w (Told (.bool (decide (xs = ys))) w) := by
  have hm : n ≤ 9223372036854775807 := by have := hx.2.1; have := hx.2.2.1.1; unfold maxLen at this; omega
  have hm' : n' ≤ 9223372036854775807 := by have := hy.2.1; have := hy.2.2.1.1; unfold maxLen at this; omega
  have HN := Lib.hid hx.1
  have HN' := Lib.hid hy.1
  have HX := Lib.hid hx
  have HY := Lib.hid hy
  clear hx hy
  by_cases hl : n = n'
  rotate_left
  · have hres := Lib.hid (show decide (xs = ys) = false from decide_eq_false (fun e => hl (by rw [HN.out, HN'.out, e])))
    have n0 : ((n : Int) != (n' : Int)) = true := by rw [bne, show ((n : Int) == (n' : Int)) = false from beq_eq_false_iff_ne.2 (by omega)]; rfl
    clear hl
    go_enter Try.func27, Try.ntmps27
    go_wp2
    go_ret
    exact ⟨by rw [hres.out]; rfl, Below.refl _ _⟩
  subst hl
  have n0 : ((n : Int) != (n : Int)) = false := by simp
  go_enter Try.func27, Try.ntmps27
  go_wp2_with fail
  go_loopw [5] (fun i wr => ∃ k : Nat, k ≤ n ∧ i = .int .i64 k ∧ Hid (xs.take k = ys.take k) ∧ Below w.heap.size w wr) (fun i _ => n - (intOf i).toNat)
  case atStart => exact ⟨0, Nat.zero_le _, rfl, Lib.hid rfl, Below.refl _ _⟩
  case round =>
    obtain ⟨k, hk, rfl, hp, hB⟩ := hrel
    by_cases hlt : k < n
    rotate_left
    · have hres := Lib.hid (show decide (xs = ys) = true from decide_eq_true (by
        have := hp.out
        exact take_all HN.out HN'.out (by rwa [show k = n by omega] at this)))
      have hkI : ¬ (k : Int) < (n : Int) := by omega
      clear hp
      go_wp2
      go_ret
      exact ⟨by rw [hres.out]; rfl, hB⟩
    obtain ⟨x, hxk⟩ : ∃ x, xs[k]? = some x := ⟨_, List.getElem?_eq_getElem (by rw [← HN.out]; exact hlt)⟩
    obtain ⟨y, hyk⟩ : ∃ y, ys[k]? = some y := ⟨_, List.getElem?_eq_getElem (by rw [← HN'.out]; exact hlt)⟩
    obtain ⟨g, off, rfl, hg, a1, n1, c1, x0, hL1⟩ := HX.out.at k x hxk
    obtain ⟨g', off', rfl, hg', b1, m1, e1, y0, hL2⟩ := HY.out.at k y hyk
    rw [Nat.mul_one] at x0 y0
    have HX0 := Lib.hid (And.intro hg x0)
    have HY0 := Lib.hid (And.intro hg' y0)
    rw [← cell_same (hB.block g hg)] at x0
    rw [← cell_same (hB.block g' hg')] at y0
    have hkI : (0 : Int) ≤ (k : Int) := by omega
    have hkI2 : (k : Int) < (n : Int) := by omega
    have HXK := Lib.hid hxk
    have HYK := Lib.hid hyk
    have HL1 := Lib.hid hL1
    have HL2 := Lib.hid hL2
    have HP := hp
    have HB := Lib.hid hB
    clear hxk hyk hL1 hL2 hp hB
    by_cases hl1 : n1 = m1
    rotate_left
    · have hres := Lib.hid (take_ne HXK.out HYK.out (fun e => hl1 (by rw [HL1.out.1, HL2.out.1, e])))
      have n1' : ((n1 : Int) != (m1 : Int)) = true := by rw [bne, show ((n1 : Int) == (m1 : Int)) = false from beq_eq_false_iff_ne.2 (by omega)]; rfl
      clear hl1
      go_wp2
      go_quiet (fail)
      go_wp2
      go_ret
      exact ⟨by rw [hres.out]; rfl, below_drewN HB.out _⟩
    subst hl1
    have n1' : ((n1 : Int) != (n1 : Int)) = false := by simp
    have hm1 : n1 ≤ 9223372036854775807 := by have := HL1.out.2.1; have := HL1.out.2.2.1.1; unfold maxLen at this; omega
    go_wp2
    go_quiet (fail)
    go_wp2_with fail
    clear x0 y0
    go_loopw [6] (fun i w2 => ∃ k1 : Nat, k1 ≤ n1 ∧ i = .int .i64 k1 ∧ Hid (x.take k1 = y.take k1) ∧ Hid (Below w.heap.size w w2)) (fun i _ => n1 - (intOf i).toNat)
    case atStart => exact ⟨0, Nat.zero_le _, rfl, Lib.hid rfl, Lib.hid (below_drewN HB.out _)⟩
    case round =>
      clear HB
      obtain ⟨k1, hk1, rfl, hp, HB⟩ := hrel
      have x0 := (HB.out.cell (p := ⟨g, off + k, none⟩) HX0.out.1).trans HX0.out.2
      have y0 := (HB.out.cell (p := ⟨g', off' + k, none⟩) HY0.out.1).trans HY0.out.2
      by_cases hlt1 : k1 < n1
      rotate_left
      · have hst := Lib.hid (take_eq HXK.out HYK.out (take_all HL1.out.1 HL2.out.1 (by have := hp.out; rwa [show k1 = n1 by omega] at this)) HP.out)
        have hkI3 : ¬ (k1 : Int) < (n1 : Int) := by omega
        clear hp
        go_wp2
        go_roundw
        case rel => exact ⟨k + 1, by omega, by go_num, hst, HB.out⟩
        case measure => simp [intOf]; omega
      obtain ⟨kx, hkx⟩ : ∃ kx, x[k1]? = some kx := ⟨_, List.getElem?_eq_getElem (by rw [← HL1.out.1]; exact hlt1)⟩
      obtain ⟨ky, hky⟩ : ∃ ky, y[k1]? = some ky := ⟨_, List.getElem?_eq_getElem (by rw [← HL2.out.1]; exact hlt1)⟩
      obtain ⟨h, hoff, rfl, hh, u0, a2, n2, c2, u1, hM1⟩ := HL1.out.at k1 kx hkx
      obtain ⟨h', hoff', rfl, hh', v0, b2, m2, e2, v1, hM2⟩ := HL2.out.at k1 ky hky
      rw [← cell_same (HB.out.block h hh)] at u0 u1
      rw [← cell_same (HB.out.block h' hh')] at v0 v1
      have hkI3 : (0 : Int) ≤ (k1 : Int) := by omega
      have hkI4 : (k1 : Int) < (n1 : Int) := by omega
      have HKX := Lib.hid hkx
      have HKY := Lib.hid hky
      have HM1 := Lib.hid hM1
      have HM2 := Lib.hid hM2
      have HP1 := hp
      clear hkx hky hM1 hM2 hp
      have Hx0 := Lib.hid x0
      have Hy0 := Lib.hid y0
      have Hu0 := Lib.hid u0
      have Hu1 := Lib.hid u1
      have Hv0 := Lib.hid v0
      have Hv1 := Lib.hid v1
      have MA := Lib.hid (fun (o : Obj) bl (hb : bl < w.heap.size) => (show (wr.alloc o).drew.heap[bl]? = wr.heap[bl]? from Below.heap_alloc _ _ _ (Nat.lt_of_lt_of_le hb HB.out.size)))
      have MB := Lib.hid (fun (o o' : Obj) bl (hb : bl < w.heap.size) => (show ((wr.alloc o).alloc o').drew.heap[bl]? = wr.heap[bl]? from (Below.heap_alloc _ _ _ (Nat.lt_of_lt_of_le hb (Nat.le_trans HB.out.size (by simp)))).trans (Below.heap_alloc _ _ _ (Nat.lt_of_lt_of_le hb HB.out.size))))
      go_wp2_with fail
      clear x0 y0 u0 u1 v0 v1
      go_cut [7, 8] from 44 to 59 (fun p q wx => ∃ r s, p = .pointer (some ⟨r, 0, none⟩) ∧ q = .pointer (some ⟨s, 0, none⟩) ∧ Blk wx r [.int .i64 kx.1, .slice a2 n2 c2] 95 ∧ Blk wx s [.int .i64 ky.1, .slice b2 m2 e2] 95 ∧ Below w.heap.size w wx)
      case first =>
        have x0_0 : wr.drew.cell? ⟨g, off + k, none⟩ = _ := Hx0.out
        have x0_1 := fun o => (show (wr.alloc o).drew.cell? ⟨g, off + k, none⟩ = wr.cell? ⟨g, off + k, none⟩ from cell_same (MA.out o _ HX0.out.1) _).trans Hx0.out
        have x0_2 := fun o o' => (show ((wr.alloc o).alloc o').drew.cell? ⟨g, off + k, none⟩ = wr.cell? ⟨g, off + k, none⟩ from cell_same (MB.out o o' _ HX0.out.1) _).trans Hx0.out
        have y0_0 : wr.drew.cell? ⟨g', off' + k, none⟩ = _ := Hy0.out
        have y0_1 := fun o => (show (wr.alloc o).drew.cell? ⟨g', off' + k, none⟩ = wr.cell? ⟨g', off' + k, none⟩ from cell_same (MA.out o _ HY0.out.1) _).trans Hy0.out
        have y0_2 := fun o o' => (show ((wr.alloc o).alloc o').drew.cell? ⟨g', off' + k, none⟩ = wr.cell? ⟨g', off' + k, none⟩ from cell_same (MB.out o o' _ HY0.out.1) _).trans Hy0.out
        have u0_0 : wr.drew.cell? ⟨h, hoff + k1 * 2, none⟩ = _ := Hu0.out
        have u0_1 := fun o => (show (wr.alloc o).drew.cell? ⟨h, hoff + k1 * 2, none⟩ = wr.cell? ⟨h, hoff + k1 * 2, none⟩ from cell_same (MA.out o _ hh) _).trans Hu0.out
        have u0_2 := fun o o' => (show ((wr.alloc o).alloc o').drew.cell? ⟨h, hoff + k1 * 2, none⟩ = wr.cell? ⟨h, hoff + k1 * 2, none⟩ from cell_same (MB.out o o' _ hh) _).trans Hu0.out
        have u1_0 : wr.drew.cell? ⟨h, hoff + k1 * 2 + 1, none⟩ = _ := Hu1.out
        have u1_1 := fun o => (show (wr.alloc o).drew.cell? ⟨h, hoff + k1 * 2 + 1, none⟩ = wr.cell? ⟨h, hoff + k1 * 2 + 1, none⟩ from cell_same (MA.out o _ hh) _).trans Hu1.out
        have u1_2 := fun o o' => (show ((wr.alloc o).alloc o').drew.cell? ⟨h, hoff + k1 * 2 + 1, none⟩ = wr.cell? ⟨h, hoff + k1 * 2 + 1, none⟩ from cell_same (MB.out o o' _ hh) _).trans Hu1.out
        have v0_0 : wr.drew.cell? ⟨h', hoff' + k1 * 2, none⟩ = _ := Hv0.out
        have v0_1 := fun o => (show (wr.alloc o).drew.cell? ⟨h', hoff' + k1 * 2, none⟩ = wr.cell? ⟨h', hoff' + k1 * 2, none⟩ from cell_same (MA.out o _ hh') _).trans Hv0.out
        have v0_2 := fun o o' => (show ((wr.alloc o).alloc o').drew.cell? ⟨h', hoff' + k1 * 2, none⟩ = wr.cell? ⟨h', hoff' + k1 * 2, none⟩ from cell_same (MB.out o o' _ hh') _).trans Hv0.out
        have v1_0 : wr.drew.cell? ⟨h', hoff' + k1 * 2 + 1, none⟩ = _ := Hv1.out
        have v1_1 := fun o => (show (wr.alloc o).drew.cell? ⟨h', hoff' + k1 * 2 + 1, none⟩ = wr.cell? ⟨h', hoff' + k1 * 2 + 1, none⟩ from cell_same (MA.out o _ hh') _).trans Hv1.out
        have v1_2 := fun o o' => (show ((wr.alloc o).alloc o').drew.cell? ⟨h', hoff' + k1 * 2 + 1, none⟩ = wr.cell? ⟨h', hoff' + k1 * 2 + 1, none⟩ from cell_same (MB.out o o' _ hh') _).trans Hv1.out
        go_region
        all_goals
          go_wp2_with fail
          go_meet
          first
            | exact ⟨_, _, rfl, rfl, (two_blk wr _ _ _).1, (two_blk wr _ _ _).2, ((HB.out.alloc HB.out.size _).alloc (Nat.le_trans HB.out.size (by simp)) _).drew⟩
            | exact ⟨_, _, rfl, rfl, (two_blk wr _ _ _).2, (two_blk wr _ _ _).1, ((HB.out.alloc HB.out.size _).alloc (Nat.le_trans HB.out.size (by simp)) _).drew⟩
      case rest =>
        obtain ⟨r, s, rfl, rfl, hr, hs, hbc⟩ := hcut
        have HR := Lib.hid hr
        have HS := Lib.hid hs
        have HBC := Lib.hid hbc
        have r0 := hr.cell 0 _ rfl
        have r1 := hr.cell 1 _ rfl
        have s0 := hs.cell 0 _ rfl
        have s1 := hs.cell 1 _ rfl
        clear hr hs hbc HB MA MB Hx0 Hy0 Hu0 Hu1 Hv0 Hv1
        by_cases hcm : kx.1 = ky.1
        rotate_left
        · have hres := Lib.hid (take_ne HXK.out HYK.out (fun e => by
            have h1 := HKX.out
            rw [e, HKY.out] at h1
            exact hcm (by rw [← Option.some.inj h1])))
          have q : (kx.1 != ky.1) = true := by rw [bne, beq_eq_false_iff_ne.2 hcm]; rfl
          clear hcm
          go_wp2
          go_ret
          exact ⟨by rw [hres.out]; rfl, HBC.out⟩
        have q : (kx.1 != ky.1) = false := by rw [bne, beq_iff_eq.2 hcm]; rfl
        by_cases hl2 : n2 = m2
        rotate_left
        · have hres := Lib.hid (take_ne HXK.out HYK.out (fun e => by
            have h1 := HKX.out
            rw [e, HKY.out] at h1
            exact hl2 (by rw [HM1.out.1, HM2.out.1, ← Option.some.inj h1])))
          have q2 : ((n2 : Int) != (m2 : Int)) = true := by rw [bne, show ((n2 : Int) == (m2 : Int)) = false from beq_eq_false_iff_ne.2 (by omega)]; rfl
          clear hl2 hcm
          go_wp2
          go_ret
          exact ⟨by rw [hres.out]; rfl, HBC.out⟩
        subst hl2
        have q2 : ((n2 : Int) != (n2 : Int)) = false := by simp
        have hm2 : n2 ≤ 9223372036854775807 := by have := HM1.out.2.1; have := HM1.out.2.2.1.1; unfold maxLen at this; omega
        have HCM := Lib.hid hcm
        clear hcm
        go_wp2_with fail
        clear r0 r1 s0 s1 q q2
        go_loopw [9] (fun i w2 => ∃ k2 : Nat, k2 ≤ n2 ∧ i = .int .i64 k2 ∧ Hid (kx.2.take k2 = ky.2.take k2) ∧ Hid (Below wc.heap.size wc w2)) (fun i _ => n2 - (intOf i).toNat)
        case atStart => exact ⟨0, Nat.zero_le _, rfl, Lib.hid rfl, Lib.hid (Below.refl _ _)⟩
        case round =>
          obtain ⟨k2, hk2, rfl, hp, HB⟩ := hrel
          have HBw := Lib.hid (HBC.out.trans (HB.out.mono HBC.out.size))
          have hr := HR.out.later HB.out HR.out.lt
          have hs := HS.out.later HB.out HS.out.lt
          have r1 := hr.cell 1 _ rfl
          have s1 := hs.cell 1 _ rfl
          by_cases hlt2 : k2 < n2
          rotate_left
          · have hst := Lib.hid (take_eq HKX.out HKY.out (Prod.ext HCM.out (take_all HM1.out.1 HM2.out.1 (by have := hp.out; rwa [show k2 = n2 by omega] at this))) HP1.out)
            have hkI5 : ¬ (k2 : Int) < (n2 : Int) := by omega
            clear hp
            go_wp2
            go_roundw
            case rel => exact ⟨k1 + 1, by omega, by go_num, hst, HBw⟩
            case measure => simp [intOf]; omega
          obtain ⟨sx, hsx⟩ : ∃ sx, kx.2[k2]? = some sx := ⟨_, List.getElem?_eq_getElem (by rw [← HM1.out.1]; exact hlt2)⟩
          obtain ⟨sy, hsy⟩ : ∃ sy, ky.2[k2]? = some sy := ⟨_, List.getElem?_eq_getElem (by rw [← HM2.out.1]; exact hlt2)⟩
          obtain ⟨l, loff, rfl, hl, ⟨t0, t1, t2, t3, t4, t5, t6, t7, t8, t9⟩, a3, n3, c3, t10, hN1, _⟩ := HM1.out.at k2 sx hsx
          obtain ⟨l', loff', rfl, hl', ⟨z0, z1, z2, z3, z4, z5, z6, z7, z8, z9⟩, b3, m3, e3, z10, hN2, _⟩ := HM2.out.at k2 sy hsy
          have hbD := HBw.out.drew
          rw [← cell_same (hbD.block l hl)] at t0 t1 t2 t3 t4 t5 t6 t7 t8 t9 t10
          rw [← cell_same (hbD.block l' hl')] at z0 z1 z2 z3 z4 z5 z6 z7 z8 z9 z10
          have r1D : wr.drew.cell? ⟨r, 1, none⟩ = _ := r1
          have s1D : wr.drew.cell? ⟨s, 1, none⟩ = _ := s1
          have hkI5 : (0 : Int) ≤ (k2 : Int) := by omega
          have hkI6 : (k2 : Int) < (n2 : Int) := by omega
          have fS := rsame1_any d IH sx.1 sy.1 sx.2 sy.2 a3 n3 c3 b3 m3 e3 wr.drew (hN1.later hbD (Nat.le_refl _)) (hN2.later hbD (Nat.le_refl _))
          unfold sval at fS
          have HBD := Lib.hid hbD
          by_cases hxy : sx = sy
          · have hst := Lib.hid (take_eq hsx hsy hxy hp.out)
            rw [decide_eq_true (by rw [hxy])] at fS
            clear hp hsx hsy hxy hN1 hN2 hbD hr hs
            go_wp2
            go_region_with ((go_at_call 54); (with_reducible refine fS.mono ?_); rintro e w4 ⟨rfl, hb4⟩)
            all_goals
              go_wp2
              go_roundw
              case rel => exact ⟨k2 + 1, by omega, by go_num, hst, Lib.hid (HB.out.drew.trans (hb4.mono HB.out.drew.size))⟩
              case measure => simp [intOf]; omega
          · have hres := Lib.hid (take_ne HXK.out HYK.out (fun e => by
              have h1 := HKX.out
              rw [e, HKY.out] at h1
              have h2 := Option.some.inj h1
              rw [← h2, hsy] at hsx
              exact hxy (Option.some.inj hsx).symm))
            rw [decide_eq_false (by intro he; exact hxy (by rw [Prod.mk.injEq] at he; exact Prod.ext he.1 he.2))] at fS
            clear hp hsx hsy hxy hN1 hN2 hbD hr hs
            go_wp2
            go_region_with ((go_at_call 54); (with_reducible refine fS.mono ?_); rintro e w4 ⟨rfl, hb4⟩)
            all_goals
              go_wp2
              go_ret
              exact ⟨by rw [hres.out]; rfl, HBD.out.trans (hb4.mono HBD.out.size)⟩

set_option maxRecDepth 100000 in
set_option maxHeartbeats 4000000 in
theorem rsame_nil (a a' : Option Addr) (c c' : Nat) (w : World) : Calls Try.prog 27 #[.slice a 0 c, .slice a' 0 c'] w (Told (.bool true) w) := by
  go_enter Try.func27, Try.ntmps27
  go_wp2_with fail
  refine wp_loop_rounds 1 ?_
  rw [rounds_succ]
  go_wp2
  go_ret
  exact ⟨rfl, Below.refl _ _⟩
theorem rsame_any : ∀ d, SameV 27 d
  | 0 => fun x y a n c b m e w hx hy => by
    obtain ⟨rfl, _⟩ := hx
    obtain ⟨rfl, _⟩ := hy
    rw [decide_eq_true (show x = y from rfl)]
    exact rsame_nil a b c e w
  | d + 1 => fun x y a n c b m e w hx hy => rsameX_any d (rsame_any d) x y a b n m c e w hx hy
end Go.Proofs.Ytfgnepbpfglepaa
