/- Lists of selectors held against one another, by the program: walks. -/
import Derived.Test.YtfgnepbpfglepaaSm0
import Derived.Test.YtfgnepbpfglepaaSl3
import Derived.Deep.RegionHeld3
namespace Go.Proofs.Ytfgnepbpfglepaa
open Go.RowKit
set_option linter.unusedVariables false
set_option linter.unusedSimpArgs false

theorem str_beq (a b : ByteArray) : (a.toList == b.toList) = decide (a = b) := by
  rw [ByteArray.toList_eq, ByteArray.toList_eq, Bool.eq_iff_iff, beq_iff_eq, decide_eq_true_iff]
  constructor
  · intro h
    cases a; cases b
    simp at h
    rw [h]
  · intro h; rw [h]
theorem bel_tr {w0 w1 w2 : World} (h : Below w0.heap.size w0 w1) (h2 : Below w1.heap.size w1 w2) : Below w0.heap.size w0 w2 := h.trans (h2.mono h.size)
/-- What Same tells of lists of a depth. -/
def SameV (fn : Nat) (d : Nat) : Prop := ∀ (x y : Lx d) (a : Option Addr) (n c : Nat) (b : Option Addr) (m e : Nat) (w : World), RdL (· < w.heap.size) d w a n c x → RdL (· < w.heap.size) d w b m e y →
  Calls Try.prog fn #[.slice a n c, .slice b m e] w (Told (.bool (decide (x = y))) w)
def scs (f : Flat) (a : Option Addr) (n c : Nat) : List Value := [.int .i64 f.kind, .int .i64 f.ns, .string f.pre, .string f.name, .int .i64 f.op, .string f.text, .bool f.fold, .int .i64 f.mark, .int .i64 f.a, .int .i64 f.b, .slice a n c]

set_option maxRecDepth 100000 in
set_option maxHeartbeats 8000000 in
theorem sameSimple_any (d : Nat) (IH : SameV 26 d) (f g : Flat) (x y : Lx d) (a : Option Addr) (n c : Nat) (b : Option Addr) (m e : Nat) (w : World) (hx : RdL (· < w.heap.size) d w a n c x) (hy : RdL (· < w.heap.size) d w b m e y) :
    Calls Try.prog 93 #[sval f a n c, sval g b m e] w (Told (.bool (decide ((f, x) = (g, y)))) w) := by
  unfold sval
  have hbX := (Below.refl w.heap.size w).alloc (Nat.le_refl _) (.cells #[.int .i64 f.kind, .int .i64 f.ns, .string f.pre, .string f.name, .int .i64 f.op, .string f.text, .bool f.fold, .int .i64 f.mark, .int .i64 f.a, .int .i64 f.b, .slice a n c] 86)
  have hbW := hbX.alloc hbX.size (.cells #[.int .i64 g.kind, .int .i64 g.ns, .string g.pre, .string g.name, .int .i64 g.op, .string g.text, .bool g.fold, .int .i64 g.mark, .int .i64 g.a, .int .i64 g.b, .slice b m e] 86)
  have fS := IH x y a n c b m e _ (hx.later hbW (Nat.le_refl _)) (hy.later hbW (Nat.le_refl _))
  have HBW := Lib.hid hbW
  have HR : Hid (decide ((f, x) = (g, y)) = (decide (f.kind = g.kind) && (decide (f.ns = g.ns) && (decide (f.pre = g.pre) && (decide (f.name = g.name) && (decide (f.op = g.op) && (decide (f.text = g.text) && (decide (f.fold = g.fold) && (decide (f.mark = g.mark) && (decide (f.a = g.a) && (decide (f.b = g.b) && decide (x = y)))))))))))) := Lib.hid (by
    rw [Bool.eq_iff_iff]
    cases f; cases g
    simp only [Bool.and_eq_true, decide_eq_true_iff, Prod.mk.injEq, Flat.mk.injEq]
    constructor
    · rintro ⟨⟨h0, h1, h2, h3, h4, h5, h6, h7, h8, h9⟩, h10⟩; exact ⟨h0, h1, h2, h3, h4, h5, h6, h7, h8, h9, h10⟩
    · rintro ⟨h0, h1, h2, h3, h4, h5, h6, h7, h8, h9, h10⟩; exact ⟨⟨h0, h1, h2, h3, h4, h5, h6, h7, h8, h9⟩, h10⟩)
  generalize decide ((f, x) = (g, y)) = R at *
  have e0 : (f.kind == g.kind) = decide (f.kind = g.kind) := rfl
  have e1 : (f.ns == g.ns) = decide (f.ns = g.ns) := rfl
  have e2 := str_beq f.pre g.pre
  have e3 := str_beq f.name g.name
  have e4 : (f.op == g.op) = decide (f.op = g.op) := rfl
  have e5 := str_beq f.text g.text
  have e6 : (f.fold == g.fold) = decide (f.fold = g.fold) := rfl
  have e7 : (f.mark == g.mark) = decide (f.mark = g.mark) := rfl
  have e8 : (f.a == g.a) = decide (f.a = g.a) := rfl
  have e9 : (f.b == g.b) = decide (f.b = g.b) := rfl
  clear hx hy hbX hbW IH
  generalize decide (x = y) = r10 at *
  generalize decide (f.kind = g.kind) = r0 at *
  generalize decide (f.ns = g.ns) = r1 at *
  generalize decide (f.pre = g.pre) = r2 at *
  generalize decide (f.name = g.name) = r3 at *
  generalize decide (f.op = g.op) = r4 at *
  generalize decide (f.text = g.text) = r5 at *
  generalize decide (f.fold = g.fold) = r6 at *
  generalize decide (f.mark = g.mark) = r7 at *
  generalize decide (f.a = g.a) = r8 at *
  generalize decide (f.b = g.b) = r9 at *
  cases r0
  · go_enter Try.func93, Try.ntmps93
    go_wp2_with (go_at_call 26; (with_reducible refine fS.mono ?_); rintro e wq ⟨rfl, hq⟩)
    go_ret
    exact ⟨by rw [HR.out]; first | rfl | (cases r10 <;> rfl), by first | exact HBW.out | exact bel_tr HBW.out hq⟩
  · cases r1
    · go_enter Try.func93, Try.ntmps93
      go_wp2_with (go_at_call 26; (with_reducible refine fS.mono ?_); rintro e wq ⟨rfl, hq⟩)
      go_ret
      exact ⟨by rw [HR.out]; first | rfl | (cases r10 <;> rfl), by first | exact HBW.out | exact bel_tr HBW.out hq⟩
    · cases r2
      · go_enter Try.func93, Try.ntmps93
        go_wp2_with (go_at_call 26; (with_reducible refine fS.mono ?_); rintro e wq ⟨rfl, hq⟩)
        go_ret
        exact ⟨by rw [HR.out]; first | rfl | (cases r10 <;> rfl), by first | exact HBW.out | exact bel_tr HBW.out hq⟩
      · cases r3
        · go_enter Try.func93, Try.ntmps93
          go_wp2_with (go_at_call 26; (with_reducible refine fS.mono ?_); rintro e wq ⟨rfl, hq⟩)
          go_ret
          exact ⟨by rw [HR.out]; first | rfl | (cases r10 <;> rfl), by first | exact HBW.out | exact bel_tr HBW.out hq⟩
        · cases r4
          · go_enter Try.func93, Try.ntmps93
            go_wp2_with (go_at_call 26; (with_reducible refine fS.mono ?_); rintro e wq ⟨rfl, hq⟩)
            go_ret
            exact ⟨by rw [HR.out]; first | rfl | (cases r10 <;> rfl), by first | exact HBW.out | exact bel_tr HBW.out hq⟩
          · cases r5
            · go_enter Try.func93, Try.ntmps93
              go_wp2_with (go_at_call 26; (with_reducible refine fS.mono ?_); rintro e wq ⟨rfl, hq⟩)
              go_ret
              exact ⟨by rw [HR.out]; first | rfl | (cases r10 <;> rfl), by first | exact HBW.out | exact bel_tr HBW.out hq⟩
            · cases r6
              · go_enter Try.func93, Try.ntmps93
                go_wp2_with (go_at_call 26; (with_reducible refine fS.mono ?_); rintro e wq ⟨rfl, hq⟩)
                go_ret
                exact ⟨by rw [HR.out]; first | rfl | (cases r10 <;> rfl), by first | exact HBW.out | exact bel_tr HBW.out hq⟩
              · cases r7
                · go_enter Try.func93, Try.ntmps93
                  go_wp2_with (go_at_call 26; (with_reducible refine fS.mono ?_); rintro e wq ⟨rfl, hq⟩)
                  go_ret
                  exact ⟨by rw [HR.out]; first | rfl | (cases r10 <;> rfl), by first | exact HBW.out | exact bel_tr HBW.out hq⟩
                · cases r8
                  · go_enter Try.func93, Try.ntmps93
                    go_wp2_with (go_at_call 26; (with_reducible refine fS.mono ?_); rintro e wq ⟨rfl, hq⟩)
                    go_ret
                    exact ⟨by rw [HR.out]; first | rfl | (cases r10 <;> rfl), by first | exact HBW.out | exact bel_tr HBW.out hq⟩
                  · cases r9
                    · go_enter Try.func93, Try.ntmps93
                      go_wp2_with (go_at_call 26; (with_reducible refine fS.mono ?_); rintro e wq ⟨rfl, hq⟩)
                      go_ret
                      exact ⟨by rw [HR.out]; first | rfl | (cases r10 <;> rfl), by first | exact HBW.out | exact bel_tr HBW.out hq⟩
                    · go_enter Try.func93, Try.ntmps93
                      go_wp2_with (go_at_call 26; (with_reducible refine fS.mono ?_); rintro e wq ⟨rfl, hq⟩)
                      go_ret
                      exact ⟨by rw [HR.out]; first | rfl | (cases r10 <;> rfl), by first | exact HBW.out | exact bel_tr HBW.out hq⟩

theorem RdSl.later {w w' : World} {B : Nat} (hb : Below B w w') (hB : B ≤ w.heap.size) {d : Nat} {a : Option Addr} {n c : Nat} {x : List (Flat × Lx d)} (h : RdOf (· < B) 11 (SimpleAt (RdL (· < B) d w) w) a n c x) : RdOf (· < w'.heap.size) 11 (SimpleAt (RdL (· < w'.heap.size) d w') w') a n c x :=
  RdOf.imp h (fun b h => Nat.lt_of_lt_of_le h (Nat.le_trans hB hb.size)) (fun _ _ _ hb' hx => hx.move (hb.block _ hb') (fun _ _ _ _ h => RdL.later hb hB h))

set_option maxRecDepth 100000 in
set_option maxHeartbeats 4000000 in
theorem eqS_any (d : Nat) (IH : SameV 26 d) (xs ys : List (Flat × Lx d)) (a a' : Option Addr) (n n' c c' : Nat) (w : World) (hx : RdOf (· < w.heap.size) 11 (SimpleAt (RdL (· < w.heap.size) d w) w) a n c xs) (hy : RdOf (· < w.heap.size) 11 (SimpleAt (RdL (· < w.heap.size) d w) w) a' n' c' ys) :
    Calls Try.prog 92 #[.slice a n c, .slice a' n' c', .func (.func 93) #[] #[]] w (Told (.bool (decide (xs = ys))) w) := by
  have hm : n ≤ 9223372036854775807 := by have := hx.2.1; have := hx.2.2.1.1; unfold maxLen at this; omega
  have hm' : n' ≤ 9223372036854775807 := by have := hy.2.1; have := hy.2.2.1.1; unfold maxLen at this; omega
  have HN := Lib.hid hx.1
  have HN' := Lib.hid hy.1
  have HX := Lib.hid hx
  have HY := Lib.hid hy
  clear hx hy
  by_cases hl : n = n'
  · subst hl
    have n0 : ((n : Int) != (n : Int)) = false := by simp
    go_enter Try.func92, Try.ntmps92
    go_wp2_with fail
    go_loopw [17] (fun i wr => ∃ k : Nat, k ≤ n ∧ i = .int .i64 k ∧ Hid (xs.take k = ys.take k) ∧ Below w.heap.size w wr) (fun i _ => n - (intOf i).toNat)
    case atStart => exact ⟨0, Nat.zero_le _, rfl, Lib.hid rfl, Below.refl _ _⟩
    case round =>
      obtain ⟨k, hk, rfl, hp, hB⟩ := hrel
      by_cases hlt : k < n
      · obtain ⟨x, hx⟩ : ∃ x, xs[k]? = some x := ⟨_, List.getElem?_eq_getElem (by rw [← HN.out]; exact hlt)⟩
        obtain ⟨y, hy⟩ : ∃ y, ys[k]? = some y := ⟨_, List.getElem?_eq_getElem (by rw [← HN'.out]; exact hlt)⟩
        obtain ⟨g, off, rfl, hg, ⟨x0, x1, x2, x3, x4, x5, x6, x7, x8, x9⟩, a1, n1, c1, x10, hL1, _⟩ := HX.out.at k x hx
        obtain ⟨g', off', rfl, hg', ⟨y0, y1, y2, y3, y4, y5, y6, y7, y8, y9⟩, b1, m1, e1, y10, hL2, _⟩ := HY.out.at k y hy
        rw [← cell_same (hB.block g hg)] at x0 x1 x2 x3 x4 x5 x6 x7 x8 x9 x10
        rw [← cell_same (hB.block g' hg')] at y0 y1 y2 y3 y4 y5 y6 y7 y8 y9 y10
        have hkI : (0 : Int) ≤ (k : Int) := by omega
        have hkI2 : (k : Int) < (n : Int) := by omega
        have HXK := Lib.hid hx
        have HYK := Lib.hid hy
        have hbX := hB.alloc hB.size (.cells #[.int .i64 x.1.kind, .int .i64 x.1.ns, .string x.1.pre, .string x.1.name, .int .i64 x.1.op, .string x.1.text, .bool x.1.fold, .int .i64 x.1.mark, .int .i64 x.1.a, .int .i64 x.1.b, .slice a1 n1 c1] 86)
        have hbW := hbX.alloc hbX.size (.cells #[.int .i64 y.1.kind, .int .i64 y.1.ns, .string y.1.pre, .string y.1.name, .int .i64 y.1.op, .string y.1.text, .bool y.1.fold, .int .i64 y.1.mark, .int .i64 y.1.a, .int .i64 y.1.b, .slice b1 m1 e1] 86)
        have cS := sameSimple_any d IH x.1 y.1 x.2 y.2 a1 n1 c1 b1 m1 e1 _ (hL1.later hbW (Nat.le_refl _)) (hL2.later hbW (Nat.le_refl _))
        unfold sval at cS
        have y0' : (wr.alloc (.cells #[.int .i64 x.1.kind, .int .i64 x.1.ns, .string x.1.pre, .string x.1.name, .int .i64 x.1.op, .string x.1.text, .bool x.1.fold, .int .i64 x.1.mark, .int .i64 x.1.a, .int .i64 x.1.b, .slice a1 n1 c1] 86)).heap[g']? = wr.heap[g']? := Below.heap_alloc _ _ _ (Nat.lt_of_lt_of_le hg' hB.size)
        have z0 := (cell_same y0' (off' + k * 11)).trans y0
        have z1 := (cell_same y0' (off' + k * 11 + 1)).trans y1
        have z2 := (cell_same y0' (off' + k * 11 + 2)).trans y2
        have z3 := (cell_same y0' (off' + k * 11 + 3)).trans y3
        have z4 := (cell_same y0' (off' + k * 11 + 4)).trans y4
        have z5 := (cell_same y0' (off' + k * 11 + 5)).trans y5
        have z6 := (cell_same y0' (off' + k * 11 + 6)).trans y6
        have z7 := (cell_same y0' (off' + k * 11 + 7)).trans y7
        have z8 := (cell_same y0' (off' + k * 11 + 8)).trans y8
        have z9 := (cell_same y0' (off' + k * 11 + 9)).trans y9
        have z10 := (cell_same y0' (off' + k * 11 + 10)).trans y10
        have HBW := Lib.hid hbW
        by_cases hxy : x = y
        · have hst := Lib.hid (show xs.take (k + 1) = ys.take (k + 1) from by rw [List.take_add_one, List.take_add_one, HXK.out, HYK.out, hp.out, hxy])
          rw [decide_eq_true (by first | exact hxy | (rw [hxy]))] at cS
          clear hp hx hy hxy hL1 hL2 hbX hbW y0 y1 y2 y3 y4 y5 y6 y7 y8 y9 y10 y0' hB
          go_wp2_with (go_at_call 93; (with_reducible refine cS.mono ?_); rintro e w3 ⟨rfl, hb3⟩)
          go_roundw
          case rel => exact ⟨k + 1, by omega, by go_num, hst, HBW.out.trans (hb3.mono HBW.out.size)⟩
          case measure => simp [intOf]; omega
        · have hres := Lib.hid (show decide (xs = ys) = false from decide_eq_false (fun e => hxy (by
            have h1 := HXK.out
            rw [e, HYK.out] at h1
            exact (Option.some.inj h1).symm)))
          rw [decide_eq_false (by first | exact hxy | (intro he; exact hxy (by rw [Prod.mk.injEq] at he; exact Prod.ext he.1 he.2)))] at cS
          clear hp hx hy hxy hL1 hL2 hbX hbW y0 y1 y2 y3 y4 y5 y6 y7 y8 y9 y10 y0' hB
          go_wp2_with (go_at_call 93; (with_reducible refine cS.mono ?_); rintro e w3 ⟨rfl, hb3⟩)
          go_ret
          exact ⟨by rw [hres.out]; rfl, HBW.out.trans (hb3.mono HBW.out.size)⟩
      · have hres := Lib.hid (show decide (xs = ys) = true from decide_eq_true (by
          have := hp.out
          rwa [List.take_of_length_le (by rw [← HN.out]; omega), List.take_of_length_le (by rw [← HN'.out]; omega)] at this))
        have hkI : ¬ (k : Int) < (n : Int) := by omega
        clear hp
        go_wp2
        go_ret
        exact ⟨by rw [hres.out]; rfl, hB⟩
  · have hres := Lib.hid (show decide (xs = ys) = false from decide_eq_false (fun e => hl (by rw [HN.out, HN'.out, e])))
    have n0 : ((n : Int) != (n' : Int)) = true := by rw [bne, show ((n : Int) == (n' : Int)) = false from beq_eq_false_iff_ne.2 (by omega)]; rfl
    clear hl
    go_enter Try.func92, Try.ntmps92
    go_wp2
    go_ret
    exact ⟨by rw [hres.out]; rfl, Below.refl _ _⟩

set_option maxRecDepth 100000 in
set_option maxHeartbeats 4000000 in
theorem sameCompound_any (d : Nat) (IH : SameV 26 d) (x y : Int × List (Flat × Lx d)) (a : Option Addr) (n c : Nat) (b : Option Addr) (m e : Nat) (w : World) (hx : RdOf (· < w.heap.size) 11 (SimpleAt (RdL (· < w.heap.size) d w) w) a n c x.2) (hy : RdOf (· < w.heap.size) 11 (SimpleAt (RdL (· < w.heap.size) d w) w) b m e y.2) :
    Calls Try.prog 76 #[.agg #[.int .i64 x.1, .slice a n c], .agg #[.int .i64 y.1, .slice b m e]] w (Told (.bool (decide (x = y))) w) := by
  have hbX := (Below.refl w.heap.size w).alloc (Nat.le_refl _) (.cells #[.int .i64 x.1, .slice a n c] 95)
  have hbW := hbX.alloc hbX.size (.cells #[.int .i64 y.1, .slice b m e] 95)
  have fS := eqS_any d IH x.2 y.2 a b n m c e _ (RdSl.later hbW (Nat.le_refl _) hx) (RdSl.later hbW (Nat.le_refl _) hy)
  have HBW := Lib.hid hbW
  have HR : Hid (decide (x = y) = (decide (x.1 = y.1) && decide (x.2 = y.2))) := Lib.hid (by
    rw [Bool.eq_iff_iff]
    obtain ⟨x1, x2⟩ := x
    obtain ⟨y1, y2⟩ := y
    simp only [Bool.and_eq_true, decide_eq_true_iff, Prod.mk.injEq])
  generalize decide (x = y) = R at *
  have e0 : (x.1 == y.1) = decide (x.1 = y.1) := rfl
  clear hx hy hbX hbW IH
  generalize decide (x.2 = y.2) = r1 at *
  generalize decide (x.1 = y.1) = r0 at *
  cases r0
  · go_enter Try.func76, Try.ntmps76
    go_wp2_with fail
    go_ret
    exact ⟨by rw [HR.out]; rfl, HBW.out⟩
  · go_enter Try.func76, Try.ntmps76
    go_wp2_with (go_at_call 92; (with_reducible refine fS.mono ?_); rintro e wq ⟨rfl, hq⟩)
    go_ret
    exact ⟨by rw [HR.out]; first | rfl | (cases r1 <;> rfl), bel_tr HBW.out hq⟩

set_option maxRecDepth 100000 in
set_option maxHeartbeats 4000000 in
theorem eqK_any (d : Nat) (IH : SameV 26 d) (xs ys : List (Int × List (Flat × Lx d))) (a a' : Option Addr) (n n' c c' : Nat) (w : World) (hx : RdX (· < w.heap.size) (RdL (· < w.heap.size) d w) w a n c xs) (hy : RdX (· < w.heap.size) (RdL (· < w.heap.size) d w) w a' n' c' ys) :
    Calls Try.prog 75 #[.slice a n c, .slice a' n' c', .func (.func 76) #[] #[]] w (Told (.bool (decide (xs = ys))) w) := by
  have hm : n ≤ 9223372036854775807 := by have := hx.2.1; have := hx.2.2.1.1; unfold maxLen at this; omega
  have hm' : n' ≤ 9223372036854775807 := by have := hy.2.1; have := hy.2.2.1.1; unfold maxLen at this; omega
  have HN := Lib.hid hx.1
  have HN' := Lib.hid hy.1
  have HX := Lib.hid hx
  have HY := Lib.hid hy
  clear hx hy
  by_cases hl : n = n'
  · subst hl
    have n0 : ((n : Int) != (n : Int)) = false := by simp
    go_enter Try.func75, Try.ntmps75
    go_wp2_with fail
    go_loopw [17] (fun i wr => ∃ k : Nat, k ≤ n ∧ i = .int .i64 k ∧ Hid (xs.take k = ys.take k) ∧ Below w.heap.size w wr) (fun i _ => n - (intOf i).toNat)
    case atStart => exact ⟨0, Nat.zero_le _, rfl, Lib.hid rfl, Below.refl _ _⟩
    case round =>
      obtain ⟨k, hk, rfl, hp, hB⟩ := hrel
      by_cases hlt : k < n
      · obtain ⟨x, hx⟩ : ∃ x, xs[k]? = some x := ⟨_, List.getElem?_eq_getElem (by rw [← HN.out]; exact hlt)⟩
        obtain ⟨y, hy⟩ : ∃ y, ys[k]? = some y := ⟨_, List.getElem?_eq_getElem (by rw [← HN'.out]; exact hlt)⟩
        obtain ⟨g, off, rfl, hg, x0, a1, n1, c1, x1, hL1⟩ := HX.out.at k x hx
        obtain ⟨g', off', rfl, hg', y0, b1, m1, e1, y1, hL2⟩ := HY.out.at k y hy
        rw [← cell_same (hB.block g hg)] at x0 x1
        rw [← cell_same (hB.block g' hg')] at y0 y1
        have hkI : (0 : Int) ≤ (k : Int) := by omega
        have hkI2 : (k : Int) < (n : Int) := by omega
        have HXK := Lib.hid hx
        have HYK := Lib.hid hy
        have hbX := hB.alloc hB.size (.cells #[.int .i64 x.1, .slice a1 n1 c1] 95)
        have hbW := hbX.alloc hbX.size (.cells #[.int .i64 y.1, .slice b1 m1 e1] 95)
        have cS := sameCompound_any d IH x y a1 n1 c1 b1 m1 e1 _ (RdSl.later hbW (Nat.le_refl _) hL1) (RdSl.later hbW (Nat.le_refl _) hL2)

        have y0' : (wr.alloc (.cells #[.int .i64 x.1, .slice a1 n1 c1] 95)).heap[g']? = wr.heap[g']? := Below.heap_alloc _ _ _ (Nat.lt_of_lt_of_le hg' hB.size)
        have z0 := (cell_same y0' (off' + k * 2)).trans y0
        have z1 := (cell_same y0' (off' + k * 2 + 1)).trans y1
        have HBW := Lib.hid hbW
        by_cases hxy : x = y
        · have hst := Lib.hid (show xs.take (k + 1) = ys.take (k + 1) from by rw [List.take_add_one, List.take_add_one, HXK.out, HYK.out, hp.out, hxy])
          rw [decide_eq_true (by first | exact hxy | (rw [hxy]))] at cS
          clear hp hx hy hxy hL1 hL2 hbX hbW y0 y1 y0' hB
          go_wp2_with (go_at_call 76; (with_reducible refine cS.mono ?_); rintro e w3 ⟨rfl, hb3⟩)
          go_roundw
          case rel => exact ⟨k + 1, by omega, by go_num, hst, HBW.out.trans (hb3.mono HBW.out.size)⟩
          case measure => simp [intOf]; omega
        · have hres := Lib.hid (show decide (xs = ys) = false from decide_eq_false (fun e => hxy (by
            have h1 := HXK.out
            rw [e, HYK.out] at h1
            exact (Option.some.inj h1).symm)))
          rw [decide_eq_false (by first | exact hxy | (intro he; exact hxy (by rw [Prod.mk.injEq] at he; exact Prod.ext he.1 he.2)))] at cS
          clear hp hx hy hxy hL1 hL2 hbX hbW y0 y1 y0' hB
          go_wp2_with (go_at_call 76; (with_reducible refine cS.mono ?_); rintro e w3 ⟨rfl, hb3⟩)
          go_ret
          exact ⟨by rw [hres.out]; rfl, HBW.out.trans (hb3.mono HBW.out.size)⟩
      · have hres := Lib.hid (show decide (xs = ys) = true from decide_eq_true (by
          have := hp.out
          rwa [List.take_of_length_le (by rw [← HN.out]; omega), List.take_of_length_le (by rw [← HN'.out]; omega)] at this))
        have hkI : ¬ (k : Int) < (n : Int) := by omega
        clear hp
        go_wp2
        go_ret
        exact ⟨by rw [hres.out]; rfl, hB⟩
  · have hres := Lib.hid (show decide (xs = ys) = false from decide_eq_false (fun e => hl (by rw [HN.out, HN'.out, e])))
    have n0 : ((n : Int) != (n' : Int)) = true := by rw [bne, show ((n : Int) == (n' : Int)) = false from beq_eq_false_iff_ne.2 (by omega)]; rfl
    clear hl
    go_enter Try.func75, Try.ntmps75
    go_wp2
    go_ret
    exact ⟨by rw [hres.out]; rfl, Below.refl _ _⟩

set_option maxRecDepth 100000 in
set_option maxHeartbeats 4000000 in
theorem sameComplex_any (d : Nat) (IH : SameV 26 d) (x y : List (Int × List (Flat × Lx d))) (a : Option Addr) (n c : Nat) (b : Option Addr) (m e : Nat) (w : World) (hx : RdX (· < w.heap.size) (RdL (· < w.heap.size) d w) w a n c x) (hy : RdX (· < w.heap.size) (RdL (· < w.heap.size) d w) w b m e y) :
    Calls Try.prog 53 #[.agg #[.slice a n c], .agg #[.slice b m e]] w (Told (.bool (decide (x = y))) w) := by
  have hbX := (Below.refl w.heap.size w).alloc (Nat.le_refl _) (.cells #[.slice a n c] 79)
  have hbW := hbX.alloc hbX.size (.cells #[.slice b m e] 79)
  have fS := eqK_any d IH x y a b n m c e _ (RdX.later hbW (Nat.le_refl _) hx) (RdX.later hbW (Nat.le_refl _) hy)
  have HBW := Lib.hid hbW
  clear hx hy hbX hbW IH
  go_enter Try.func53, Try.ntmps53
  go_wp2_with (go_at_call 75; (with_reducible refine fS.mono ?_); rintro e wq ⟨rfl, hq⟩)
  go_ret
  exact ⟨rfl, bel_tr HBW.out hq⟩

set_option maxRecDepth 100000 in
set_option maxHeartbeats 4000000 in
theorem eqX_any (d : Nat) (IH : SameV 26 d) (xs ys : List (List (Int × List (Flat × Lx d)))) (a a' : Option Addr) (n n' c c' : Nat) (w : World) (hx : RdOf (· < w.heap.size) 1 (ComplexAt (· < w.heap.size) (RdL (· < w.heap.size) d w) w) a n c xs) (hy : RdOf (· < w.heap.size) 1 (ComplexAt (· < w.heap.size) (RdL (· < w.heap.size) d w) w) a' n' c' ys) :
    Calls Try.prog 52 #[.slice a n c, .slice a' n' c', .func (.func 53) #[] #[]] w (Told (.bool (decide (xs = ys))) w) := by
  have hm : n ≤ 9223372036854775807 := by have := hx.2.1; have := hx.2.2.1.1; unfold maxLen at this; omega
  have hm' : n' ≤ 9223372036854775807 := by have := hy.2.1; have := hy.2.2.1.1; unfold maxLen at this; omega
  have HN := Lib.hid hx.1
  have HN' := Lib.hid hy.1
  have HX := Lib.hid hx
  have HY := Lib.hid hy
  clear hx hy
  by_cases hl : n = n'
  · subst hl
    have n0 : ((n : Int) != (n : Int)) = false := by simp
    go_enter Try.func52, Try.ntmps52
    go_wp2_with fail
    go_loopw [17] (fun i wr => ∃ k : Nat, k ≤ n ∧ i = .int .i64 k ∧ Hid (xs.take k = ys.take k) ∧ Below w.heap.size w wr) (fun i _ => n - (intOf i).toNat)
    case atStart => exact ⟨0, Nat.zero_le _, rfl, Lib.hid rfl, Below.refl _ _⟩
    case round =>
      obtain ⟨k, hk, rfl, hp, hB⟩ := hrel
      by_cases hlt : k < n
      · obtain ⟨x, hx⟩ : ∃ x, xs[k]? = some x := ⟨_, List.getElem?_eq_getElem (by rw [← HN.out]; exact hlt)⟩
        obtain ⟨y, hy⟩ : ∃ y, ys[k]? = some y := ⟨_, List.getElem?_eq_getElem (by rw [← HN'.out]; exact hlt)⟩
        obtain ⟨g, off, rfl, hg, a1, n1, c1, x0, hL1⟩ := HX.out.at k x hx
        rw [Nat.mul_one] at x0
        obtain ⟨g', off', rfl, hg', b1, m1, e1, y0, hL2⟩ := HY.out.at k y hy
        rw [Nat.mul_one] at y0
        rw [← cell_same (hB.block g hg)] at x0
        rw [← cell_same (hB.block g' hg')] at y0
        have hkI : (0 : Int) ≤ (k : Int) := by omega
        have hkI2 : (k : Int) < (n : Int) := by omega
        have HXK := Lib.hid hx
        have HYK := Lib.hid hy
        have hbX := hB.alloc hB.size (.cells #[.slice a1 n1 c1] 79)
        have hbW := hbX.alloc hbX.size (.cells #[.slice b1 m1 e1] 79)
        have cS := sameComplex_any d IH x y a1 n1 c1 b1 m1 e1 _ (RdX.later hbW (Nat.le_refl _) hL1) (RdX.later hbW (Nat.le_refl _) hL2)

        have y0' : (wr.alloc (.cells #[.slice a1 n1 c1] 79)).heap[g']? = wr.heap[g']? := Below.heap_alloc _ _ _ (Nat.lt_of_lt_of_le hg' hB.size)
        have z0 := (cell_same y0' (off' + k)).trans y0
        have HBW := Lib.hid hbW
        by_cases hxy : x = y
        · have hst := Lib.hid (show xs.take (k + 1) = ys.take (k + 1) from by rw [List.take_add_one, List.take_add_one, HXK.out, HYK.out, hp.out, hxy])
          rw [decide_eq_true (by first | exact hxy | (rw [hxy]))] at cS
          clear hp hx hy hxy hL1 hL2 hbX hbW y0 y0' hB
          go_wp2_with (go_at_call 53; (with_reducible refine cS.mono ?_); rintro e w3 ⟨rfl, hb3⟩)
          go_roundw
          case rel => exact ⟨k + 1, by omega, by go_num, hst, HBW.out.trans (hb3.mono HBW.out.size)⟩
          case measure => simp [intOf]; omega
        · have hres := Lib.hid (show decide (xs = ys) = false from decide_eq_false (fun e => hxy (by
            have h1 := HXK.out
            rw [e, HYK.out] at h1
            exact (Option.some.inj h1).symm)))
          rw [decide_eq_false (by first | exact hxy | (intro he; exact hxy (by rw [Prod.mk.injEq] at he; exact Prod.ext he.1 he.2)))] at cS
          clear hp hx hy hxy hL1 hL2 hbX hbW y0 y0' hB
          go_wp2_with (go_at_call 53; (with_reducible refine cS.mono ?_); rintro e w3 ⟨rfl, hb3⟩)
          go_ret
          exact ⟨by rw [hres.out]; rfl, HBW.out.trans (hb3.mono HBW.out.size)⟩
      · have hres := Lib.hid (show decide (xs = ys) = true from decide_eq_true (by
          have := hp.out
          rwa [List.take_of_length_le (by rw [← HN.out]; omega), List.take_of_length_le (by rw [← HN'.out]; omega)] at this))
        have hkI : ¬ (k : Int) < (n : Int) := by omega
        clear hp
        go_wp2
        go_ret
        exact ⟨by rw [hres.out]; rfl, hB⟩
  · have hres := Lib.hid (show decide (xs = ys) = false from decide_eq_false (fun e => hl (by rw [HN.out, HN'.out, e])))
    have n0 : ((n : Int) != (n' : Int)) = true := by rw [bne, show ((n : Int) == (n' : Int)) = false from beq_eq_false_iff_ne.2 (by omega)]; rfl
    clear hl
    go_enter Try.func52, Try.ntmps52
    go_wp2
    go_ret
    exact ⟨by rw [hres.out]; rfl, Below.refl _ _⟩

set_option maxRecDepth 100000 in
set_option maxHeartbeats 4000000 in
theorem eqX_nil (a a' : Option Addr) (c c' : Nat) (w : World) :
    Calls Try.prog 52 #[.slice a 0 c, .slice a' 0 c', .func (.func 53) #[] #[]] w (Told (.bool true) w) := by
  go_enter Try.func52, Try.ntmps52
  go_wp2_with fail
  refine wp_loop_rounds 1 ?_
  rw [rounds_succ]
  go_wp2
  go_ret
  exact ⟨rfl, Below.refl _ _⟩
set_option maxRecDepth 100000 in
set_option maxHeartbeats 4000000 in
theorem same_of {v : Value} {a b : Option Addr} {n c m e : Nat} {w : World} (h : Calls Try.prog 52 #[.slice a n c, .slice b m e, .func (.func 53) #[] #[]] w (Told v w)) : Calls Try.prog 26 #[.slice a n c, .slice b m e] w (Told v w) := by
  go_enter Try.func26, Try.ntmps26
  go_wp2_with fail
  refine h.mono ?_
  rintro e w1 ⟨rfl, hb1⟩
  go_wp2
  go_ret
  exact ⟨rfl, hb1⟩
theorem same_any : ∀ d, SameV 26 d
  | 0 => fun x y a n c b m e w hx hy => by
    obtain ⟨rfl, _⟩ := hx
    obtain ⟨rfl, _⟩ := hy
    rw [decide_eq_true (show x = y from rfl)]
    exact same_of (eqX_nil a b c e w)
  | d + 1 => fun x y a n c b m e w hx hy => same_of (eqX_any d (same_any d) x y a b n m c e w hx hy)
end Go.Proofs.Ytfgnepbpfglepaa
