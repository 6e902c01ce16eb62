/- Texts of mine in one: Ec6. -/
import Derived.Test.YtcfhggdiccilaaaGreatQ17
namespace Go.Proofs.YtcfhggdiccilaaaGreat
section
open Go.RowKit
set_option linter.unusedVariables false
set_option linter.unusedSimpArgs false
set_option maxRecDepth 100000 in
set_option maxHeartbeats 4000000 in
theorem attr8_any (f : Flat) (a : Option Addr) (n c : Nat) (w : World) (hok : f.text.size ≤ 140737488351232) :
    Calls Tryz.prog 89 #[sval f a n c] w (Told (.bool (attrB f)) w) := by
  obtain ⟨kind, ns, pre, name, op, text, fold, mark, fa, fb⟩ := f
  have HB1 := Lib.hid ((Below.refl w.heap.size w).alloc (Nat.le_refl _) (.cells #[.int .i64 kind, .int .i64 ns, .string pre, .string name, .int .i64 op, .string text, .bool fold, .int .i64 mark, .int .i64 fa, .int .i64 fb, .slice a n c] 118))
  have B1 := Lib.hid (show Blk (w.alloc (.cells #[.int .i64 kind, .int .i64 ns, .string pre, .string name, .int .i64 op, .string text, .bool fold, .int .i64 mark, .int .i64 fa, .int .i64 fb, .slice a n c] 118)) w.heap.size [.int .i64 kind, .int .i64 ns, .string pre, .string name, .int .i64 op, .string text, .bool fold, .int .i64 mark, .int .i64 fa, .int .i64 fb, .slice a n c] 118 from Blk.alloc [.int .i64 kind, .int .i64 ns, .string pre, .string name, .int .i64 op, .string text, .bool fold, .int .i64 mark, .int .i64 fa, .int .i64 fb, .slice a n c] _)
  have s4 := B1.out.cell 4 _ rfl
  have s5 := B1.out.cell 5 _ rfl
  have s6 := B1.out.cell 6 _ rfl
  have s7 := B1.out.cell 7 _ rfl
  have fR := right8_any text (w.alloc (.cells #[.int .i64 kind, .int .i64 ns, .string pre, .string name, .int .i64 op, .string text, .bool fold, .int .i64 mark, .int .i64 fa, .int .i64 fb, .slice a n c] 118)) hok
  have he := emptyE text
  unfold attrB sval
  dsimp only
  obtain ⟨rr, hrr⟩ : ∃ rr, rightS text = rr := ⟨_, rfl⟩
  rw [hrr] at fR ⊢
  clear hrr hok
  by_cases h1 : op < 1
  · rw [if_pos (.inl h1)]
    have q1 : decide (op < 1) = true := decide_eq_true h1
    go_enter Tryz.func89, Tryz.ntmps89
    go_wp2
    go_ret
    exact ⟨rfl, HB1.out⟩
  have q1 : decide (op < 1) = false := decide_eq_false h1
  by_cases h7 : 7 < op
  · rw [if_pos (.inr h7)]
    have q7 : decide (7 < op) = true := decide_eq_true h7
    go_enter Tryz.func89, Tryz.ntmps89
    go_wp2
    go_ret
    exact ⟨rfl, HB1.out⟩
  have q7 : decide (7 < op) = false := decide_eq_false h7
  rw [if_neg (by rintro (h | h); exact h1 h; exact h7 h)]
  cases rr with
  | false =>
    rw [if_pos rfl]
    go_enter Tryz.func89, Tryz.ntmps89
    go_wp2_with (go_at_call 50; (with_reducible refine fR.mono ?_); rintro e w2 ⟨rfl, hb2⟩; have B2 := B1.out.later hb2 B1.out.lt; have z4 := B2.cell 4 _ rfl; have z5 := B2.cell 5 _ rfl; have z6 := B2.cell 6 _ rfl; have z7 := B2.cell 7 _ rfl)
    go_ret
    exact ⟨by first | rfl | simp, HB1.out.trans (hb2.mono HB1.out.size)⟩
  | true =>
    rw [if_neg (by simp)]
    by_cases hm : mark < 0
    · rw [if_pos (.inl hm)]
      have qm : decide (mark < 0) = true := decide_eq_true hm
      go_enter Tryz.func89, Tryz.ntmps89
      go_wp2_with (go_at_call 50; (with_reducible refine fR.mono ?_); rintro e w2 ⟨rfl, hb2⟩; have B2 := B1.out.later hb2 B1.out.lt; have z4 := B2.cell 4 _ rfl; have z5 := B2.cell 5 _ rfl; have z6 := B2.cell 6 _ rfl; have z7 := B2.cell 7 _ rfl)
      go_ret
      exact ⟨by first | rfl | simp, HB1.out.trans (hb2.mono HB1.out.size)⟩
    have qm : decide (mark < 0) = false := decide_eq_false hm
    by_cases hm2 : 2 < mark
    · rw [if_pos (.inr hm2)]
      have qm2 : decide (2 < mark) = true := decide_eq_true hm2
      go_enter Tryz.func89, Tryz.ntmps89
      go_wp2_with (go_at_call 50; (with_reducible refine fR.mono ?_); rintro e w2 ⟨rfl, hb2⟩; have B2 := B1.out.later hb2 B1.out.lt; have z4 := B2.cell 4 _ rfl; have z5 := B2.cell 5 _ rfl; have z6 := B2.cell 6 _ rfl; have z7 := B2.cell 7 _ rfl)
      go_ret
      exact ⟨by first | rfl | simp, HB1.out.trans (hb2.mono HB1.out.size)⟩
    have qm2 : decide (2 < mark) = false := decide_eq_false hm2
    rw [if_neg (by rintro (h | h); exact hm h; exact hm2 h)]
    by_cases ho : op = 1
    · have qo : (op == 1) = true := beq_iff_eq.2 ho
      by_cases ht : text = ⟨#[]⟩
      · have qt : text.toList.isEmpty = true := by rw [he]; exact decide_eq_true ht
        by_cases h0 : mark = 0
        · rw [if_neg (by rintro ⟨_, h | h⟩; exact h ht; exact h h0)]
          subst h0
          clear ht ho he
          go_enter Tryz.func89, Tryz.ntmps89
          go_wp2_with (go_at_call 50; (with_reducible refine fR.mono ?_); rintro e w2 ⟨rfl, hb2⟩; have B2 := B1.out.later hb2 B1.out.lt; have z4 := B2.cell 4 _ rfl; have z5 := B2.cell 5 _ rfl; have z6 := B2.cell 6 _ rfl; have z7 := B2.cell 7 _ rfl)
          go_ret
          exact ⟨by first | rfl | simp, HB1.out.trans (hb2.mono HB1.out.size)⟩
        · rw [if_pos ⟨ho, .inr h0⟩]
          have q0 : (mark != 0) = true := bne_iff_ne.2 h0
          clear ht ho he
          go_enter Tryz.func89, Tryz.ntmps89
          go_wp2_with (go_at_call 50; (with_reducible refine fR.mono ?_); rintro e w2 ⟨rfl, hb2⟩; have B2 := B1.out.later hb2 B1.out.lt; have z4 := B2.cell 4 _ rfl; have z5 := B2.cell 5 _ rfl; have z6 := B2.cell 6 _ rfl; have z7 := B2.cell 7 _ rfl)
          go_ret
          exact ⟨by first | rfl | simp, HB1.out.trans (hb2.mono HB1.out.size)⟩
      · rw [if_pos ⟨ho, .inl ht⟩]
        have qt : text.toList.isEmpty = false := by rw [he]; exact decide_eq_false ht
        clear ht ho he
        go_enter Tryz.func89, Tryz.ntmps89
        go_wp2_with (go_at_call 50; (with_reducible refine fR.mono ?_); rintro e w2 ⟨rfl, hb2⟩; have B2 := B1.out.later hb2 B1.out.lt; have z4 := B2.cell 4 _ rfl; have z5 := B2.cell 5 _ rfl; have z6 := B2.cell 6 _ rfl; have z7 := B2.cell 7 _ rfl)
        go_ret
        exact ⟨by first | rfl | simp, HB1.out.trans (hb2.mono HB1.out.size)⟩
    · have qo : (op == 1) = false := beq_eq_false_iff_ne.2 ho
      rw [if_neg (by rintro ⟨h, _⟩; exact ho h)]
      by_cases h0 : mark = 1
      · have q0 : (mark == 1) = true := beq_iff_eq.2 h0
        rw [decide_eq_true h0]
        clear he ho h0
        cases fold
        all_goals
          go_enter Tryz.func89, Tryz.ntmps89
          go_wp2_with (go_at_call 50; (with_reducible refine fR.mono ?_); rintro e w2 ⟨rfl, hb2⟩; have B2 := B1.out.later hb2 B1.out.lt; have z4 := B2.cell 4 _ rfl; have z5 := B2.cell 5 _ rfl; have z6 := B2.cell 6 _ rfl; have z7 := B2.cell 7 _ rfl)
          go_ret
          exact ⟨by first | rfl | simp, HB1.out.trans (hb2.mono HB1.out.size)⟩
      · have q0 : (mark == 1) = false := beq_eq_false_iff_ne.2 h0
        rw [decide_eq_false h0]
        clear he ho h0
        cases fold
        all_goals
          go_enter Tryz.func89, Tryz.ntmps89
          go_wp2_with (go_at_call 50; (with_reducible refine fR.mono ?_); rintro e w2 ⟨rfl, hb2⟩; have B2 := B1.out.later hb2 B1.out.lt; have z4 := B2.cell 4 _ rfl; have z5 := B2.cell 5 _ rfl; have z6 := B2.cell 6 _ rfl; have z7 := B2.cell 7 _ rfl)
          go_ret
          exact ⟨by first | rfl | simp, HB1.out.trans (hb2.mono HB1.out.size)⟩
set_option maxRecDepth 100000 in
set_option maxHeartbeats 4000000 in
theorem simp8_5 {nm : Nm} {N : NmV} {w : World} (h : NmAt (· < w.heap.size) w N nm) (ns : Int) (pre name : ByteArray) (op : Int) (text : ByteArray) (fold : Bool) (mark fa fb : Int) (a : Option Addr) (n c : Nat) (hn : n ≤ 140737488351232) (hok : name.size ≤ 140737488351232 ∧ text.size ≤ 140737488351232) (inner : Bool) (hR : ∀ w', Below w.heap.size w w' → Calls Tryz.prog 42 #[.slice a n c, nmV nm N, .bool false] w' (Told (.bool inner) w')) :
    Calls Tryz.prog 60 #[sval ⟨5, ns, pre, name, op, text, fold, mark, fa, fb⟩ a n c, nmV nm N] w (Told (.bool (simpB nm ⟨5, ns, pre, name, op, text, fold, mark, fa, fb⟩ (decide (0 < n)) inner)) w) := by
  have hb1 := (Below.refl w.heap.size w).alloc (Nat.le_refl _) (.cells #[.int .i64 5, .int .i64 ns, .string pre, .string name, .int .i64 op, .string text, .bool fold, .int .i64 mark, .int .i64 fa, .int .i64 fb, .slice a n c] 118)
  have hb2 := hb1.alloc hb1.size (.cells #[.bool nm.hd, .string nm.df, .slice N.pa N.pn N.pc, .slice N.sa N.sn N.sc] 25)
  have B1 := (Blk.alloc (w := w) [.int .i64 5, .int .i64 ns, .string pre, .string name, .int .i64 op, .string text, .bool fold, .int .i64 mark, .int .i64 fa, .int .i64 fb, .slice a n c] 118).alloc_old (.cells #[.bool nm.hd, .string nm.df, .slice N.pa N.pn N.pc, .slice N.sa N.sn N.sc] 25)
  have B2 : Blk ((w.alloc (.cells #[.int .i64 5, .int .i64 ns, .string pre, .string name, .int .i64 op, .string text, .bool fold, .int .i64 mark, .int .i64 fa, .int .i64 fb, .slice a n c] 118)).alloc (.cells #[.bool nm.hd, .string nm.df, .slice N.pa N.pn N.pc, .slice N.sa N.sn N.sc] 25)) (w.heap.size + 1) [.bool nm.hd, .string nm.df, .slice N.pa N.pn N.pc, .slice N.sa N.sn N.sc] 25 := by
    have hh : Blk ((w.alloc (.cells #[.int .i64 5, .int .i64 ns, .string pre, .string name, .int .i64 op, .string text, .bool fold, .int .i64 mark, .int .i64 fa, .int .i64 fb, .slice a n c] 118)).alloc (.cells #[.bool nm.hd, .string nm.df, .slice N.pa N.pn N.pc, .slice N.sa N.sn N.sc] 25)) (w.alloc (.cells #[.int .i64 5, .int .i64 ns, .string pre, .string name, .int .i64 op, .string text, .bool fold, .int .i64 mark, .int .i64 fa, .int .i64 fb, .slice a n c] 118)).heap.size [.bool nm.hd, .string nm.df, .slice N.pa N.pn N.pc, .slice N.sa N.sn N.sc] 25 := Blk.alloc [.bool nm.hd, .string nm.df, .slice N.pa N.pn N.pc, .slice N.sa N.sn N.sc] _
    rwa [show (w.alloc (.cells #[.int .i64 5, .int .i64 ns, .string pre, .string name, .int .i64 op, .string text, .bool fold, .int .i64 mark, .int .i64 fa, .int .i64 fb, .slice a n c] 118)).heap.size = w.heap.size + 1 from by simp] at hh
  have HB2 := Lib.hid hb2
  have FC := Lib.hid (fun (wx : World) (hb : Below ((w.alloc (.cells #[.int .i64 5, .int .i64 ns, .string pre, .string name, .int .i64 op, .string text, .bool fold, .int .i64 mark, .int .i64 fa, .int .i64 fb, .slice a n c] 118)).alloc (.cells #[.bool nm.hd, .string nm.df, .slice N.pa N.pn N.pc, .slice N.sa N.sn N.sc] 25)).heap.size ((w.alloc (.cells #[.int .i64 5, .int .i64 ns, .string pre, .string name, .int .i64 op, .string text, .bool fold, .int .i64 mark, .int .i64 fa, .int .i64 fb, .slice a n c] 118)).alloc (.cells #[.bool nm.hd, .string nm.df, .slice N.pa N.pn N.pc, .slice N.sa N.sn N.sc] 25)) wx) => (show wx.cell? ⟨w.heap.size, 0, none⟩ = some (.int .i64 5) ∧ wx.cell? ⟨w.heap.size, 1, none⟩ = some (.int .i64 ns) ∧ wx.cell? ⟨w.heap.size, 2, none⟩ = some (.string pre) ∧ wx.cell? ⟨w.heap.size, 3, none⟩ = some (.string name) ∧ wx.cell? ⟨w.heap.size, 4, none⟩ = some (.int .i64 op) ∧ wx.cell? ⟨w.heap.size, 5, none⟩ = some (.string text) ∧ wx.cell? ⟨w.heap.size, 6, none⟩ = some (.bool fold) ∧ wx.cell? ⟨w.heap.size, 7, none⟩ = some (.int .i64 mark) ∧ wx.cell? ⟨w.heap.size, 8, none⟩ = some (.int .i64 fa) ∧ wx.cell? ⟨w.heap.size, 9, none⟩ = some (.int .i64 fb) ∧ wx.cell? ⟨w.heap.size, 10, none⟩ = some (.slice a n c) ∧ wx.cell? ⟨w.heap.size + 1, 0, none⟩ = some (.bool nm.hd) ∧ wx.cell? ⟨w.heap.size + 1, 1, none⟩ = some (.string nm.df) ∧ wx.cell? ⟨w.heap.size + 1, 2, none⟩ = some (.slice N.pa N.pn N.pc) ∧ wx.cell? ⟨w.heap.size + 1, 3, none⟩ = some (.slice N.sa N.sn N.sc) from ⟨(B1.later hb B1.lt).cell 0 _ rfl, (B1.later hb B1.lt).cell 1 _ rfl, (B1.later hb B1.lt).cell 2 _ rfl, (B1.later hb B1.lt).cell 3 _ rfl, (B1.later hb B1.lt).cell 4 _ rfl, (B1.later hb B1.lt).cell 5 _ rfl, (B1.later hb B1.lt).cell 6 _ rfl, (B1.later hb B1.lt).cell 7 _ rfl, (B1.later hb B1.lt).cell 8 _ rfl, (B1.later hb B1.lt).cell 9 _ rfl, (B1.later hb B1.lt).cell 10 _ rfl, (B2.later hb B2.lt).cell 0 _ rfl, (B2.later hb B2.lt).cell 1 _ rfl, (B2.later hb B2.lt).cell 2 _ rfl, (B2.later hb B2.lt).cell 3 _ rfl⟩))
  have hS : ∀ wx, Below ((w.alloc (.cells #[.int .i64 5, .int .i64 ns, .string pre, .string name, .int .i64 op, .string text, .bool fold, .int .i64 mark, .int .i64 fa, .int .i64 fb, .slice a n c] 118)).alloc (.cells #[.bool nm.hd, .string nm.df, .slice N.pa N.pn N.pc, .slice N.sa N.sn N.sc] 25)).heap.size ((w.alloc (.cells #[.int .i64 5, .int .i64 ns, .string pre, .string name, .int .i64 op, .string text, .bool fold, .int .i64 mark, .int .i64 fa, .int .i64 fb, .slice a n c] 118)).alloc (.cells #[.bool nm.hd, .string nm.df, .slice N.pa N.pn N.pc, .slice N.sa N.sn N.sc] 25)) wx → NmAt (· < wx.heap.size) wx N nm := fun wx hb => h.move (fun b hb' => ⟨Nat.lt_of_lt_of_le hb' (Nat.le_trans hb2.size hb.size), ((hb2.trans (hb.mono hb2.size)).block b hb')⟩)
  have GP := Lib.hid (fun wx => parts8_any ⟨5, ns, pre, name, op, text, fold, mark, fa, fb⟩ a n c wx hn)
  have GS := Lib.hid (fun wx (hb : Below ((w.alloc (.cells #[.int .i64 5, .int .i64 ns, .string pre, .string name, .int .i64 op, .string text, .bool fold, .int .i64 mark, .int .i64 fa, .int .i64 fb, .slice a n c] 118)).alloc (.cells #[.bool nm.hd, .string nm.df, .slice N.pa N.pn N.pc, .slice N.sa N.sn N.sc] 25)).heap.size ((w.alloc (.cells #[.int .i64 5, .int .i64 ns, .string pre, .string name, .int .i64 op, .string text, .bool fold, .int .i64 mark, .int .i64 fa, .int .i64 fb, .slice a n c] 118)).alloc (.cells #[.bool nm.hd, .string nm.df, .slice N.pa N.pn N.pc, .slice N.sa N.sn N.sc] 25)) wx) => spc8_any (hS wx hb) ⟨5, ns, pre, name, op, text, fold, mark, fa, fb⟩ a n c)
  have GN := Lib.hid (fun wx => name8_any name wx hok.1)
  have GR := Lib.hid (fun wx (hb : Below ((w.alloc (.cells #[.int .i64 5, .int .i64 ns, .string pre, .string name, .int .i64 op, .string text, .bool fold, .int .i64 mark, .int .i64 fa, .int .i64 fb, .slice a n c] 118)).alloc (.cells #[.bool nm.hd, .string nm.df, .slice N.pa N.pn N.pc, .slice N.sa N.sn N.sc] 25)).heap.size ((w.alloc (.cells #[.int .i64 5, .int .i64 ns, .string pre, .string name, .int .i64 op, .string text, .bool fold, .int .i64 mark, .int .i64 fa, .int .i64 fb, .slice a n c] 118)).alloc (.cells #[.bool nm.hd, .string nm.df, .slice N.pa N.pn N.pc, .slice N.sa N.sn N.sc] 25)) wx) => hR wx (hb2.trans (hb.mono hb2.size)))
  have GT := Lib.hid (fun wx => state8_any name wx)
  have GE := Lib.hid (fun wx => elem8_any name wx)
  have GA := Lib.hid (fun wx => small8_any fa wx)
  have GB8 := Lib.hid (fun wx => small8_any fb wx)
  have GAT := Lib.hid (fun wx => attr8_any ⟨5, ns, pre, name, op, text, fold, mark, fa, fb⟩ a n c wx hok.2)
  have HW1 := Lib.hid (Below.refl ((w.alloc (.cells #[.int .i64 5, .int .i64 ns, .string pre, .string name, .int .i64 op, .string text, .bool fold, .int .i64 mark, .int .i64 fa, .int .i64 fb, .slice a n c] 118)).alloc (.cells #[.bool nm.hd, .string nm.df, .slice N.pa N.pn N.pc, .slice N.sa N.sn N.sc] 25)).heap.size ((w.alloc (.cells #[.int .i64 5, .int .i64 ns, .string pre, .string name, .int .i64 op, .string text, .bool fold, .int .i64 mark, .int .i64 fa, .int .i64 fb, .slice a n c] 118)).alloc (.cells #[.bool nm.hd, .string nm.df, .slice N.pa N.pn N.pc, .slice N.sa N.sn N.sc] 25)))
  obtain ⟨x0, x1, x2, x3, x4, x5, x6, x7, x8, x9, x10, y0, y1, y2, y3⟩ := FC.out _ HW1.out
  unfold simpB
  dsimp only
  have HOK := Lib.hid hok
  clear hb1 hb2 B1 B2 hS h hn hR hok
  generalize nsB ⟨5, ns, pre, name, op, text, fold, mark, fa, fb⟩ = nb at *
  generalize condB ⟨5, ns, pre, name, op, text, fold, mark, fa, fb⟩ = cb at *
  generalize abB ⟨5, ns, pre, name, op, text, fold, mark, fa, fb⟩ = ab at *
  generalize spcB nm ⟨5, ns, pre, name, op, text, fold, mark, fa, fb⟩ = sp at *
  generalize nameS name = nn at *
  generalize name.toList.isEmpty = ne at *
  generalize hasE stateE name = hs at *
  generalize hasE elemE name = he at *
  generalize smallB fa = sa at *
  generalize smallB fb = sb at *
  generalize decide (0 < n) = of at *
  generalize attrB ⟨5, ns, pre, name, op, text, fold, mark, fa, fb⟩ = at5 at *
  unfold sval nmV at *
  dsimp only at GP GS GR GAT ⊢
  cases sp with
  | false =>
    go_enter Tryz.func60, Tryz.ntmps60
    go_wp2_with (first
      | (go_at_call 87; (with_reducible refine (GP.out _).mono ?_); rintro e w2 ⟨rfl, hb2⟩; have H2 := Lib.hid (HW1.out.trans (hb2.mono HW1.out.size)); obtain ⟨x0, x1, x2, x3, x4, x5, x6, x7, x8, x9, x10, y0, y1, y2, y3⟩ := FC.out _ H2.out; clear hb2)
      | (go_at_call 88; (with_reducible refine (GS.out _ H2.out).mono ?_); rintro e w3 ⟨rfl, hb3⟩; have H3 := Lib.hid (H2.out.trans (hb3.mono H2.out.size)); obtain ⟨x0, x1, x2, x3, x4, x5, x6, x7, x8, x9, x10, y0, y1, y2, y3⟩ := FC.out _ H3.out; clear hb3))
    go_ret
    exact ⟨by first | rfl | simp, HB2.out.trans (H3.out.mono HB2.out.size)⟩
  | true =>
    cases nn with
    | false =>
      go_enter Tryz.func60, Tryz.ntmps60
      go_wp2_with (first
        | (go_at_call 87; (with_reducible refine (GP.out _).mono ?_); rintro e w2 ⟨rfl, hb2⟩; have H2 := Lib.hid (HW1.out.trans (hb2.mono HW1.out.size)); obtain ⟨x0, x1, x2, x3, x4, x5, x6, x7, x8, x9, x10, y0, y1, y2, y3⟩ := FC.out _ H2.out; clear hb2)
        | (go_at_call 88; (with_reducible refine (GS.out _ H2.out).mono ?_); rintro e w3 ⟨rfl, hb3⟩; have H3 := Lib.hid (H2.out.trans (hb3.mono H2.out.size)); obtain ⟨x0, x1, x2, x3, x4, x5, x6, x7, x8, x9, x10, y0, y1, y2, y3⟩ := FC.out _ H3.out; clear hb3)
        | (go_at_call 51; (with_reducible refine (GN.out _).mono ?_); rintro e w4 ⟨rfl, hb4⟩; have H4 := Lib.hid (H3.out.trans (hb4.mono H3.out.size)); obtain ⟨x0, x1, x2, x3, x4, x5, x6, x7, x8, x9, x10, y0, y1, y2, y3⟩ := FC.out _ H4.out; clear hb4))
      go_ret
      exact ⟨by first | rfl | simp, HB2.out.trans (H4.out.mono HB2.out.size)⟩
    | true =>
      cases at5 with
      | false =>
        go_enter Tryz.func60, Tryz.ntmps60
        go_wp2_with (first
          | (go_at_call 87; (with_reducible refine (GP.out _).mono ?_); rintro e w2 ⟨rfl, hb2⟩; have H2 := Lib.hid (HW1.out.trans (hb2.mono HW1.out.size)); obtain ⟨x0, x1, x2, x3, x4, x5, x6, x7, x8, x9, x10, y0, y1, y2, y3⟩ := FC.out _ H2.out; clear hb2)
          | (go_at_call 88; (with_reducible refine (GS.out _ H2.out).mono ?_); rintro e w3 ⟨rfl, hb3⟩; have H3 := Lib.hid (H2.out.trans (hb3.mono H2.out.size)); obtain ⟨x0, x1, x2, x3, x4, x5, x6, x7, x8, x9, x10, y0, y1, y2, y3⟩ := FC.out _ H3.out; clear hb3)
          | (go_at_call 51; (with_reducible refine (GN.out _).mono ?_); rintro e w4 ⟨rfl, hb4⟩; have H4 := Lib.hid (H3.out.trans (hb4.mono H3.out.size)); obtain ⟨x0, x1, x2, x3, x4, x5, x6, x7, x8, x9, x10, y0, y1, y2, y3⟩ := FC.out _ H4.out; clear hb4)
          | (go_at_call 89; (with_reducible refine (GAT.out _).mono ?_); rintro e w5 ⟨rfl, hb5⟩; have H5 := Lib.hid (H4.out.trans (hb5.mono H4.out.size)); obtain ⟨x0, x1, x2, x3, x4, x5, x6, x7, x8, x9, x10, y0, y1, y2, y3⟩ := FC.out _ H5.out; clear hb5))
        go_ret
        exact ⟨by first | rfl | simp, HB2.out.trans (H5.out.mono HB2.out.size)⟩
      | true =>
        cases ab with
        | true =>
          go_enter Tryz.func60, Tryz.ntmps60
          go_wp2_with (first
            | (go_at_call 87; (with_reducible refine (GP.out _).mono ?_); rintro e w2 ⟨rfl, hb2⟩; have H2 := Lib.hid (HW1.out.trans (hb2.mono HW1.out.size)); obtain ⟨x0, x1, x2, x3, x4, x5, x6, x7, x8, x9, x10, y0, y1, y2, y3⟩ := FC.out _ H2.out; clear hb2)
            | (go_at_call 88; (with_reducible refine (GS.out _ H2.out).mono ?_); rintro e w3 ⟨rfl, hb3⟩; have H3 := Lib.hid (H2.out.trans (hb3.mono H2.out.size)); obtain ⟨x0, x1, x2, x3, x4, x5, x6, x7, x8, x9, x10, y0, y1, y2, y3⟩ := FC.out _ H3.out; clear hb3)
            | (go_at_call 51; (with_reducible refine (GN.out _).mono ?_); rintro e w4 ⟨rfl, hb4⟩; have H4 := Lib.hid (H3.out.trans (hb4.mono H3.out.size)); obtain ⟨x0, x1, x2, x3, x4, x5, x6, x7, x8, x9, x10, y0, y1, y2, y3⟩ := FC.out _ H4.out; clear hb4)
            | (go_at_call 89; (with_reducible refine (GAT.out _).mono ?_); rintro e w5 ⟨rfl, hb5⟩; have H5 := Lib.hid (H4.out.trans (hb5.mono H4.out.size)); obtain ⟨x0, x1, x2, x3, x4, x5, x6, x7, x8, x9, x10, y0, y1, y2, y3⟩ := FC.out _ H5.out; clear hb5))
          go_ret
          exact ⟨by first | rfl | simp, HB2.out.trans (H5.out.mono HB2.out.size)⟩
        | false =>
          go_enter Tryz.func60, Tryz.ntmps60
          go_wp2_with (first
            | (go_at_call 87; (with_reducible refine (GP.out _).mono ?_); rintro e w2 ⟨rfl, hb2⟩; have H2 := Lib.hid (HW1.out.trans (hb2.mono HW1.out.size)); obtain ⟨x0, x1, x2, x3, x4, x5, x6, x7, x8, x9, x10, y0, y1, y2, y3⟩ := FC.out _ H2.out; clear hb2)
            | (go_at_call 88; (with_reducible refine (GS.out _ H2.out).mono ?_); rintro e w3 ⟨rfl, hb3⟩; have H3 := Lib.hid (H2.out.trans (hb3.mono H2.out.size)); obtain ⟨x0, x1, x2, x3, x4, x5, x6, x7, x8, x9, x10, y0, y1, y2, y3⟩ := FC.out _ H3.out; clear hb3)
            | (go_at_call 51; (with_reducible refine (GN.out _).mono ?_); rintro e w4 ⟨rfl, hb4⟩; have H4 := Lib.hid (H3.out.trans (hb4.mono H3.out.size)); obtain ⟨x0, x1, x2, x3, x4, x5, x6, x7, x8, x9, x10, y0, y1, y2, y3⟩ := FC.out _ H4.out; clear hb4)
            | (go_at_call 89; (with_reducible refine (GAT.out _).mono ?_); rintro e w5 ⟨rfl, hb5⟩; have H5 := Lib.hid (H4.out.trans (hb5.mono H4.out.size)); obtain ⟨x0, x1, x2, x3, x4, x5, x6, x7, x8, x9, x10, y0, y1, y2, y3⟩ := FC.out _ H5.out; clear hb5))
          go_ret
          exact ⟨by first | rfl | simp, HB2.out.trans (H5.out.mono HB2.out.size)⟩
set_option maxRecDepth 100000 in
set_option maxHeartbeats 4000000 in
theorem simp8_else {nm : Nm} {N : NmV} {w : World} (h : NmAt (· < w.heap.size) w N nm) (kind ns : Int) (pre name : ByteArray) (op : Int) (text : ByteArray) (fold : Bool) (mark fa fb : Int) (a : Option Addr) (n c : Nat) (hn : n ≤ 140737488351232) (hok : name.size ≤ 140737488351232 ∧ text.size ≤ 140737488351232) (inner : Bool) (hR : ∀ w', Below w.heap.size w w' → Calls Tryz.prog 42 #[.slice a n c, nmV nm N, .bool false] w' (Told (.bool inner) w')) (h1 : kind ≠ 1) (h2 : kind ≠ 2) (h5 : kind ≠ 5) (h3 : kind ≠ 3) (h4 : kind ≠ 4) (h11 : kind ≠ 11) (h13 : kind ≠ 13) (h6 : kind ≠ 6) (h12 : kind ≠ 12) (h7 : kind ≠ 7) (h8 : kind ≠ 8) (h9 : kind ≠ 9) (h10 : kind ≠ 10) :
    Calls Tryz.prog 60 #[sval ⟨kind, ns, pre, name, op, text, fold, mark, fa, fb⟩ a n c, nmV nm N] w (Told (.bool (simpB nm ⟨kind, ns, pre, name, op, text, fold, mark, fa, fb⟩ (decide (0 < n)) inner)) w) := by
  have hb1 := (Below.refl w.heap.size w).alloc (Nat.le_refl _) (.cells #[.int .i64 kind, .int .i64 ns, .string pre, .string name, .int .i64 op, .string text, .bool fold, .int .i64 mark, .int .i64 fa, .int .i64 fb, .slice a n c] 118)
  have hb2 := hb1.alloc hb1.size (.cells #[.bool nm.hd, .string nm.df, .slice N.pa N.pn N.pc, .slice N.sa N.sn N.sc] 25)
  have B1 := (Blk.alloc (w := w) [.int .i64 kind, .int .i64 ns, .string pre, .string name, .int .i64 op, .string text, .bool fold, .int .i64 mark, .int .i64 fa, .int .i64 fb, .slice a n c] 118).alloc_old (.cells #[.bool nm.hd, .string nm.df, .slice N.pa N.pn N.pc, .slice N.sa N.sn N.sc] 25)
  have B2 : Blk ((w.alloc (.cells #[.int .i64 kind, .int .i64 ns, .string pre, .string name, .int .i64 op, .string text, .bool fold, .int .i64 mark, .int .i64 fa, .int .i64 fb, .slice a n c] 118)).alloc (.cells #[.bool nm.hd, .string nm.df, .slice N.pa N.pn N.pc, .slice N.sa N.sn N.sc] 25)) (w.heap.size + 1) [.bool nm.hd, .string nm.df, .slice N.pa N.pn N.pc, .slice N.sa N.sn N.sc] 25 := by
    have hh : Blk ((w.alloc (.cells #[.int .i64 kind, .int .i64 ns, .string pre, .string name, .int .i64 op, .string text, .bool fold, .int .i64 mark, .int .i64 fa, .int .i64 fb, .slice a n c] 118)).alloc (.cells #[.bool nm.hd, .string nm.df, .slice N.pa N.pn N.pc, .slice N.sa N.sn N.sc] 25)) (w.alloc (.cells #[.int .i64 kind, .int .i64 ns, .string pre, .string name, .int .i64 op, .string text, .bool fold, .int .i64 mark, .int .i64 fa, .int .i64 fb, .slice a n c] 118)).heap.size [.bool nm.hd, .string nm.df, .slice N.pa N.pn N.pc, .slice N.sa N.sn N.sc] 25 := Blk.alloc [.bool nm.hd, .string nm.df, .slice N.pa N.pn N.pc, .slice N.sa N.sn N.sc] _
    rwa [show (w.alloc (.cells #[.int .i64 kind, .int .i64 ns, .string pre, .string name, .int .i64 op, .string text, .bool fold, .int .i64 mark, .int .i64 fa, .int .i64 fb, .slice a n c] 118)).heap.size = w.heap.size + 1 from by simp] at hh
  have HB2 := Lib.hid hb2
  have FC := Lib.hid (fun (wx : World) (hb : Below ((w.alloc (.cells #[.int .i64 kind, .int .i64 ns, .string pre, .string name, .int .i64 op, .string text, .bool fold, .int .i64 mark, .int .i64 fa, .int .i64 fb, .slice a n c] 118)).alloc (.cells #[.bool nm.hd, .string nm.df, .slice N.pa N.pn N.pc, .slice N.sa N.sn N.sc] 25)).heap.size ((w.alloc (.cells #[.int .i64 kind, .int .i64 ns, .string pre, .string name, .int .i64 op, .string text, .bool fold, .int .i64 mark, .int .i64 fa, .int .i64 fb, .slice a n c] 118)).alloc (.cells #[.bool nm.hd, .string nm.df, .slice N.pa N.pn N.pc, .slice N.sa N.sn N.sc] 25)) wx) => (show wx.cell? ⟨w.heap.size, 0, none⟩ = some (.int .i64 kind) ∧ wx.cell? ⟨w.heap.size, 1, none⟩ = some (.int .i64 ns) ∧ wx.cell? ⟨w.heap.size, 2, none⟩ = some (.string pre) ∧ wx.cell? ⟨w.heap.size, 3, none⟩ = some (.string name) ∧ wx.cell? ⟨w.heap.size, 4, none⟩ = some (.int .i64 op) ∧ wx.cell? ⟨w.heap.size, 5, none⟩ = some (.string text) ∧ wx.cell? ⟨w.heap.size, 6, none⟩ = some (.bool fold) ∧ wx.cell? ⟨w.heap.size, 7, none⟩ = some (.int .i64 mark) ∧ wx.cell? ⟨w.heap.size, 8, none⟩ = some (.int .i64 fa) ∧ wx.cell? ⟨w.heap.size, 9, none⟩ = some (.int .i64 fb) ∧ wx.cell? ⟨w.heap.size, 10, none⟩ = some (.slice a n c) ∧ wx.cell? ⟨w.heap.size + 1, 0, none⟩ = some (.bool nm.hd) ∧ wx.cell? ⟨w.heap.size + 1, 1, none⟩ = some (.string nm.df) ∧ wx.cell? ⟨w.heap.size + 1, 2, none⟩ = some (.slice N.pa N.pn N.pc) ∧ wx.cell? ⟨w.heap.size + 1, 3, none⟩ = some (.slice N.sa N.sn N.sc) from ⟨(B1.later hb B1.lt).cell 0 _ rfl, (B1.later hb B1.lt).cell 1 _ rfl, (B1.later hb B1.lt).cell 2 _ rfl, (B1.later hb B1.lt).cell 3 _ rfl, (B1.later hb B1.lt).cell 4 _ rfl, (B1.later hb B1.lt).cell 5 _ rfl, (B1.later hb B1.lt).cell 6 _ rfl, (B1.later hb B1.lt).cell 7 _ rfl, (B1.later hb B1.lt).cell 8 _ rfl, (B1.later hb B1.lt).cell 9 _ rfl, (B1.later hb B1.lt).cell 10 _ rfl, (B2.later hb B2.lt).cell 0 _ rfl, (B2.later hb B2.lt).cell 1 _ rfl, (B2.later hb B2.lt).cell 2 _ rfl, (B2.later hb B2.lt).cell 3 _ rfl⟩))
  have hS : ∀ wx, Below ((w.alloc (.cells #[.int .i64 kind, .int .i64 ns, .string pre, .string name, .int .i64 op, .string text, .bool fold, .int .i64 mark, .int .i64 fa, .int .i64 fb, .slice a n c] 118)).alloc (.cells #[.bool nm.hd, .string nm.df, .slice N.pa N.pn N.pc, .slice N.sa N.sn N.sc] 25)).heap.size ((w.alloc (.cells #[.int .i64 kind, .int .i64 ns, .string pre, .string name, .int .i64 op, .string text, .bool fold, .int .i64 mark, .int .i64 fa, .int .i64 fb, .slice a n c] 118)).alloc (.cells #[.bool nm.hd, .string nm.df, .slice N.pa N.pn N.pc, .slice N.sa N.sn N.sc] 25)) wx → NmAt (· < wx.heap.size) wx N nm := fun wx hb => h.move (fun b hb' => ⟨Nat.lt_of_lt_of_le hb' (Nat.le_trans hb2.size hb.size), ((hb2.trans (hb.mono hb2.size)).block b hb')⟩)
  have GP := Lib.hid (fun wx => parts8_any ⟨kind, ns, pre, name, op, text, fold, mark, fa, fb⟩ a n c wx hn)
  have GS := Lib.hid (fun wx (hb : Below ((w.alloc (.cells #[.int .i64 kind, .int .i64 ns, .string pre, .string name, .int .i64 op, .string text, .bool fold, .int .i64 mark, .int .i64 fa, .int .i64 fb, .slice a n c] 118)).alloc (.cells #[.bool nm.hd, .string nm.df, .slice N.pa N.pn N.pc, .slice N.sa N.sn N.sc] 25)).heap.size ((w.alloc (.cells #[.int .i64 kind, .int .i64 ns, .string pre, .string name, .int .i64 op, .string text, .bool fold, .int .i64 mark, .int .i64 fa, .int .i64 fb, .slice a n c] 118)).alloc (.cells #[.bool nm.hd, .string nm.df, .slice N.pa N.pn N.pc, .slice N.sa N.sn N.sc] 25)) wx) => spc8_any (hS wx hb) ⟨kind, ns, pre, name, op, text, fold, mark, fa, fb⟩ a n c)
  have GN := Lib.hid (fun wx => name8_any name wx hok.1)
  have GR := Lib.hid (fun wx (hb : Below ((w.alloc (.cells #[.int .i64 kind, .int .i64 ns, .string pre, .string name, .int .i64 op, .string text, .bool fold, .int .i64 mark, .int .i64 fa, .int .i64 fb, .slice a n c] 118)).alloc (.cells #[.bool nm.hd, .string nm.df, .slice N.pa N.pn N.pc, .slice N.sa N.sn N.sc] 25)).heap.size ((w.alloc (.cells #[.int .i64 kind, .int .i64 ns, .string pre, .string name, .int .i64 op, .string text, .bool fold, .int .i64 mark, .int .i64 fa, .int .i64 fb, .slice a n c] 118)).alloc (.cells #[.bool nm.hd, .string nm.df, .slice N.pa N.pn N.pc, .slice N.sa N.sn N.sc] 25)) wx) => hR wx (hb2.trans (hb.mono hb2.size)))
  have GT := Lib.hid (fun wx => state8_any name wx)
  have GE := Lib.hid (fun wx => elem8_any name wx)
  have GA := Lib.hid (fun wx => small8_any fa wx)
  have GB8 := Lib.hid (fun wx => small8_any fb wx)
  have HW1 := Lib.hid (Below.refl ((w.alloc (.cells #[.int .i64 kind, .int .i64 ns, .string pre, .string name, .int .i64 op, .string text, .bool fold, .int .i64 mark, .int .i64 fa, .int .i64 fb, .slice a n c] 118)).alloc (.cells #[.bool nm.hd, .string nm.df, .slice N.pa N.pn N.pc, .slice N.sa N.sn N.sc] 25)).heap.size ((w.alloc (.cells #[.int .i64 kind, .int .i64 ns, .string pre, .string name, .int .i64 op, .string text, .bool fold, .int .i64 mark, .int .i64 fa, .int .i64 fb, .slice a n c] 118)).alloc (.cells #[.bool nm.hd, .string nm.df, .slice N.pa N.pn N.pc, .slice N.sa N.sn N.sc] 25)))
  obtain ⟨x0, x1, x2, x3, x4, x5, x6, x7, x8, x9, x10, y0, y1, y2, y3⟩ := FC.out _ HW1.out
  unfold simpB
  dsimp only
  have q1 : (kind == 1) = false := beq_eq_false_iff_ne.2 h1
  have q2 : (kind == 2) = false := beq_eq_false_iff_ne.2 h2
  have q5 : (kind == 5) = false := beq_eq_false_iff_ne.2 h5
  have q3 : (kind == 3) = false := beq_eq_false_iff_ne.2 h3
  have q4 : (kind == 4) = false := beq_eq_false_iff_ne.2 h4
  have q11 : (kind == 11) = false := beq_eq_false_iff_ne.2 h11
  have q13 : (kind == 13) = false := beq_eq_false_iff_ne.2 h13
  have q6 : (kind == 6) = false := beq_eq_false_iff_ne.2 h6
  have q12 : (kind == 12) = false := beq_eq_false_iff_ne.2 h12
  have q7 : (kind == 7) = false := beq_eq_false_iff_ne.2 h7
  have q8 : (kind == 8) = false := beq_eq_false_iff_ne.2 h8
  have q9 : (kind == 9) = false := beq_eq_false_iff_ne.2 h9
  have q10 : (kind == 10) = false := beq_eq_false_iff_ne.2 h10
  rw [if_neg h1, if_neg h2, if_neg h5, if_neg (show ¬(kind = 3 ∨ kind = 4) from by rintro (h | h); exact h3 h; exact h4 h), if_neg h11, if_neg h13, if_neg (show ¬(kind = 6 ∨ kind = 12) from by rintro (h | h); exact h6 h; exact h12 h), if_neg h7, if_neg (show ¬(kind = 8 ∨ kind = 9 ∨ kind = 10) from by rintro (h | h | h); exact h8 h; exact h9 h; exact h10 h)]
  have HOK := Lib.hid hok
  clear hb1 hb2 B1 B2 hS h hn hR hok
  generalize nsB ⟨kind, ns, pre, name, op, text, fold, mark, fa, fb⟩ = nb at *
  generalize condB ⟨kind, ns, pre, name, op, text, fold, mark, fa, fb⟩ = cb at *
  generalize abB ⟨kind, ns, pre, name, op, text, fold, mark, fa, fb⟩ = ab at *
  generalize spcB nm ⟨kind, ns, pre, name, op, text, fold, mark, fa, fb⟩ = sp at *
  generalize nameS name = nn at *
  generalize name.toList.isEmpty = ne at *
  generalize hasE stateE name = hs at *
  generalize hasE elemE name = he at *
  generalize smallB fa = sa at *
  generalize smallB fb = sb at *
  generalize decide (0 < n) = of at *
  unfold sval nmV at *
  dsimp only at GP GS GR ⊢
  cases nb with
  | true =>
    go_enter Tryz.func60, Tryz.ntmps60
    go_wp2_with (first
      | (go_at_call 87; (with_reducible refine (GP.out _).mono ?_); rintro e w2 ⟨rfl, hb2⟩; have H2 := Lib.hid (HW1.out.trans (hb2.mono HW1.out.size)); obtain ⟨x0, x1, x2, x3, x4, x5, x6, x7, x8, x9, x10, y0, y1, y2, y3⟩ := FC.out _ H2.out; clear hb2))
    all_goals
      go_ret
      exact ⟨by first | rfl | simp, HB2.out.trans (H2.out.mono HB2.out.size)⟩
  | false =>
    cases cb with
    | true =>
      go_enter Tryz.func60, Tryz.ntmps60
      go_wp2_with (first
        | (go_at_call 87; (with_reducible refine (GP.out _).mono ?_); rintro e w2 ⟨rfl, hb2⟩; have H2 := Lib.hid (HW1.out.trans (hb2.mono HW1.out.size)); obtain ⟨x0, x1, x2, x3, x4, x5, x6, x7, x8, x9, x10, y0, y1, y2, y3⟩ := FC.out _ H2.out; clear hb2))
      all_goals
        go_ret
        exact ⟨by first | rfl | simp, HB2.out.trans (H2.out.mono HB2.out.size)⟩
    | false =>
      cases ne with
      | false =>
        go_enter Tryz.func60, Tryz.ntmps60
        go_wp2_with (first
          | (go_at_call 87; (with_reducible refine (GP.out _).mono ?_); rintro e w2 ⟨rfl, hb2⟩; have H2 := Lib.hid (HW1.out.trans (hb2.mono HW1.out.size)); obtain ⟨x0, x1, x2, x3, x4, x5, x6, x7, x8, x9, x10, y0, y1, y2, y3⟩ := FC.out _ H2.out; clear hb2))
        all_goals
          go_ret
          exact ⟨by first | rfl | simp, HB2.out.trans (H2.out.mono HB2.out.size)⟩
      | true =>
        go_enter Tryz.func60, Tryz.ntmps60
        go_wp2_with (first
          | (go_at_call 87; (with_reducible refine (GP.out _).mono ?_); rintro e w2 ⟨rfl, hb2⟩; have H2 := Lib.hid (HW1.out.trans (hb2.mono HW1.out.size)); obtain ⟨x0, x1, x2, x3, x4, x5, x6, x7, x8, x9, x10, y0, y1, y2, y3⟩ := FC.out _ H2.out; clear hb2))
        all_goals
          go_ret
          exact ⟨by first | rfl | simp, HB2.out.trans (H2.out.mono HB2.out.size)⟩
end
end Go.Proofs.YtcfhggdiccilaaaGreat
