/- Texts of mine in one: Ec5. -/
import Derived.Test.YtcfhggdiccilaaaGreatQ16
import Derived.Test.YtcfhggdiccilaaaGreatQ09
namespace Go.Proofs.YtcfhggdiccilaaaGreat
section
open Go.RowKit
set_option linter.unusedVariables false
set_option linter.unusedSimpArgs false
def attrB (f : Flat) : Bool :=
  if f.op < 1 ∨ 7 < f.op then false else if rightS f.text = false then false else if f.mark < 0 ∨ 2 < f.mark then false
  else if f.op = 1 ∧ (f.text ≠ ⟨#[]⟩ ∨ f.mark ≠ 0) then false else f.fold == decide (f.mark = 1)
def simpB (nm : Nm) (f : Flat) (of inner : Bool) : Bool :=
  if f.kind = 1 then spcB nm f && (nameS f.name && (!condB f && (!abB f && !of)))
  else if f.kind = 2 then spcB nm f && (f.name.toList.isEmpty && (!condB f && (!abB f && !of)))
  else if f.kind = 5 then spcB nm f && (nameS f.name && (attrB f && (!abB f && !of)))
  else if nsB f = true ∨ condB f = true then false
  else if f.kind = 3 ∨ f.kind = 4 then nameS f.name && (!abB f && !of)
  else if f.kind = 11 then hasE stateE f.name && (!abB f && !of)
  else if f.kind = 13 then hasE elemE f.name && (!abB f && !of)
  else if f.name.toList.isEmpty = false then false
  else if f.kind = 6 ∨ f.kind = 12 then !abB f && !of
  else if f.kind = 7 then smallB f.a && (smallB f.b && (!of || inner))
  else if f.kind = 8 ∨ f.kind = 9 ∨ f.kind = 10 then !abB f && inner
  else false
set_option maxRecDepth 100000 in
set_option maxHeartbeats 16000000 in
theorem simp8_k {nm : Nm} {N : NmV} {w : World} {k : Int} (hk : k = 1 ∨ k = 2 ∨ k = 3 ∨ k = 4 ∨ k = 6 ∨ k = 7 ∨ k = 8 ∨ k = 9 ∨ k = 10 ∨ k = 11 ∨ k = 12 ∨ k = 13) (h : NmAt (· < w.heap.size) w N nm) (ns : Int) (pre name : ByteArray) (op : Int) (text : ByteArray) (fold : Bool) (mark fa fb : Int) (a : Option Addr) (n c : Nat) (hn : n ≤ 140737488351232) (hok : name.size ≤ 140737488351232 ∧ text.size ≤ 140737488351232) (inner : Bool) (hR : ∀ w', Below w.heap.size w w' → Calls Tryz.prog 42 #[.slice a n c, nmV nm N, .bool false] w' (Told (.bool inner) w')) :
    Calls Tryz.prog 60 #[sval ⟨k, ns, pre, name, op, text, fold, mark, fa, fb⟩ a n c, nmV nm N] w (Told (.bool (simpB nm ⟨k, ns, pre, name, op, text, fold, mark, fa, fb⟩ (decide (0 < n)) inner)) w) := by
  have hb1 := (Below.refl w.heap.size w).alloc (Nat.le_refl _) (.cells #[.int .i64 k, .int .i64 ns, .string pre, .string name, .int .i64 op, .string text, .bool fold, .int .i64 mark, .int .i64 fa, .int .i64 fb, .slice a n c] 118)
  have hb2 := hb1.alloc hb1.size (.cells #[.bool nm.hd, .string nm.df, .slice N.pa N.pn N.pc, .slice N.sa N.sn N.sc] 25)
  have B1 := (Blk.alloc (w := w) [.int .i64 k, .int .i64 ns, .string pre, .string name, .int .i64 op, .string text, .bool fold, .int .i64 mark, .int .i64 fa, .int .i64 fb, .slice a n c] 118).alloc_old (.cells #[.bool nm.hd, .string nm.df, .slice N.pa N.pn N.pc, .slice N.sa N.sn N.sc] 25)
  have B2 : Blk ((w.alloc (.cells #[.int .i64 k, .int .i64 ns, .string pre, .string name, .int .i64 op, .string text, .bool fold, .int .i64 mark, .int .i64 fa, .int .i64 fb, .slice a n c] 118)).alloc (.cells #[.bool nm.hd, .string nm.df, .slice N.pa N.pn N.pc, .slice N.sa N.sn N.sc] 25)) (w.heap.size + 1) [.bool nm.hd, .string nm.df, .slice N.pa N.pn N.pc, .slice N.sa N.sn N.sc] 25 := by
    have hh : Blk ((w.alloc (.cells #[.int .i64 k, .int .i64 ns, .string pre, .string name, .int .i64 op, .string text, .bool fold, .int .i64 mark, .int .i64 fa, .int .i64 fb, .slice a n c] 118)).alloc (.cells #[.bool nm.hd, .string nm.df, .slice N.pa N.pn N.pc, .slice N.sa N.sn N.sc] 25)) (w.alloc (.cells #[.int .i64 k, .int .i64 ns, .string pre, .string name, .int .i64 op, .string text, .bool fold, .int .i64 mark, .int .i64 fa, .int .i64 fb, .slice a n c] 118)).heap.size [.bool nm.hd, .string nm.df, .slice N.pa N.pn N.pc, .slice N.sa N.sn N.sc] 25 := Blk.alloc [.bool nm.hd, .string nm.df, .slice N.pa N.pn N.pc, .slice N.sa N.sn N.sc] _
    rwa [show (w.alloc (.cells #[.int .i64 k, .int .i64 ns, .string pre, .string name, .int .i64 op, .string text, .bool fold, .int .i64 mark, .int .i64 fa, .int .i64 fb, .slice a n c] 118)).heap.size = w.heap.size + 1 from by simp] at hh
  have HB2 := Lib.hid hb2
  have FC := Lib.hid (fun (wx : World) (hb : Below ((w.alloc (.cells #[.int .i64 k, .int .i64 ns, .string pre, .string name, .int .i64 op, .string text, .bool fold, .int .i64 mark, .int .i64 fa, .int .i64 fb, .slice a n c] 118)).alloc (.cells #[.bool nm.hd, .string nm.df, .slice N.pa N.pn N.pc, .slice N.sa N.sn N.sc] 25)).heap.size ((w.alloc (.cells #[.int .i64 k, .int .i64 ns, .string pre, .string name, .int .i64 op, .string text, .bool fold, .int .i64 mark, .int .i64 fa, .int .i64 fb, .slice a n c] 118)).alloc (.cells #[.bool nm.hd, .string nm.df, .slice N.pa N.pn N.pc, .slice N.sa N.sn N.sc] 25)) wx) => (show wx.cell? ⟨w.heap.size, 0, none⟩ = some (.int .i64 k) ∧ wx.cell? ⟨w.heap.size, 1, none⟩ = some (.int .i64 ns) ∧ wx.cell? ⟨w.heap.size, 2, none⟩ = some (.string pre) ∧ wx.cell? ⟨w.heap.size, 3, none⟩ = some (.string name) ∧ wx.cell? ⟨w.heap.size, 4, none⟩ = some (.int .i64 op) ∧ wx.cell? ⟨w.heap.size, 5, none⟩ = some (.string text) ∧ wx.cell? ⟨w.heap.size, 6, none⟩ = some (.bool fold) ∧ wx.cell? ⟨w.heap.size, 7, none⟩ = some (.int .i64 mark) ∧ wx.cell? ⟨w.heap.size, 8, none⟩ = some (.int .i64 fa) ∧ wx.cell? ⟨w.heap.size, 9, none⟩ = some (.int .i64 fb) ∧ wx.cell? ⟨w.heap.size, 10, none⟩ = some (.slice a n c) ∧ wx.cell? ⟨w.heap.size + 1, 0, none⟩ = some (.bool nm.hd) ∧ wx.cell? ⟨w.heap.size + 1, 1, none⟩ = some (.string nm.df) ∧ wx.cell? ⟨w.heap.size + 1, 2, none⟩ = some (.slice N.pa N.pn N.pc) ∧ wx.cell? ⟨w.heap.size + 1, 3, none⟩ = some (.slice N.sa N.sn N.sc) from ⟨(B1.later hb B1.lt).cell 0 _ rfl, (B1.later hb B1.lt).cell 1 _ rfl, (B1.later hb B1.lt).cell 2 _ rfl, (B1.later hb B1.lt).cell 3 _ rfl, (B1.later hb B1.lt).cell 4 _ rfl, (B1.later hb B1.lt).cell 5 _ rfl, (B1.later hb B1.lt).cell 6 _ rfl, (B1.later hb B1.lt).cell 7 _ rfl, (B1.later hb B1.lt).cell 8 _ rfl, (B1.later hb B1.lt).cell 9 _ rfl, (B1.later hb B1.lt).cell 10 _ rfl, (B2.later hb B2.lt).cell 0 _ rfl, (B2.later hb B2.lt).cell 1 _ rfl, (B2.later hb B2.lt).cell 2 _ rfl, (B2.later hb B2.lt).cell 3 _ rfl⟩))
  have hS : ∀ wx, Below ((w.alloc (.cells #[.int .i64 k, .int .i64 ns, .string pre, .string name, .int .i64 op, .string text, .bool fold, .int .i64 mark, .int .i64 fa, .int .i64 fb, .slice a n c] 118)).alloc (.cells #[.bool nm.hd, .string nm.df, .slice N.pa N.pn N.pc, .slice N.sa N.sn N.sc] 25)).heap.size ((w.alloc (.cells #[.int .i64 k, .int .i64 ns, .string pre, .string name, .int .i64 op, .string text, .bool fold, .int .i64 mark, .int .i64 fa, .int .i64 fb, .slice a n c] 118)).alloc (.cells #[.bool nm.hd, .string nm.df, .slice N.pa N.pn N.pc, .slice N.sa N.sn N.sc] 25)) wx → NmAt (· < wx.heap.size) wx N nm := fun wx hb => h.move (fun b hb' => ⟨Nat.lt_of_lt_of_le hb' (Nat.le_trans hb2.size hb.size), ((hb2.trans (hb.mono hb2.size)).block b hb')⟩)
  have GP := Lib.hid (fun wx => parts8_any ⟨k, ns, pre, name, op, text, fold, mark, fa, fb⟩ a n c wx hn)
  have GS := Lib.hid (fun wx (hb : Below ((w.alloc (.cells #[.int .i64 k, .int .i64 ns, .string pre, .string name, .int .i64 op, .string text, .bool fold, .int .i64 mark, .int .i64 fa, .int .i64 fb, .slice a n c] 118)).alloc (.cells #[.bool nm.hd, .string nm.df, .slice N.pa N.pn N.pc, .slice N.sa N.sn N.sc] 25)).heap.size ((w.alloc (.cells #[.int .i64 k, .int .i64 ns, .string pre, .string name, .int .i64 op, .string text, .bool fold, .int .i64 mark, .int .i64 fa, .int .i64 fb, .slice a n c] 118)).alloc (.cells #[.bool nm.hd, .string nm.df, .slice N.pa N.pn N.pc, .slice N.sa N.sn N.sc] 25)) wx) => spc8_any (hS wx hb) ⟨k, ns, pre, name, op, text, fold, mark, fa, fb⟩ a n c)
  have GN := Lib.hid (fun wx => name8_any name wx hok.1)
  have GR := Lib.hid (fun wx (hb : Below ((w.alloc (.cells #[.int .i64 k, .int .i64 ns, .string pre, .string name, .int .i64 op, .string text, .bool fold, .int .i64 mark, .int .i64 fa, .int .i64 fb, .slice a n c] 118)).alloc (.cells #[.bool nm.hd, .string nm.df, .slice N.pa N.pn N.pc, .slice N.sa N.sn N.sc] 25)).heap.size ((w.alloc (.cells #[.int .i64 k, .int .i64 ns, .string pre, .string name, .int .i64 op, .string text, .bool fold, .int .i64 mark, .int .i64 fa, .int .i64 fb, .slice a n c] 118)).alloc (.cells #[.bool nm.hd, .string nm.df, .slice N.pa N.pn N.pc, .slice N.sa N.sn N.sc] 25)) wx) => hR wx (hb2.trans (hb.mono hb2.size)))
  have GT := Lib.hid (fun wx => state8_any name wx)
  have GE := Lib.hid (fun wx => elem8_any name wx)
  have GA := Lib.hid (fun wx => small8_any fa wx)
  have GB8 := Lib.hid (fun wx => small8_any fb wx)
  have HZ := Lib.hid (Below.refl ((w.alloc (.cells #[.int .i64 k, .int .i64 ns, .string pre, .string name, .int .i64 op, .string text, .bool fold, .int .i64 mark, .int .i64 fa, .int .i64 fb, .slice a n c] 118)).alloc (.cells #[.bool nm.hd, .string nm.df, .slice N.pa N.pn N.pc, .slice N.sa N.sn N.sc] 25)).heap.size ((w.alloc (.cells #[.int .i64 k, .int .i64 ns, .string pre, .string name, .int .i64 op, .string text, .bool fold, .int .i64 mark, .int .i64 fa, .int .i64 fb, .slice a n c] 118)).alloc (.cells #[.bool nm.hd, .string nm.df, .slice N.pa N.pn N.pc, .slice N.sa N.sn N.sc] 25)))
  obtain ⟨x0, x1, x2, x3, x4, x5, x6, x7, x8, x9, x10, y0, y1, y2, y3⟩ := FC.out _ HZ.out
  unfold simpB
  dsimp only
  have HOK := Lib.hid hok
  clear hb1 hb2 B1 B2 hS h hn hR hok
  generalize nsB ⟨k, ns, pre, name, op, text, fold, mark, fa, fb⟩ = nb at *
  generalize condB ⟨k, ns, pre, name, op, text, fold, mark, fa, fb⟩ = cb at *
  generalize abB ⟨k, ns, pre, name, op, text, fold, mark, fa, fb⟩ = ab at *
  generalize spcB nm ⟨k, ns, pre, name, op, text, fold, mark, fa, fb⟩ = sp at *
  generalize nameS name = nn at *
  generalize name.toList.isEmpty = ne at *
  generalize hasE stateE name = hs at *
  generalize hasE elemE name = he at *
  generalize smallB fa = sa at *
  generalize smallB fb = sb at *
  generalize decide (0 < n) = of at *
  unfold sval nmV at *
  dsimp only at GP GS GR ⊢
  rcases hk with rfl | rfl | rfl | rfl | rfl | rfl | rfl | rfl | rfl | rfl | rfl | rfl
  case' inr.inr.inr.inr.inr.inr.inr.inr.inr.inr.inr =>
    cases nb
    case' false =>
      cases cb
      case' false =>
        cases he
        case' true =>
          cases ab
  case' inr.inr.inr.inr.inr.inr.inr.inr.inr.inr.inl =>
    cases nb
    case' false =>
      cases cb
      case' false =>
        cases ne
        case' true =>
          cases ab
  case' inr.inr.inr.inr.inr.inr.inr.inr.inr.inl =>
    cases nb
    case' false =>
      cases cb
      case' false =>
        cases hs
        case' true =>
          cases ab
  case' inr.inr.inr.inr.inr.inr.inr.inr.inl =>
    cases nb
    case' false =>
      cases cb
      case' false =>
        cases ne
        case' true =>
          cases ab
  case' inr.inr.inr.inr.inr.inr.inr.inl =>
    cases nb
    case' false =>
      cases cb
      case' false =>
        cases ne
        case' true =>
          cases ab
  case' inr.inr.inr.inr.inr.inr.inl =>
    cases nb
    case' false =>
      cases cb
      case' false =>
        cases ne
        case' true =>
          cases ab
  case' inr.inr.inr.inr.inr.inl =>
    cases nb
    case' false =>
      cases cb
      case' false =>
        cases ne
        case' true =>
          cases sa
          case' true =>
            cases sb
            case' true =>
              cases of
  case' inr.inr.inr.inr.inl =>
    cases nb
    case' false =>
      cases cb
      case' false =>
        cases ne
        case' true =>
          cases ab
  case' inr.inr.inr.inl =>
    cases nb
    case' false =>
      cases cb
      case' false =>
        cases nn
        case' true =>
          cases ab
  case' inr.inr.inl =>
    cases nb
    case' false =>
      cases cb
      case' false =>
        cases nn
        case' true =>
          cases ab
  case' inr.inl =>
    cases sp
    case' true =>
      cases ne
      case' true =>
        cases cb
        case' false =>
          cases ab
  case' inl =>
    cases sp
    case' true =>
      cases nn
      case' true =>
        cases cb
        case' false =>
          cases ab
  all_goals
    go_enter Tryz.func60, Tryz.ntmps60
    go_wp2_with (first
      | (go_at_call 87; (with_reducible refine (GP.out _).mono ?_); rintro e z ⟨rfl, hb⟩; replace HZ := Lib.hid (HZ.out.trans (hb.mono HZ.out.size)); obtain ⟨x0, x1, x2, x3, x4, x5, x6, x7, x8, x9, x10, y0, y1, y2, y3⟩ := FC.out _ HZ.out; clear hb)
      | (go_at_call 88; (with_reducible refine (GS.out _ HZ.out).mono ?_); rintro e z ⟨rfl, hb⟩; replace HZ := Lib.hid (HZ.out.trans (hb.mono HZ.out.size)); obtain ⟨x0, x1, x2, x3, x4, x5, x6, x7, x8, x9, x10, y0, y1, y2, y3⟩ := FC.out _ HZ.out; clear hb)
      | (go_at_call 51; (with_reducible refine (GN.out _).mono ?_); rintro e z ⟨rfl, hb⟩; replace HZ := Lib.hid (HZ.out.trans (hb.mono HZ.out.size)); obtain ⟨x0, x1, x2, x3, x4, x5, x6, x7, x8, x9, x10, y0, y1, y2, y3⟩ := FC.out _ HZ.out; clear hb)
      | (go_at_call 90; (with_reducible refine (GT.out _).mono ?_); rintro e z ⟨rfl, hb⟩; replace HZ := Lib.hid (HZ.out.trans (hb.mono HZ.out.size)); obtain ⟨x0, x1, x2, x3, x4, x5, x6, x7, x8, x9, x10, y0, y1, y2, y3⟩ := FC.out _ HZ.out; clear hb)
      | (go_at_call 91; (with_reducible refine (GE.out _).mono ?_); rintro e z ⟨rfl, hb⟩; replace HZ := Lib.hid (HZ.out.trans (hb.mono HZ.out.size)); obtain ⟨x0, x1, x2, x3, x4, x5, x6, x7, x8, x9, x10, y0, y1, y2, y3⟩ := FC.out _ HZ.out; clear hb)
      | (go_at_call 92; (with_reducible refine (GA.out _).mono ?_); rintro e z ⟨rfl, hb⟩; replace HZ := Lib.hid (HZ.out.trans (hb.mono HZ.out.size)); obtain ⟨x0, x1, x2, x3, x4, x5, x6, x7, x8, x9, x10, y0, y1, y2, y3⟩ := FC.out _ HZ.out; clear hb)
      | (go_at_call 92; (with_reducible refine (GB8.out _).mono ?_); rintro e z ⟨rfl, hb⟩; replace HZ := Lib.hid (HZ.out.trans (hb.mono HZ.out.size)); obtain ⟨x0, x1, x2, x3, x4, x5, x6, x7, x8, x9, x10, y0, y1, y2, y3⟩ := FC.out _ HZ.out; clear hb)
      | (go_at_call 42; (with_reducible refine (GR.out _ HZ.out).mono ?_); rintro e z ⟨rfl, hb⟩; replace HZ := Lib.hid (HZ.out.trans (hb.mono HZ.out.size)); obtain ⟨x0, x1, x2, x3, x4, x5, x6, x7, x8, x9, x10, y0, y1, y2, y3⟩ := FC.out _ HZ.out; clear hb))
    go_ret
    exact ⟨by first | rfl | simp, HB2.out.trans (HZ.out.mono HB2.out.size)⟩
theorem simp8_1 {nm : Nm} {N : NmV} {w : World} (h : NmAt (· < w.heap.size) w N nm) (ns : Int) (pre name : ByteArray) (op : Int) (text : ByteArray) (fold : Bool) (mark fa fb : Int) (a : Option Addr) (n c : Nat) (hn : n ≤ 140737488351232) (hok : name.size ≤ 140737488351232 ∧ text.size ≤ 140737488351232) (inner : Bool) (hR : ∀ w', Below w.heap.size w w' → Calls Tryz.prog 42 #[.slice a n c, nmV nm N, .bool false] w' (Told (.bool inner) w')) :
    Calls Tryz.prog 60 #[sval ⟨1, ns, pre, name, op, text, fold, mark, fa, fb⟩ a n c, nmV nm N] w (Told (.bool (simpB nm ⟨1, ns, pre, name, op, text, fold, mark, fa, fb⟩ (decide (0 < n)) inner)) w) := simp8_k (Or.inl rfl) h ns pre name op text fold mark fa fb a n c hn hok inner hR
theorem simp8_2 {nm : Nm} {N : NmV} {w : World} (h : NmAt (· < w.heap.size) w N nm) (ns : Int) (pre name : ByteArray) (op : Int) (text : ByteArray) (fold : Bool) (mark fa fb : Int) (a : Option Addr) (n c : Nat) (hn : n ≤ 140737488351232) (hok : name.size ≤ 140737488351232 ∧ text.size ≤ 140737488351232) (inner : Bool) (hR : ∀ w', Below w.heap.size w w' → Calls Tryz.prog 42 #[.slice a n c, nmV nm N, .bool false] w' (Told (.bool inner) w')) :
    Calls Tryz.prog 60 #[sval ⟨2, ns, pre, name, op, text, fold, mark, fa, fb⟩ a n c, nmV nm N] w (Told (.bool (simpB nm ⟨2, ns, pre, name, op, text, fold, mark, fa, fb⟩ (decide (0 < n)) inner)) w) := simp8_k (Or.inr (Or.inl rfl)) h ns pre name op text fold mark fa fb a n c hn hok inner hR
theorem simp8_3 {nm : Nm} {N : NmV} {w : World} (h : NmAt (· < w.heap.size) w N nm) (ns : Int) (pre name : ByteArray) (op : Int) (text : ByteArray) (fold : Bool) (mark fa fb : Int) (a : Option Addr) (n c : Nat) (hn : n ≤ 140737488351232) (hok : name.size ≤ 140737488351232 ∧ text.size ≤ 140737488351232) (inner : Bool) (hR : ∀ w', Below w.heap.size w w' → Calls Tryz.prog 42 #[.slice a n c, nmV nm N, .bool false] w' (Told (.bool inner) w')) :
    Calls Tryz.prog 60 #[sval ⟨3, ns, pre, name, op, text, fold, mark, fa, fb⟩ a n c, nmV nm N] w (Told (.bool (simpB nm ⟨3, ns, pre, name, op, text, fold, mark, fa, fb⟩ (decide (0 < n)) inner)) w) := simp8_k (Or.inr (Or.inr (Or.inl rfl))) h ns pre name op text fold mark fa fb a n c hn hok inner hR
theorem simp8_4 {nm : Nm} {N : NmV} {w : World} (h : NmAt (· < w.heap.size) w N nm) (ns : Int) (pre name : ByteArray) (op : Int) (text : ByteArray) (fold : Bool) (mark fa fb : Int) (a : Option Addr) (n c : Nat) (hn : n ≤ 140737488351232) (hok : name.size ≤ 140737488351232 ∧ text.size ≤ 140737488351232) (inner : Bool) (hR : ∀ w', Below w.heap.size w w' → Calls Tryz.prog 42 #[.slice a n c, nmV nm N, .bool false] w' (Told (.bool inner) w')) :
    Calls Tryz.prog 60 #[sval ⟨4, ns, pre, name, op, text, fold, mark, fa, fb⟩ a n c, nmV nm N] w (Told (.bool (simpB nm ⟨4, ns, pre, name, op, text, fold, mark, fa, fb⟩ (decide (0 < n)) inner)) w) := simp8_k (Or.inr (Or.inr (Or.inr (Or.inl rfl)))) h ns pre name op text fold mark fa fb a n c hn hok inner hR
theorem simp8_6 {nm : Nm} {N : NmV} {w : World} (h : NmAt (· < w.heap.size) w N nm) (ns : Int) (pre name : ByteArray) (op : Int) (text : ByteArray) (fold : Bool) (mark fa fb : Int) (a : Option Addr) (n c : Nat) (hn : n ≤ 140737488351232) (hok : name.size ≤ 140737488351232 ∧ text.size ≤ 140737488351232) (inner : Bool) (hR : ∀ w', Below w.heap.size w w' → Calls Tryz.prog 42 #[.slice a n c, nmV nm N, .bool false] w' (Told (.bool inner) w')) :
    Calls Tryz.prog 60 #[sval ⟨6, ns, pre, name, op, text, fold, mark, fa, fb⟩ a n c, nmV nm N] w (Told (.bool (simpB nm ⟨6, ns, pre, name, op, text, fold, mark, fa, fb⟩ (decide (0 < n)) inner)) w) := simp8_k (Or.inr (Or.inr (Or.inr (Or.inr (Or.inl rfl))))) h ns pre name op text fold mark fa fb a n c hn hok inner hR
theorem simp8_7 {nm : Nm} {N : NmV} {w : World} (h : NmAt (· < w.heap.size) w N nm) (ns : Int) (pre name : ByteArray) (op : Int) (text : ByteArray) (fold : Bool) (mark fa fb : Int) (a : Option Addr) (n c : Nat) (hn : n ≤ 140737488351232) (hok : name.size ≤ 140737488351232 ∧ text.size ≤ 140737488351232) (inner : Bool) (hR : ∀ w', Below w.heap.size w w' → Calls Tryz.prog 42 #[.slice a n c, nmV nm N, .bool false] w' (Told (.bool inner) w')) :
    Calls Tryz.prog 60 #[sval ⟨7, ns, pre, name, op, text, fold, mark, fa, fb⟩ a n c, nmV nm N] w (Told (.bool (simpB nm ⟨7, ns, pre, name, op, text, fold, mark, fa, fb⟩ (decide (0 < n)) inner)) w) := simp8_k (Or.inr (Or.inr (Or.inr (Or.inr (Or.inr (Or.inl rfl)))))) h ns pre name op text fold mark fa fb a n c hn hok inner hR
theorem simp8_8 {nm : Nm} {N : NmV} {w : World} (h : NmAt (· < w.heap.size) w N nm) (ns : Int) (pre name : ByteArray) (op : Int) (text : ByteArray) (fold : Bool) (mark fa fb : Int) (a : Option Addr) (n c : Nat) (hn : n ≤ 140737488351232) (hok : name.size ≤ 140737488351232 ∧ text.size ≤ 140737488351232) (inner : Bool) (hR : ∀ w', Below w.heap.size w w' → Calls Tryz.prog 42 #[.slice a n c, nmV nm N, .bool false] w' (Told (.bool inner) w')) :
    Calls Tryz.prog 60 #[sval ⟨8, ns, pre, name, op, text, fold, mark, fa, fb⟩ a n c, nmV nm N] w (Told (.bool (simpB nm ⟨8, ns, pre, name, op, text, fold, mark, fa, fb⟩ (decide (0 < n)) inner)) w) := simp8_k (Or.inr (Or.inr (Or.inr (Or.inr (Or.inr (Or.inr (Or.inl rfl))))))) h ns pre name op text fold mark fa fb a n c hn hok inner hR
theorem simp8_9 {nm : Nm} {N : NmV} {w : World} (h : NmAt (· < w.heap.size) w N nm) (ns : Int) (pre name : ByteArray) (op : Int) (text : ByteArray) (fold : Bool) (mark fa fb : Int) (a : Option Addr) (n c : Nat) (hn : n ≤ 140737488351232) (hok : name.size ≤ 140737488351232 ∧ text.size ≤ 140737488351232) (inner : Bool) (hR : ∀ w', Below w.heap.size w w' → Calls Tryz.prog 42 #[.slice a n c, nmV nm N, .bool false] w' (Told (.bool inner) w')) :
    Calls Tryz.prog 60 #[sval ⟨9, ns, pre, name, op, text, fold, mark, fa, fb⟩ a n c, nmV nm N] w (Told (.bool (simpB nm ⟨9, ns, pre, name, op, text, fold, mark, fa, fb⟩ (decide (0 < n)) inner)) w) := simp8_k (Or.inr (Or.inr (Or.inr (Or.inr (Or.inr (Or.inr (Or.inr (Or.inl rfl)))))))) h ns pre name op text fold mark fa fb a n c hn hok inner hR
theorem simp8_10 {nm : Nm} {N : NmV} {w : World} (h : NmAt (· < w.heap.size) w N nm) (ns : Int) (pre name : ByteArray) (op : Int) (text : ByteArray) (fold : Bool) (mark fa fb : Int) (a : Option Addr) (n c : Nat) (hn : n ≤ 140737488351232) (hok : name.size ≤ 140737488351232 ∧ text.size ≤ 140737488351232) (inner : Bool) (hR : ∀ w', Below w.heap.size w w' → Calls Tryz.prog 42 #[.slice a n c, nmV nm N, .bool false] w' (Told (.bool inner) w')) :
    Calls Tryz.prog 60 #[sval ⟨10, ns, pre, name, op, text, fold, mark, fa, fb⟩ a n c, nmV nm N] w (Told (.bool (simpB nm ⟨10, ns, pre, name, op, text, fold, mark, fa, fb⟩ (decide (0 < n)) inner)) w) := simp8_k (Or.inr (Or.inr (Or.inr (Or.inr (Or.inr (Or.inr (Or.inr (Or.inr (Or.inl rfl))))))))) h ns pre name op text fold mark fa fb a n c hn hok inner hR
theorem simp8_11 {nm : Nm} {N : NmV} {w : World} (h : NmAt (· < w.heap.size) w N nm) (ns : Int) (pre name : ByteArray) (op : Int) (text : ByteArray) (fold : Bool) (mark fa fb : Int) (a : Option Addr) (n c : Nat) (hn : n ≤ 140737488351232) (hok : name.size ≤ 140737488351232 ∧ text.size ≤ 140737488351232) (inner : Bool) (hR : ∀ w', Below w.heap.size w w' → Calls Tryz.prog 42 #[.slice a n c, nmV nm N, .bool false] w' (Told (.bool inner) w')) :
    Calls Tryz.prog 60 #[sval ⟨11, ns, pre, name, op, text, fold, mark, fa, fb⟩ a n c, nmV nm N] w (Told (.bool (simpB nm ⟨11, ns, pre, name, op, text, fold, mark, fa, fb⟩ (decide (0 < n)) inner)) w) := simp8_k (Or.inr (Or.inr (Or.inr (Or.inr (Or.inr (Or.inr (Or.inr (Or.inr (Or.inr (Or.inl rfl)))))))))) h ns pre name op text fold mark fa fb a n c hn hok inner hR
theorem simp8_12 {nm : Nm} {N : NmV} {w : World} (h : NmAt (· < w.heap.size) w N nm) (ns : Int) (pre name : ByteArray) (op : Int) (text : ByteArray) (fold : Bool) (mark fa fb : Int) (a : Option Addr) (n c : Nat) (hn : n ≤ 140737488351232) (hok : name.size ≤ 140737488351232 ∧ text.size ≤ 140737488351232) (inner : Bool) (hR : ∀ w', Below w.heap.size w w' → Calls Tryz.prog 42 #[.slice a n c, nmV nm N, .bool false] w' (Told (.bool inner) w')) :
    Calls Tryz.prog 60 #[sval ⟨12, ns, pre, name, op, text, fold, mark, fa, fb⟩ a n c, nmV nm N] w (Told (.bool (simpB nm ⟨12, ns, pre, name, op, text, fold, mark, fa, fb⟩ (decide (0 < n)) inner)) w) := simp8_k (Or.inr (Or.inr (Or.inr (Or.inr (Or.inr (Or.inr (Or.inr (Or.inr (Or.inr (Or.inr (Or.inl rfl))))))))))) h ns pre name op text fold mark fa fb a n c hn hok inner hR
theorem simp8_13 {nm : Nm} {N : NmV} {w : World} (h : NmAt (· < w.heap.size) w N nm) (ns : Int) (pre name : ByteArray) (op : Int) (text : ByteArray) (fold : Bool) (mark fa fb : Int) (a : Option Addr) (n c : Nat) (hn : n ≤ 140737488351232) (hok : name.size ≤ 140737488351232 ∧ text.size ≤ 140737488351232) (inner : Bool) (hR : ∀ w', Below w.heap.size w w' → Calls Tryz.prog 42 #[.slice a n c, nmV nm N, .bool false] w' (Told (.bool inner) w')) :
    Calls Tryz.prog 60 #[sval ⟨13, ns, pre, name, op, text, fold, mark, fa, fb⟩ a n c, nmV nm N] w (Told (.bool (simpB nm ⟨13, ns, pre, name, op, text, fold, mark, fa, fb⟩ (decide (0 < n)) inner)) w) := simp8_k (Or.inr (Or.inr (Or.inr (Or.inr (Or.inr (Or.inr (Or.inr (Or.inr (Or.inr (Or.inr (Or.inr (rfl)))))))))))) h ns pre name op text fold mark fa fb a n c hn hok inner hR
end
end Go.Proofs.YtcfhggdiccilaaaGreat
