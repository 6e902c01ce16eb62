/- Texts of mine in one: Tr0 Tr1. -/
import Derived.Test.YtcfhggdiccilaaaGreatQ41
namespace Go.Proofs.YtcfhggdiccilaaaGreat
section
open Go.RowKit
set_option linter.unusedVariables false
set_option linter.unusedSimpArgs false
structure ElV where
  P : PlV
  ta : Option Addr
  tn : Nat
  tc : Nat
  root : Bool
  ua : Option Addr
  un : Nat
  uc : Nat
  la : Option Addr
  ln : Nat
  lc : Nat
  ka : Option Addr
  kn : Nat
  kc : Nat
  ha : Option Addr
  hn : Nat
  hc : Nat
def ElV.cells (E : ElV) : List Value := fitC E.P E.ta E.tn E.tc ++ [.bool E.root, .slice E.ua E.un E.uc, .slice E.la E.ln E.lc, .slice E.ka E.kn E.kc, .slice E.ha E.hn E.hc]
set_option maxRecDepth 100000 in
set_option maxHeartbeats 2000000 in
theorem term_atom {w : World} {g : Nat} {E : ElV} {holds : List Bool} (hg : Blk w g E.cells 75) (hh : BoolsAt (· < w.heap.size) w E.ha E.hn E.hc holds) (n : Int) (sa : Option Addr) (sn sc : Nat) :
    Calls Tryz.prog 44 #[.pointer (some ⟨g, 0, none⟩), .agg #[.int .i64 1, .int .i64 n, .slice sa sn sc], .int .i64 8] w (Told (.bool (atBI holds n)) w) := by
  have hb1 := (Below.refl w.heap.size w).alloc (Nat.le_refl _) (.cells #[.pointer (some ⟨g, 0, none⟩)] 108)
  have hb2 := hb1.alloc hb1.size (.cells #[.int .i64 1, .int .i64 n, .slice sa sn sc] 110)
  have hb3 := hb2.alloc hb2.size (.cells #[.int .i64 8] 3)
  have dA := ((Blk.alloc (w := w) (T := 108) [.pointer (some ⟨g, 0, none⟩)]).alloc_old (.cells #[.int .i64 1, .int .i64 n, .slice sa sn sc] 110)).alloc_old (.cells #[.int .i64 8] 3)
  have dB := (Blk.alloc (w := w.alloc (.cells #[.pointer (some ⟨g, 0, none⟩)] 108)) (T := 110) [.int .i64 1, .int .i64 n, .slice sa sn sc]).alloc_old (.cells #[.int .i64 8] 3)
  have dC := Blk.alloc (w := (w.alloc (.cells #[.pointer (some ⟨g, 0, none⟩)] 108)).alloc (.cells #[.int .i64 1, .int .i64 n, .slice sa sn sc] 110)) (T := 3) [.int .i64 8]
  rw [show (w.alloc (.cells #[.pointer (some ⟨g, 0, none⟩)] 108)).heap.size = w.heap.size + 1 from by simp] at dB
  rw [show ((w.alloc (.cells #[.pointer (some ⟨g, 0, none⟩)] 108)).alloc (.cells #[.int .i64 1, .int .i64 n, .slice sa sn sc] 110)).heap.size = w.heap.size + 1 + 1 from by simp] at dC
  obtain ⟨w0, hw0⟩ : ∃ w0, ((w.alloc (.cells #[.pointer (some ⟨g, 0, none⟩)] 108)).alloc (.cells #[.int .i64 1, .int .i64 n, .slice sa sn sc] 110)).alloc (.cells #[.int .i64 8] 3) = w0 := ⟨_, rfl⟩
  rw [hw0] at hb3 dA dB dC
  have g10 := (hg.later hb3 hg.lt).cell 10 _ rfl
  have a0 := dA.cell 0 _ rfl
  have b0 := dB.cell 0 _ rfl
  have b1 := dB.cell 1 _ rfl
  have c0 := dC.cell 0 _ rfl
  have HB := Lib.hid hb3
  have FB := Lib.hid (atb_any (w := w0.drew) (hh.move (w' := w0.drew) (ok' := (· < w0.drew.heap.size)) (fun b hb => ⟨Nat.lt_of_lt_of_le hb hb3.size, hb3.block b hb⟩)) n)
  obtain ⟨P, ta, tn, tc, root, ua, un, uc, la, ln, lc, ka, kn, kc, ha, hn, hc⟩ := E
  unfold ElV.cells fitC at *
  dsimp only at *
  generalize atBI holds n = r at *
  clear hg hh hb1 hb2 hb3 dA dB dC
  go_enter Tryz.func44, Tryz.ntmps44
  go_wp2_with fail
  clear hw0
  go_region_with (go_at_call 31; (with_reducible refine FB.out.mono ?_); rintro e w3 ⟨rfl, hb3⟩; have H3 := Lib.hid (HB.out.drew.trans (hb3.mono HB.out.drew.size)))
  all_goals
    go_wp2
    go_ret
    exact ⟨rfl, H3.out⟩
end

section
open Go.RowKit
set_option linter.unusedVariables false
set_option linter.unusedSimpArgs false
set_option maxRecDepth 100000 in
set_option maxHeartbeats 2000000 in
theorem follows_child {w : World} {g : Nat} {E : ElV} {up : List Bool} (hg : Blk w g E.cells 75) (hu : BoolsAt (· < w.heap.size) w E.ua E.un E.uc up) (ht : E.tn ≤ 1000000) :
    Calls Tryz.prog 28 #[.pointer (some ⟨g, 0, none⟩), .int .i64 2] w (Told (.bool (atBI up ((E.tn : Int) - 1))) w) := by
  have g5 := hg.cell 5 _ rfl
  have g7 := hg.cell 7 _ rfl
  have FB := Lib.hid (atb_any hu ((E.tn : Int) - 1))
  obtain ⟨P, ta, tn, tc, root, ua, un, uc, la, ln, lc, ka, kn, kc, ha, hn, hc⟩ := E
  unfold ElV.cells fitC at *
  dsimp only at *
  generalize atBI up ((tn : Int) - 1) = r at *
  clear hg hu
  go_enter Tryz.func28, Tryz.ntmps28
  go_wp2_with (go_at_call 31; (with_reducible refine FB.out.mono ?_); rintro e w3 ⟨rfl, hb3⟩; have H3 := Lib.hid hb3)
  go_ret
  exact ⟨rfl, H3.out⟩
set_option maxRecDepth 100000 in
set_option maxHeartbeats 2000000 in
theorem hold_one {w : World} {g : Nat} {E : ElV} {holds : List Bool} (hg : Blk w g E.cells 75) (hh : BoolsAt (· < w.heap.size) w E.ha E.hn E.hc holds) {a : Option Addr} {c : Nat} {m : Int} (ht : TmsAt 6 (· < w.heap.size) w a 1 c [.mk 1 m []]) :
    Calls Tryz.prog 29 #[.pointer (some ⟨g, 0, none⟩), .slice a 1 c] w (Told (.bool (atBI holds m)) w) := by
  have ht : Rg 3 tmCells (fun ok w a n c t => TmsAt 5 ok w a n c t.subs) (· < w.heap.size) w a 1 c [.mk 1 m []] := ht
  obtain ⟨b, off, rfl, hb, xa, xn, xc, hx, _⟩ := RsOf.at ht 0 (.mk 1 m []) rfl
  rw [Nat.zero_mul, Nat.add_zero] at hx
  have u0 : w.cell? ⟨b, off + 0, none⟩ = some (.int .i64 1) := hx 0 _ rfl
  rw [Nat.add_zero] at u0
  have u1 : w.cell? ⟨b, off + 1, none⟩ = some (.int .i64 m) := hx 1 _ rfl
  have u2 : w.cell? ⟨b, off + 2, none⟩ = some (.slice xa xn xc) := hx 2 _ rfl
  have hbn := (Below.refl w.heap.size w).alloc (Nat.le_refl _) (.cells #[.int .i64 1, .int .i64 m, .slice xa xn xc] 110)
  have HBN := Lib.hid hbn
  have J := Blk.alloc (w := w) (T := 110) [.int .i64 1, .int .i64 m, .slice xa xn xc]
  have j0 := J.cell 0 _ rfl
  have j1 := J.cell 1 _ rfl
  have j2 := J.cell 2 _ rfl
  have FT := Lib.hid (term_atom (hg.later hbn hg.lt) (hh.move (ok' := (· < (w.alloc (.cells #[.int .i64 1, .int .i64 m, .slice xa xn xc] 110)).heap.size)) (fun b hb => ⟨Nat.lt_of_lt_of_le hb hbn.size, hbn.block b hb⟩)) m xa xn xc)
  clear hx hb ht hg hh hbn J
  generalize atBI holds m = r at *
  go_enter Tryz.func29, Tryz.ntmps29
  go_wp2
  go_loopw [9] (fun iv wr => (iv = .int .i64 0 ∧ wr = w) ∨ (iv = .int .i64 1 ∧ r = true ∧ Hid (Below w.heap.size w wr))) (fun iv _ => 1 - (intOf iv).toNat)
  case atStart => exact .inl ⟨rfl, rfl⟩
  case round =>
    rcases hrel with ⟨rfl, rfl⟩ | ⟨rfl, rfl, HB⟩
    · cases r with
      | true =>
        go_wp2_with (go_at_call 44; (with_reducible refine FT.out.mono ?_); rintro e w3 ⟨rfl, hb3⟩; have H3 := Lib.hid (below_trans HBN.out hb3))
        go_roundw
        case rel => exact .inr ⟨by go_num, by first | rfl | trivial, H3⟩
        case measure => simp [intOf]
      | false =>
        go_wp2_with (go_at_call 44; (with_reducible refine FT.out.mono ?_); rintro e w3 ⟨rfl, hb3⟩; have H3 := Lib.hid (below_trans HBN.out hb3))
        go_ret
        exact ⟨rfl, H3.out⟩
    · go_wp2
      go_ret
      exact ⟨rfl, HB.out⟩
end
end Go.Proofs.YtcfhggdiccilaaaGreat
