/- SelCopies: the law's walk. -/
import Derived.Test.YtfgnepbpfglepaaSm2
import Derived.Test.YtfgnepbpfglepaaSm4
import Derived.Test.YtfgnepbpfglepaaSm5
import Derived.Test.YtfgnepbpfglepaaSl6
namespace Go.Proofs.Ytfgnepbpfglepaa
open Go.RowKit
set_option linter.unusedVariables false
set_option linter.unusedSimpArgs false

set_option maxRecDepth 100000 in
set_option maxHeartbeats 8000000 in
theorem lawCopies_any (d : Nat) (x y : Lx d) (a : Option Addr) (n c : Nat) (b : Option Addr) (m e : Nat) (w : World) (hx : RdL (· < w.heap.size) d w a n c x) (hy : RdL (· < w.heap.size) d w b m e y) :
    Calls Try.prog 6 #[.slice a n c, .slice b m e] w (Told (.bool true) w) := by
  have HX := Lib.hid (fun w' (hb : Below w.heap.size w w') => hx.later hb (Nat.le_refl _))
  have HY := Lib.hid (fun w' (hb : Below w.heap.size w w') => hy.later hb (Nat.le_refl _))
  clear hx hy
  go_enter Try.func6, Try.ntmps6
  go_wp2_with fail
  refine (speaks8_any _).mono ?_
  rintro e1 w1 ⟨rfl, hb1⟩
  have HB1 := Lib.hid hb1
  have fG := great_any 120 (by omega) d x a n c w1 (HX.out w1 hb1)
  have fG2 := fun w' (hb : Below w.heap.size w w') => great_any 120 (by omega) d y b m e w' (HY.out w' hb)
  clear hb1
  have HG2 := Lib.hid fG2
  clear fG2
  go_wp2_with (first
    | (go_at_call 25; (refine fG.mono ?_); rintro e2 w2 ⟨v1, rfl, hv1, hb2⟩; have hb02 := bel_tr HB1.out hb2; have fH := HG2.out _ hb02; have HV1 := Lib.hid hv1; cases v1)
    | (go_at_call 25; (refine fH.mono ?_); rintro e3 w3 ⟨v2, rfl, hv2, hb3⟩; have hb03 := bel_tr hb02 hb3; cases v2))
  all_goals first
    | (go_ret; exact ⟨rfl, by first | exact hb02 | exact hb03⟩)
    | skip
  have HB3 := Lib.hid hb03
  have HS := Lib.hid (HV1.out (by simp)).2.2
  have g1 := fun w' (hb : Below w.heap.size w w') => same_any d x y a n c b m e w' (HX.out w' hb) (HY.out w' hb)
  have g2 := fun w' (hb : Below w.heap.size w w') => rsame_any d x y a n c b m e w' (HX.out w' hb) (HY.out w' hb)
  have g3 := fun w' (hb : Below w.heap.size w w') => same_any d x x a n c a n c w' (HX.out w' hb) (HX.out w' hb)
  rw [decide_eq_true rfl] at g3
  have g1' := g1 w3 HB3.out
  generalize decide (x = y) = r at *
  have q1 : (r != r) = false := by cases r <;> rfl
  clear hb2 hb3 hb02 hb03 fG fH g1
  go_wp2_with (first
    | (go_at_call 26; (with_reducible refine g1'.mono ?_); rintro e4 w4 ⟨rfl, hb4⟩; have hb04 := bel_tr HB3.out hb4; have g2' := g2 _ hb04)
    | (go_at_call 27; (with_reducible refine g2'.mono ?_); rintro e5 w5 ⟨rfl, hb5⟩; have hb05 := bel_tr hb04 hb5; have g3' := g3 _ hb05)
    | (go_at_call 26; (with_reducible refine g3'.mono ?_); rintro e6 w6 ⟨rfl, hb6⟩; have hb06 := bel_tr hb05 hb6))
  have HB6 := Lib.hid hb06
  have fC := copy_any (by omega : 120 ≤ 1000000) d x HS.out a n c w6 (HX.out w6 hb06)
  clear hb4 hb5 hb6 hb04 hb05 hb06 g1' g2' g3' g2 g3 q1
  go_wp2_with fail
  refine fC.mono ?_
  rintro e7 w7 ⟨b1, rfl, hO1, hb7⟩
  unfold whole
  have HO1 := Lib.hid hO1
  have HB7 := Lib.hid (bel_tr HB6.out hb7)
  have HLO := Lib.hid (show w.heap.size ≤ w6.heap.size from HB6.out.size)
  have fC2 := copy_any (by omega : 120 ≤ 1000000) d x HS.out (some ⟨b1, 0, none⟩) n n w7 (hO1.rd (fun bl h1 h2 => h2))
  clear fC hO1 hb7
  go_wp2_with fail
  refine fC2.mono ?_
  rintro e8 w8 ⟨b2, rfl, hO2, hb8⟩
  unfold whole
  have HO2 := Lib.hid hO2
  have HB8 := Lib.hid (bel_tr HB7.out hb8)
  have hO18 := HO1.out.move (w' := w8) (fun bl h1 h2 => hb8.block bl h2)
  have g4 := rsame_any d x x (some ⟨b1, 0, none⟩) n n a n c w8 (hO18.rd (fun bl h1 h2 => Nat.lt_of_lt_of_le h2 hb8.size)) (HX.out w8 HB8.out)
  rw [decide_eq_true rfl] at g4
  have HO18 := Lib.hid hO18
  have HS78 := Lib.hid hb8.size
  clear fC2 hO2 hb8 hO18
  go_wp2_with fail
  refine g4.mono ?_
  rintro e9 w9 ⟨rfl, hb9⟩
  have HB9 := Lib.hid (bel_tr HB8.out hb9)
  have HS89 := Lib.hid hb9.size
  have hO19 := HO18.out.move (w' := w9) (fun bl h1 h2 => hb9.block bl (Nat.lt_of_lt_of_le h2 HS78.out))
  have hO29 := HO2.out.move (w' := w9) (fun bl h1 h2 => hb9.block bl h2)
  have fSp := spoil_any d x w6.heap.size w7.heap.size b1 n w9 hO19 (Nat.le_trans HS78.out HS89.out)
  have HO29 := Lib.hid hO29
  clear g4 hb9 hO19 hO29
  go_wp2_with fail
  refine fSp.mono ?_
  rintro e10 w10 ⟨rfl, hf⟩
  have HB10 := Lib.hid (show Below w.heap.size w w10 from HB9.out.trans (hf.1.mono HLO.out))
  have hO210 := HO29.out.move (w' := w10) (fun bl h1 h2 => hf.old (.inr h1))
  have g5 := rsame_any d x x (some ⟨b2, 0, none⟩) n n a n c w10 (hO210.rd (fun bl h1 h2 => by rw [hf.2.1]; exact Nat.lt_of_lt_of_le h2 HS89.out)) (HX.out w10 HB10.out)
  rw [decide_eq_true rfl] at g5
  clear fSp hf hO210
  go_wp2_with fail
  refine g5.mono ?_
  rintro e11 w11 ⟨rfl, hb11⟩
  go_wp2
  go_ret
  exact ⟨rfl, bel_tr HB10.out hb11⟩
end Go.Proofs.Ytfgnepbpfglepaa
