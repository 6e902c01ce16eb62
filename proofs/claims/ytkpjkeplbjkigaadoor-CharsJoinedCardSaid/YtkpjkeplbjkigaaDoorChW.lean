/- Any text as a name and between marks: what the statement calls, and the statement's walk. -/
import Derived.Test.YtkpjkeplbjkigaaDoorCh6
import Derived.Lib.LaidU8
import Derived.Lib.LaidTab
import Derived.Test.YtkpjkeplbjkigaaDoorRows
namespace Go.Proofs.YtkpjkeplbjkigaaDoor
open Go.ChangeShapes Go.WideShapes Go.RowKit Go.Shelf Go.Lib
set_option linter.unusedVariables false
set_option linter.unusedSimpArgs false

def numsOf : DataW Unit → List Int
  | .agg l => l.map fun x => match x with | .lit (.int _ z) => z | _ => 0
  | _ => []
theorem tab_of_reads {w : World} (h : VarReads Tryd.prog w "math/bits.deBruijn64tab" Rows.laid_math_bits_deBruijn64tab) : Tab w := by
  have e : Rows.laid_math_bits_deBruijn64tab (H := Unit) = tabData .u8 (numsOf Rows.laid_math_bits_deBruijn64tab) := by kernel_rfl
  have hl : 15 < (numsOf Rows.laid_math_bits_deBruijn64tab).length := by decide +kernel
  have hv : (numsOf Rows.laid_math_bits_deBruijn64tab).getD 15 0 = 4 := by decide +kernel
  have hn : (numsOf Rows.laid_math_bits_deBruijn64tab).length = 64 := by decide +kernel
  generalize numsOf Rows.laid_math_bits_deBruijn64tab = zs at *
  rw [e] at h
  obtain ⟨g, t, cs, fuel, p, h1, h2, h3, h4⟩ := h
  have hg : Tryd.prog.globalNamed "math/bits.deBruijn64tab" = some 5 := by kernel_rfl
  have ht : (Tryd.prog.globals[5]?).map (·.type) = some 113 := by kernel_rfl
  obtain rfl := Option.some.inj (hg.symm.trans h1)
  obtain rfl := Option.some.inj (ht.symm.trans h2)
  have hc := cells_of_tab (k := .u8) (n := 64) (e := 5) (by kernel_rfl) Tryd.underlying5 (by kernel_rfl) (by kernel_rfl) h4
  have hI : TabIs Tryd.prog w "math/bits.deBruijn64tab" .u8 zs := by unfold TabIs; rw [h3, ← hc]
  have := hI.cell hg 15 hl
  rw [hv] at this
  exact this

theorem speak_ident : strOfNums (identF (rawF (strI ⟨#[49, 97, 45]⟩))) = ⟨#[92, 51, 49, 32, 97, 45]⟩ := by decide +kernel
theorem speak_quote : strOfNums (quoteF (rawF (strI ⟨#[97, 34, 98]⟩))) = ⟨#[34, 97, 92, 34, 98, 34]⟩ := by decide +kernel

set_option maxRecDepth 100000 in
set_option maxHeartbeats 4000000 in
theorem speaks2_any (w : World) (hT : Tab w) : Calls Tryd.prog 9 #[] w (Told (.bool true) w) := by
  have cI := ident_any ⟨#[49, 97, 45]⟩ w hT (by decide)
  rw [speak_ident] at cI
  have cQ := fun (W : World) (hb : Below w.heap.size w W) => quote_any ⟨#[97, 34, 98]⟩ W (hT.later hb hT.lt) (by decide)
  rw [speak_quote] at cQ
  go_enter Tryd.func9, Tryd.ntmps9
  go_wp2_with fail
  refine cI.mono ?_
  rintro e w1 ⟨rfl, hb1⟩
  go_wp2_with fail
  refine (cQ _ hb1).mono ?_
  rintro e w2 ⟨rfl, hb2⟩
  have hb := below_trans hb1 hb2
  go_wp2
  go_ret
  exact ⟨rfl, hb⟩

set_option maxRecDepth 100000 in
set_option maxHeartbeats 4000000 in
theorem lawWrites_any (s : ByteArray) (w : World) (hT : Tab w) (hs : s.size ≤ maxLen) : Calls Tryd.prog 5 #[.string s] w fun e w' => e = .returned (.bool true) ∧ Below w.heap.size w w' := by
  have cS := speaks2_any w hT
  have hsm : s.size ≤ 9223372036854775807 := hs
  go_enter Tryd.func5, Tryd.ntmps5
  go_wp2_with fail
  refine cS.mono ?_
  rintro e w1 ⟨rfl, hb1⟩
  have hT1 := hT.later hb1 hT.lt
  clear cS hT
  by_cases h2000 : 2000 < s.size
  · have q : decide ((2000 : Int) < (s.size : Int)) = true := decide_eq_true (by omega)
    clear h2000
    go_wp2
    go_ret
    exact ⟨rfl, hb1⟩
  have q : decide ((2000 : Int) < (s.size : Int)) = false := decide_eq_false (by omega)
  have hs1 : s.size ≤ 10000 := by omega
  obtain ⟨I, hI⟩ : ∃ I, strOfNums (identF (rawF (strI s))) = I := ⟨_, rfl⟩
  obtain ⟨Q, hQ⟩ : ∃ I, strOfNums (quoteF (rawF (strI s))) = I := ⟨_, rfl⟩
  have cI := fun (W : World) (hb : Below w1.heap.size w1 W) => ident_any s W (hT1.later hb hT1.lt) hs1
  have cQ := fun (W : World) (hb : Below w1.heap.size w1 W) => quote_any s W (hT1.later hb hT1.lt) hs1
  have rI := fun (W : World) => rident_any s W hs1
  have rQ := fun (W : World) => rquote_any s W hs1
  rw [hI] at cI rI
  rw [hQ] at cQ rQ
  have qI : (I.toList == I.toList) = true := beq_self_eq_true _
  have qQ : (Q.toList == Q.toList) = true := beq_self_eq_true _
  clear hI hQ hT1 hs1 h2000
  have HB1 := Lib.hid hb1
  clear hb1
  go_wp2_with fail
  refine (cI _ (Below.refl _ _)).mono ?_
  rintro e w2 ⟨rfl, hb2⟩
  go_wp2_with fail
  refine (rI _).mono ?_
  rintro e w3 ⟨rfl, hb3⟩
  have hb13 := below_trans hb2 hb3
  go_wp2_with fail
  refine (cQ _ hb13).mono ?_
  rintro e w4 ⟨rfl, hb4⟩
  have hb14 := below_trans hb13 hb4
  go_wp2_with fail
  refine (rQ _).mono ?_
  rintro e w5 ⟨rfl, hb5⟩
  have hb15 := below_trans hb14 hb5
  go_wp2
  go_ret
  exact ⟨rfl, below_trans HB1.out hb15⟩
end Go.Proofs.YtkpjkeplbjkigaaDoor
