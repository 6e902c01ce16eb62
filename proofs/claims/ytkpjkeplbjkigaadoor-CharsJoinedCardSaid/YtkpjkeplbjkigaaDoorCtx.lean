/- CharsTexts: the law's walk. -/
import Derived.Test.YtkpjkeplbjkigaaDoorNms
import Derived.Test.YtkpjkeplbjkigaaDoorChW
namespace Go.Proofs.YtkpjkeplbjkigaaDoor
open Go.RowKit
set_option linter.unusedVariables false

theorem same_lowS (a b : ByteArray) : ((lowS a).toList == (lowS b).toList) = sameB a b := by
  rw [list_beq, sameB_low, strB_low, strB_low]

theorem strB_map_inj : ∀ {xs ys : List ByteArray}, xs.map strB = ys.map strB → xs = ys
  | [], [], _ => rfl
  | [], _ :: _, h => by simp at h
  | _ :: _, [], h => by simp at h
  | x :: xs, y :: ys, h => by
    rw [List.map_cons, List.map_cons, List.cons.injEq] at h
    rw [strB_inj h.1, strB_map_inj h.2]

set_option maxRecDepth 100000 in
set_option maxHeartbeats 4000000 in
theorem lawTexts_any (a b : ByteArray) (w : World) (hT : Tab w) (ha : a.size ≤ maxLen) (hb : b.size ≤ maxLen) : Calls Tryd.prog 3 #[.string a, .string b] w fun e w' => e = .returned (.bool true) ∧ Below w.heap.size w w' := by
  have cS := speaks2_any w hT
  have hsa : a.size ≤ 9223372036854775807 := ha
  have hsb : b.size ≤ 9223372036854775807 := hb
  go_enter Tryd.func3, Tryd.ntmps3
  go_wp2_with fail
  refine cS.mono ?_
  rintro e w1 ⟨rfl, hb1⟩
  clear cS hT
  by_cases h1 : 2000 < a.size
  · have q : decide ((2000 : Int) < (a.size : Int)) = true := decide_eq_true (by omega)
    clear h1
    go_wp2
    go_ret
    exact ⟨rfl, hb1⟩
  have q : decide ((2000 : Int) < (a.size : Int)) = false := decide_eq_false (by omega)
  by_cases h2 : 2000 < b.size
  · have q2 : decide ((2000 : Int) < (b.size : Int)) = true := decide_eq_true (by omega)
    clear h1 h2
    go_wp2
    go_ret
    exact ⟨rfl, hb1⟩
  have q2 : decide ((2000 : Int) < (b.size : Int)) = false := decide_eq_false (by omega)
  have cLa := fun w => lower_any a w hsa
  have rLa := fun w => rlower_any a w (by omega)
  have rLb := fun w => rlower_any b w (by omega)
  have cSm := fun w => same_any a b w (by omega)
  have cN := fun w => names_any a w (by omega)
  have rN := fun w => rnames_any a w (by omega)
  have hq := same_lowS a b
  obtain ⟨X, hX⟩ : ∃ X, lowS a = X := ⟨_, rfl⟩
  obtain ⟨Y, hY⟩ : ∃ X, lowS b = X := ⟨_, rfl⟩
  rw [hX] at cLa rLa hq
  rw [hY] at rLb hq
  have qX : (X.toList == X.toList) = true := beq_self_eq_true _
  generalize sameB a b = p at cSm hq
  have hm2 : a.size ≤ 2000 := by omega
  clear hX hY h1 h2
  have HB1 := Lib.hid hb1
  have HM := Lib.hid hm2
  clear hb1 hm2
  cases p
  all_goals
    go_wp2_with fail
    refine (cLa _).mono ?_
    rintro e w2 ⟨rfl, hb2⟩
    go_wp2_with fail
    refine (rLa _).mono ?_
    rintro e w3 ⟨rfl, hb3⟩
    have hb13 := below_trans hb2 hb3
    go_wp2_with fail
    refine (cSm _).mono ?_
    rintro e w4 ⟨rfl, hb4⟩
    have hb14 := below_trans hb13 hb4
    go_wp2_with fail
    refine (rLa _).mono ?_
    rintro e w5 ⟨rfl, hb5⟩
    have hb15 := below_trans hb14 hb5
    go_wp2_with fail
    refine (rLb _).mono ?_
    rintro e w6 ⟨rfl, hb6⟩
    have hb16 := below_trans HB1.out (below_trans hb15 hb6)
    have HB6 := Lib.hid hb16
    clear hb2 hb3 hb4 hb5 hb6 hb13 hb14 hb15 hb16
    go_wp2_with fail
    refine (cN _).mono ?_
    rintro e w7 ⟨v1, s1, rfl, ho1, hw1, hl1, hb7⟩
    obtain ⟨a1, c1, rfl⟩ := own_slice ho1
    have HO1 := Lib.hid ho1
    have HW1 := Lib.hid hw1
    have HL1 := Lib.hid hl1
    clear ho1 hw1 hl1
    go_wp2_with fail
    refine (rN _).mono ?_
    rintro e w8 ⟨v2, s2, rfl, ho2, hw2, hl2, hb8⟩
    obtain ⟨a2, c2, rfl⟩ := own_slice ho2
    have hss : s2 = s1 := strB_map_inj (hw2.trans HW1.out.symm)
    subst hss
    obtain ⟨n, hn⟩ : ∃ n, s2.length = n := ⟨_, rfl⟩
    have hr1 : RdS w8 w8.heap.size a1 s2 := ((RdS.of_own HO1.out).later hb8 (Nat.le_refl _)).mono hb8.size
    have hr2 : RdS w8 w8.heap.size a2 s2 := RdS.of_own ho2
    have cT := texts_same a1 a2 n c1 c2 s2 w8 hn (by have := HL1.out; have := HM.out; omega) hr1 hr2
    rw [hn]
    have HB8 := Lib.hid (below_trans HB6.out (below_trans hb7 hb8))
    clear hb7 hb8 ho2 hw2 hl2 hr1 hr2
    go_wp2_with fail
    refine cT.mono ?_
    rintro e w9 ⟨rfl, hb9⟩
    go_wp2
    go_ret
    exact ⟨rfl, below_trans HB8.out hb9⟩
end Go.Proofs.YtkpjkeplbjkigaaDoor
