/- Tokens, the program's side: urls: walks. -/
import Derived.Test.YtickcbmfboajiaaGreatDoorFK
namespace Go.Proofs.YtickcbmfboajiaaGreatDoor
open Go.RowKit Go.Shelf
set_option linter.unusedVariables false
set_option linter.unusedSimpArgs false

/-- A character that a url may not have, unless as an escape. -/
def wrongB (c : Int) : Bool := decide (c = 34 ∨ c = 39 ∨ c = 40 ∨ c = 92 ∨ c = 11 ∨ c = 127 ∨ c < 9 ∨ (14 ≤ c ∧ c ≤ 31))
set_option maxRecDepth 100000 in
theorem isWrong_any (c : Int) (w : World) (hc : Ch c) : Calls Tryz.prog 151 #[.int .i64 c] w (Tells (.bool (wrongB c)) w) := by
  obtain ⟨h0, h1⟩ := hc
  by_cases h : c = 34 ∨ c = 39 ∨ c = 40 ∨ c = 92 ∨ c = 11 ∨ c = 127
  · rw [show wrongB c = true from decide_eq_true (by omega)]
    rcases h with rfl | rfl | rfl | rfl | rfl | rfl
    all_goals
      go_enter Tryz.func151, Tryz.ntmps151
      go_wp2
      go_ret
      exact ⟨rfl, rfl⟩
  · have n1 : (c == 34) = false := beq_eq_false_iff_ne.2 (by omega)
    have n2 : (c == 39) = false := beq_eq_false_iff_ne.2 (by omega)
    have n3 : (c == 40) = false := beq_eq_false_iff_ne.2 (by omega)
    have n4 : (c == 92) = false := beq_eq_false_iff_ne.2 (by omega)
    have n5 : (c == 11) = false := beq_eq_false_iff_ne.2 (by omega)
    have n6 : (c == 127) = false := beq_eq_false_iff_ne.2 (by omega)
    rcases (show c < 9 ∨ (9 ≤ c ∧ c < 14) ∨ (14 ≤ c ∧ c ≤ 31) ∨ (14 ≤ c ∧ 31 < c) by omega) with q | ⟨q, q'⟩ | ⟨q, q'⟩ | ⟨q, q'⟩
    · rw [show wrongB c = true from decide_eq_true (by omega)]
      have m1 : decide (c < 9) = true := decide_eq_true q
      clear h q
      go_enter Tryz.func151, Tryz.ntmps151
      go_wp2
      go_ret
      exact ⟨rfl, rfl⟩
    · rw [show wrongB c = false from decide_eq_false (by omega)]
      have m1 : decide (c < 9) = false := decide_eq_false (by omega)
      have m2 : decide ((14 : Int) ≤ c) = false := decide_eq_false (by omega)
      clear h q q'
      go_enter Tryz.func151, Tryz.ntmps151
      go_wp2
      go_ret
      exact ⟨rfl, rfl⟩
    · rw [show wrongB c = true from decide_eq_true (by omega)]
      have m1 : decide (c < 9) = false := decide_eq_false (by omega)
      have m2 : decide ((14 : Int) ≤ c) = true := decide_eq_true (by omega)
      have m3 : decide (c ≤ 31) = true := decide_eq_true (by omega)
      clear h q q'
      go_enter Tryz.func151, Tryz.ntmps151
      go_wp2
      go_ret
      exact ⟨rfl, rfl⟩
    · rw [show wrongB c = false from decide_eq_false (by omega)]
      have m1 : decide (c < 9) = false := decide_eq_false (by omega)
      have m2 : decide ((14 : Int) ≤ c) = true := decide_eq_true (by omega)
      have m3 : decide (c ≤ 31) = false := decide_eq_false (by omega)
      clear h q q'
      go_enter Tryz.func151, Tryz.ntmps151
      go_wp2
      go_ret
      exact ⟨rfl, rfl⟩

theorem urlGo_frm (l : List Int) (frm : Nat) : ∀ (f i : Nat) (out : List Int), tkZ (urlGo f l frm i out) = urlGo f l 0 i out
  | 0, i, out => rfl
  | f + 1, i, out => by
    rw [urlGo, urlGo]
    split
    · rfl
    · split
      · rfl
      · split
        · exact restGo_frm l frm _ _
        · split
          · exact restGo_frm l frm _ _
          · split
            · exact urlGo_frm l frm f _ _
            · exact urlGo_frm l frm f _ _
theorem urlGo_fuel (l : List Int) : ∀ (f g i : Nat) (out : List Int), i ≤ l.length → l.length < i + f → l.length < i + g → urlGo f l 0 i out = urlGo g l 0 i out
  | f, g, i, out, hi, hf, hg => by
    obtain ⟨f, rfl⟩ : ∃ f', f = f' + 1 := ⟨f - 1, by omega⟩
    obtain ⟨g, rfl⟩ : ∃ g', g = g' + 1 := ⟨g - 1, by omega⟩
    rw [urlGo, urlGo]
    by_cases h1 : l.length ≤ spacesF l i
    · rw [if_pos h1, if_pos h1]
    · rw [if_neg h1, if_neg h1]
      by_cases h2 : isB l (spacesF l i) 41 = true
      · rw [if_pos h2, if_pos h2]
      · rw [if_neg h2, if_neg h2]
        by_cases h3 : i < spacesF l i
        · rw [if_pos h3, if_pos h3]
        · rw [if_neg h3, if_neg h3]
          by_cases h4 : urlBad l i = true
          · rw [if_pos h4, if_pos h4]
          · rw [if_neg h4, if_neg h4]
            have hii : i < l.length := by
              rcases Nat.lt_or_ge i l.length with h | h
              · exact h
              · exact absurd (Nat.le_trans h (spacesGo_le l (l.length + 1) i).1) h1
            by_cases h5 : isB l i 92 = true
            · rw [if_pos h5, if_pos h5]
              have := valueF_bd (l := l) (j := i) hii
              exact urlGo_fuel l f g _ _ (by omega) (by omega) (by omega)
            · rw [if_neg h5, if_neg h5]
              exact urlGo_fuel l f g _ _ (by omega) (by omega) (by omega)
def urlS (l : List Int) (i : Nat) (out : List Int) : Tk := urlGo (l.length + 1) l 0 i out
section
variable {l : List Int} {i : Nat} {out : List Int}
theorem urlS_end (h : l.length ≤ spacesF l i) : urlS l i out = ⟨7, 0, l.length, bytesF out, [], false⟩ := by unfold urlS; rw [urlGo, if_pos h]
theorem urlS_close (h : spacesF l i < l.length) (h2 : isB l (spacesF l i) 41 = true) : urlS l i out = ⟨7, 0, spacesF l i + 1, bytesF out, [], false⟩ := by unfold urlS; rw [urlGo, if_neg (by omega), if_pos h2]
theorem urlS_rest (h : spacesF l i < l.length) (h2 : isB l (spacesF l i) 41 = false) (h3 : i < spacesF l i) : urlS l i out = restF l 0 (spacesF l i) := by unfold urlS; rw [urlGo, if_neg (by omega), if_neg (by rw [h2]; decide), if_pos h3]
theorem urlS_bad (h : i < l.length) (hs : spB l i = false) (h2 : isB l i 41 = false) (h4 : urlBad l i = true) : urlS l i out = restF l 0 i := by
  unfold urlS; rw [urlGo, spacesF_stop hs, if_neg (by omega), if_neg (by rw [h2]; decide), if_neg (by omega), if_pos h4]
theorem urlS_esc (h : i < l.length) (hs : spB l i = false) (h2 : isB l i 41 = false) (h4 : urlBad l i = false) (h5 : isB l i 92 = true) : urlS l i out = urlS l (valueF l i).2 (out ++ [(valueF l i).1]) := by
  unfold urlS
  rw [urlGo, spacesF_stop hs, if_neg (by omega), if_neg (by rw [h2]; decide), if_neg (by omega), if_neg (by rw [h4]; decide), if_pos h5]
  have := valueF_bd (l := l) (j := i) h
  exact urlGo_fuel l _ _ _ _ (by omega) (by omega) (by omega)
theorem urlS_char (h : i < l.length) (hs : spB l i = false) (h2 : isB l i 41 = false) (h4 : urlBad l i = false) (h5 : isB l i 92 = false) : urlS l i out = urlS l (i + 1) (out ++ [chA l i]) := by
  unfold urlS
  rw [urlGo, spacesF_stop hs, if_neg (by omega), if_neg (by rw [h2]; decide), if_neg (by omega), if_neg (by rw [h4]; decide), if_neg (by rw [h5]; decide)]
  exact urlGo_fuel l _ _ _ _ (by omega) (by omega) (by omega)
theorem spacesF_again (l : List Int) (i : Nat) : spacesF l (spacesF l i) = spacesF l i := by
  have : ∀ f i, l.length < i + f → spB l (spacesGo f l i) = false := by
    intro f
    induction f with
    | zero =>
      intro i h
      rcases hq : spB l i with _ | _
      · exact hq
      · have := lt_of_spB hq; omega
    | succ f ih =>
      intro i h
      rw [spacesGo]
      by_cases hq : spB l i = true
      · rw [if_pos hq]; exact ih (i + 1) (by omega)
      · rw [if_neg hq]; simpa using hq
  exact spacesF_stop (this _ i (by omega))
theorem urlS_skip (h : l.length ≤ spacesF l i ∨ isB l (spacesF l i) 41 = true) : urlS l i out = urlS l (spacesF l i) out := by
  by_cases h1 : l.length ≤ spacesF l i
  · rw [urlS_end h1, urlS_end (by rw [spacesF_again]; exact h1)]
  · have h2 := h.resolve_left h1
    rw [urlS_close (by omega) h2, urlS_close (by rw [spacesF_again]; omega) (by rw [spacesF_again]; exact h2), spacesF_again]
theorem urlBad_esc (h : escB l i = true) : isB l i 92 = true ∧ urlBad l i = false := by
  have h92 : isB l i 92 = true := by unfold escB at h; rw [Bool.and_eq_true] at h; exact h.1
  refine ⟨h92, ?_⟩
  have e := isB_iff.1 h92
  unfold urlBad
  rw [h]
  unfold isB
  rw [e]; decide
theorem urlBad_wrong (h : escB l i = false) (hs : spB l i = false) : urlBad l i = wrongB (chA l i) := by
  unfold urlBad
  rw [h]
  unfold isB wrongB hiddenB
  unfold spB spaceB at hs
  have hs' := of_decide_eq_false hs
  generalize chA l i = c at *
  apply Bool.eq_iff_iff.2
  simp only [Bool.or_eq_true, Bool.and_eq_true, decide_eq_true_eq, Bool.not_false, and_true]
  omega
end
end Go.Proofs.YtickcbmfboajiaaGreatDoor
