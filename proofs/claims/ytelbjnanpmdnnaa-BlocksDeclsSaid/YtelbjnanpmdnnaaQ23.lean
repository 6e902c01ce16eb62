/- Texts of mine in one: Rep Tn5 Tn6 Tn7 Tn8 Tn9. -/
import Derived.Lib.Replace
import Derived.Lib.IndexBytes
import Derived.Lib.CountLaws
import Derived.Test.YtelbjnanpmdnnaaShelf
import Derived.Test.YtelbjnanpmdnnaaQ15
import Derived.Test.YtelbjnanpmdnnaaQ13
import Derived.Test.YtelbjnanpmdnnaaQ08
namespace Go.Proofs.Ytelbjnanpmdnnaa
section
open Go.RowKit Go.Shelf
set_option linter.unusedVariables false
set_option linter.unusedSimpArgs false
def u8 (z : Int) : UInt8 := UInt8.ofNat z.toNat
end

section
open Go.RowKit Go.Shelf
set_option linter.unusedVariables false
set_option linter.unusedSimpArgs false
theorem Reads.part {w : World} {a : Option Addr} {n cap : Nat} {l : List Int} (h : Reads w .i64 a cap l) (hn : l.length = n) (i j : Nat) (hij : i < j) (hj : j ≤ n) :
    ∃ b off, a = some ⟨b, off, none⟩ ∧ Reads w .i64 (some ⟨b, off + i, none⟩) (cap - i) (sliceF l i j) ∧ (sliceF l i j).length = j - i := by
  obtain ⟨h1, h2, h3⟩ := h
  have hl : (sliceF l i j).length = j - i := by unfold sliceF; rw [List.length_take, List.length_drop, hn]; omega
  rcases h3 with h3 | ⟨b, off, rfl, hat⟩
  · rw [h3] at hn; simp at hn; omega
  · exact ⟨b, off, rfl, ⟨by rw [hl]; omega, by omega, .inr ⟨_, _, rfl, (hat.drop i).take (j - i)⟩⟩, hl⟩
end

section
open Go.RowKit Go.Shelf
set_option linter.unusedVariables false
set_option linter.unusedSimpArgs false
theorem quotedGo_fuel (l : List Int) (mark : Int) : ∀ (f g i : Nat) (out : List Int), i ≤ l.length → l.length < i + f → l.length < i + g → quotedGo f l mark 0 i out = quotedGo g l mark 0 i out
  | f, g, i, out, hi, hf, hg => by
    obtain ⟨f, rfl⟩ : ∃ f', f = f' + 1 := ⟨f - 1, by omega⟩
    obtain ⟨g, rfl⟩ : ∃ g', g = g' + 1 := ⟨g - 1, by omega⟩
    rw [quotedGo, quotedGo]
    by_cases h1 : l.length ≤ i
    · rw [if_pos h1, if_pos h1]
    · rw [if_neg h1, if_neg h1]
      by_cases h2 : isB l i mark = true
      · rw [if_pos h2, if_pos h2]
      · rw [if_neg h2, if_neg h2]
        by_cases h3 : isB l i 10 = true
        · rw [if_pos h3, if_pos h3]
        · rw [if_neg h3, if_neg h3]
          by_cases h4 : (!isB l i 92) = true
          · rw [if_pos h4, if_pos h4]; exact quotedGo_fuel l mark f g _ _ (by omega) (by omega) (by omega)
          · rw [if_neg h4, if_neg h4]
            by_cases h5 : l.length ≤ i + 1
            · rw [if_pos h5, if_pos h5]; exact quotedGo_fuel l mark f g _ _ (by omega) (by omega) (by omega)
            · rw [if_neg h5, if_neg h5]
              by_cases h6 : isB l (i + 1) 10 = true
              · rw [if_pos h6, if_pos h6]; exact quotedGo_fuel l mark f g _ _ (by omega) (by omega) (by omega)
              · rw [if_neg h6, if_neg h6]
                have := valueF_bd (l := l) (j := i) (by omega)
                exact quotedGo_fuel l mark f g _ _ (by omega) (by omega) (by omega)
def quoF (l : List Int) (mark : Int) (i : Nat) (out : List Int) : Tk := quotedGo (l.length + 1) l mark 0 i out
section
variable {l : List Int} {mark : Int} {i : Nat} {out : List Int}
theorem quoF_end (h : l.length ≤ i) : quoF l mark i out = ⟨5, 0, i, bytesF out, [], false⟩ := by unfold quoF; rw [quotedGo, if_pos h]
theorem quoF_mark (h : i < l.length) (h2 : isB l i mark = true) : quoF l mark i out = ⟨5, 0, i + 1, bytesF out, [], false⟩ := by unfold quoF; rw [quotedGo, if_neg (by omega), if_pos h2]
theorem quoF_bad (h : i < l.length) (h2 : isB l i mark = false) (h3 : isB l i 10 = true) : quoF l mark i out = ⟨6, 0, i, [], [], false⟩ := by
  unfold quoF; rw [quotedGo, if_neg (by omega), if_neg (by rw [h2]; decide), if_pos h3]
theorem quoF_char (h : i < l.length) (h2 : isB l i mark = false) (h3 : isB l i 10 = false) (h4 : isB l i 92 = false) : quoF l mark i out = quoF l mark (i + 1) (out ++ [chA l i]) := by
  unfold quoF
  rw [quotedGo, if_neg (by omega), if_neg (by rw [h2]; decide), if_neg (by rw [h3]; decide), if_pos (by rw [h4]; rfl)]
  exact quotedGo_fuel l mark _ _ _ _ (by omega) (by omega) (by omega)
theorem quoF_last (h : i < l.length) (h2 : isB l i mark = false) (h3 : isB l i 10 = false) (h4 : isB l i 92 = true) (h5 : l.length ≤ i + 1) : quoF l mark i out = quoF l mark (i + 1) out := by
  unfold quoF
  rw [quotedGo, if_neg (by omega), if_neg (by rw [h2]; decide), if_neg (by rw [h3]; decide), if_neg (by rw [h4]; decide), if_pos h5]
  exact quotedGo_fuel l mark _ _ _ _ (by omega) (by omega) (by omega)
theorem quoF_line (h : i + 1 < l.length) (h2 : isB l i mark = false) (h3 : isB l i 10 = false) (h4 : isB l i 92 = true) (h5 : isB l (i + 1) 10 = true) : quoF l mark i out = quoF l mark (i + 2) out := by
  unfold quoF
  rw [quotedGo, if_neg (by omega), if_neg (by rw [h2]; decide), if_neg (by rw [h3]; decide), if_neg (by rw [h4]; decide), if_neg (by omega), if_pos h5]
  exact quotedGo_fuel l mark _ _ _ _ (by omega) (by omega) (by omega)
theorem quoF_esc (h : i + 1 < l.length) (h2 : isB l i mark = false) (h3 : isB l i 10 = false) (h4 : isB l i 92 = true) (h5 : isB l (i + 1) 10 = false) : quoF l mark i out = quoF l mark (valueF l i).2 (out ++ [(valueF l i).1]) := by
  unfold quoF
  rw [quotedGo, if_neg (by omega), if_neg (by rw [h2]; decide), if_neg (by rw [h3]; decide), if_neg (by rw [h4]; decide), if_neg (by omega), if_neg (by rw [h5]; decide)]
  have := valueF_bd (l := l) (j := i) (by omega)
  exact quotedGo_fuel l mark _ _ _ _ (by omega) (by omega) (by omega)
end
end
end Go.Proofs.Ytelbjnanpmdnnaa
