/- Texts of mine in one: Tn8 Tn9 Tna Tnb Tnc Tnd. -/
import Derived.Test.YtelbjnanpmdnnaaQ16
namespace Go.Proofs.Ytelbjnanpmdnnaa
section
open Go.RowKit Go.Shelf
set_option linter.unusedVariables false
set_option linter.unusedSimpArgs false
theorem quotedGo_fuel (l : List Int) (mark : Int) : ∀ (f g i : Nat) (out : List Int), i ≤ l.length → l.length < i + f → l.length < i + g → quotedGo f l mark 0 i out = quotedGo g l mark 0 i out
  | f, g, i, out, hi, hf, hg => by
    obtain ⟨f, rfl⟩ : ∃ f', f = f' + 1 := ⟨f - 1, by omega⟩
    obtain ⟨g, rfl⟩ : ∃ g', g = g' + 1 := ⟨g - 1, by omega⟩
    rw [quotedGo, quotedGo]
    by_cases h1 : l.length ≤ i
    · rw [if_pos h1, if_pos h1]
    · rw [if_neg h1, if_neg h1]
      by_cases h2 : isB l i mark = true
      · rw [if_pos h2, if_pos h2]
      · rw [if_neg h2, if_neg h2]
        by_cases h3 : isB l i 10 = true
        · rw [if_pos h3, if_pos h3]
        · rw [if_neg h3, if_neg h3]
          by_cases h4 : (!isB l i 92) = true
          · rw [if_pos h4, if_pos h4]; exact quotedGo_fuel l mark f g _ _ (by omega) (by omega) (by omega)
          · rw [if_neg h4, if_neg h4]
            by_cases h5 : l.length ≤ i + 1
            · rw [if_pos h5, if_pos h5]; exact quotedGo_fuel l mark f g _ _ (by omega) (by omega) (by omega)
            · rw [if_neg h5, if_neg h5]
              by_cases h6 : isB l (i + 1) 10 = true
              · rw [if_pos h6, if_pos h6]; exact quotedGo_fuel l mark f g _ _ (by omega) (by omega) (by omega)
              · rw [if_neg h6, if_neg h6]
                have := valueF_bd (l := l) (j := i) (by omega)
                exact quotedGo_fuel l mark f g _ _ (by omega) (by omega) (by omega)
def quoF (l : List Int) (mark : Int) (i : Nat) (out : List Int) : Tk := quotedGo (l.length + 1) l mark 0 i out
section
variable {l : List Int} {mark : Int} {i : Nat} {out : List Int}
theorem quoF_end (h : l.length ≤ i) : quoF l mark i out = ⟨5, 0, i, bytesF out, [], false⟩ := by unfold quoF; rw [quotedGo, if_pos h]
theorem quoF_mark (h : i < l.length) (h2 : isB l i mark = true) : quoF l mark i out = ⟨5, 0, i + 1, bytesF out, [], false⟩ := by unfold quoF; rw [quotedGo, if_neg (by omega), if_pos h2]
theorem quoF_bad (h : i < l.length) (h2 : isB l i mark = false) (h3 : isB l i 10 = true) : quoF l mark i out = ⟨6, 0, i, [], [], false⟩ := by
  unfold quoF; rw [quotedGo, if_neg (by omega), if_neg (by rw [h2]; decide), if_pos h3]
theorem quoF_char (h : i < l.length) (h2 : isB l i mark = false) (h3 : isB l i 10 = false) (h4 : isB l i 92 = false) : quoF l mark i out = quoF l mark (i + 1) (out ++ [chA l i]) := by
  unfold quoF
  rw [quotedGo, if_neg (by omega), if_neg (by rw [h2]; decide), if_neg (by rw [h3]; decide), if_pos (by rw [h4]; rfl)]
  exact quotedGo_fuel l mark _ _ _ _ (by omega) (by omega) (by omega)
theorem quoF_last (h : i < l.length) (h2 : isB l i mark = false) (h3 : isB l i 10 = false) (h4 : isB l i 92 = true) (h5 : l.length ≤ i + 1) : quoF l mark i out = quoF l mark (i + 1) out := by
  unfold quoF
  rw [quotedGo, if_neg (by omega), if_neg (by rw [h2]; decide), if_neg (by rw [h3]; decide), if_neg (by rw [h4]; decide), if_pos h5]
  exact quotedGo_fuel l mark _ _ _ _ (by omega) (by omega) (by omega)
theorem quoF_line (h : i + 1 < l.length) (h2 : isB l i mark = false) (h3 : isB l i 10 = false) (h4 : isB l i 92 = true) (h5 : isB l (i + 1) 10 = true) : quoF l mark i out = quoF l mark (i + 2) out := by
  unfold quoF
  rw [quotedGo, if_neg (by omega), if_neg (by rw [h2]; decide), if_neg (by rw [h3]; decide), if_neg (by rw [h4]; decide), if_neg (by omega), if_pos h5]
  exact quotedGo_fuel l mark _ _ _ _ (by omega) (by omega) (by omega)
theorem quoF_esc (h : i + 1 < l.length) (h2 : isB l i mark = false) (h3 : isB l i 10 = false) (h4 : isB l i 92 = true) (h5 : isB l (i + 1) 10 = false) : quoF l mark i out = quoF l mark (valueF l i).2 (out ++ [(valueF l i).1]) := by
  unfold quoF
  rw [quotedGo, if_neg (by omega), if_neg (by rw [h2]; decide), if_neg (by rw [h3]; decide), if_neg (by rw [h4]; decide), if_neg (by omega), if_neg (by rw [h5]; decide)]
  have := valueF_bd (l := l) (j := i) (by omega)
  exact quotedGo_fuel l mark _ _ _ _ (by omega) (by omega) (by omega)
end
end

section
open Go.RowKit Go.Shelf
set_option linter.unusedVariables false
set_option linter.unusedSimpArgs false
theorem urlGo_fuel (l : List Int) : ∀ (f g i : Nat) (out : List Int), i ≤ l.length → l.length < i + f → l.length < i + g → urlGo f l 0 i out = urlGo g l 0 i out
  | f, g, i, out, hi, hf, hg => by
    obtain ⟨f, rfl⟩ : ∃ f', f = f' + 1 := ⟨f - 1, by omega⟩
    obtain ⟨g, rfl⟩ : ∃ g', g = g' + 1 := ⟨g - 1, by omega⟩
    rw [urlGo, urlGo]
    by_cases h1 : l.length ≤ spacesF l i
    · rw [if_pos h1, if_pos h1]
    · rw [if_neg h1, if_neg h1]
      by_cases h2 : isB l (spacesF l i) 41 = true
      · rw [if_pos h2, if_pos h2]
      · rw [if_neg h2, if_neg h2]
        by_cases h3 : i < spacesF l i
        · rw [if_pos h3, if_pos h3]
        · rw [if_neg h3, if_neg h3]
          by_cases h4 : urlBad l i = true
          · rw [if_pos h4, if_pos h4]
          · rw [if_neg h4, if_neg h4]
            have hii : i < l.length := by
              rcases Nat.lt_or_ge i l.length with h | h
              · exact h
              · exact absurd (Nat.le_trans h (spacesGo_le l (l.length + 1) i).1) h1
            by_cases h5 : isB l i 92 = true
            · rw [if_pos h5, if_pos h5]
              have := valueF_bd (l := l) (j := i) hii
              exact urlGo_fuel l f g _ _ (by omega) (by omega) (by omega)
            · rw [if_neg h5, if_neg h5]
              exact urlGo_fuel l f g _ _ (by omega) (by omega) (by omega)
def urlS (l : List Int) (i : Nat) (out : List Int) : Tk := urlGo (l.length + 1) l 0 i out
section
variable {l : List Int} {i : Nat} {out : List Int}
theorem urlS_end (h : l.length ≤ spacesF l i) : urlS l i out = ⟨7, 0, l.length, bytesF out, [], false⟩ := by unfold urlS; rw [urlGo, if_pos h]
theorem urlS_close (h : spacesF l i < l.length) (h2 : isB l (spacesF l i) 41 = true) : urlS l i out = ⟨7, 0, spacesF l i + 1, bytesF out, [], false⟩ := by unfold urlS; rw [urlGo, if_neg (by omega), if_pos h2]
theorem urlS_rest (h : spacesF l i < l.length) (h2 : isB l (spacesF l i) 41 = false) (h3 : i < spacesF l i) : urlS l i out = restF l 0 (spacesF l i) := by unfold urlS; rw [urlGo, if_neg (by omega), if_neg (by rw [h2]; decide), if_pos h3]
theorem urlS_bad (h : i < l.length) (hs : spB l i = false) (h2 : isB l i 41 = false) (h4 : urlBad l i = true) : urlS l i out = restF l 0 i := by
  unfold urlS; rw [urlGo, spacesF_stop hs, if_neg (by omega), if_neg (by rw [h2]; decide), if_neg (by omega), if_pos h4]
theorem urlS_esc (h : i < l.length) (hs : spB l i = false) (h2 : isB l i 41 = false) (h4 : urlBad l i = false) (h5 : isB l i 92 = true) : urlS l i out = urlS l (valueF l i).2 (out ++ [(valueF l i).1]) := by
  unfold urlS
  rw [urlGo, spacesF_stop hs, if_neg (by omega), if_neg (by rw [h2]; decide), if_neg (by omega), if_neg (by rw [h4]; decide), if_pos h5]
  have := valueF_bd (l := l) (j := i) h
  exact urlGo_fuel l _ _ _ _ (by omega) (by omega) (by omega)
theorem urlS_char (h : i < l.length) (hs : spB l i = false) (h2 : isB l i 41 = false) (h4 : urlBad l i = false) (h5 : isB l i 92 = false) : urlS l i out = urlS l (i + 1) (out ++ [chA l i]) := by
  unfold urlS
  rw [urlGo, spacesF_stop hs, if_neg (by omega), if_neg (by rw [h2]; decide), if_neg (by omega), if_neg (by rw [h4]; decide), if_neg (by rw [h5]; decide)]
  exact urlGo_fuel l _ _ _ _ (by omega) (by omega) (by omega)
end
end

section
open Go.RowKit Go.Shelf
set_option linter.unusedVariables false
set_option linter.unusedSimpArgs false
def sgKinds : List Int := [21, 22, 19, 20, 23, 24, 18, 16, 17]
end

section
open Go.RowKit Go.Shelf
set_option linter.unusedVariables false
set_option linter.unusedSimpArgs false
theorem namesGo_len (l : List Int) : ∀ (f j : Nat) (out : List Int), (namesGo f l j out).1.length + j ≤ out.length + (namesGo f l j out).2
  | 0, j, out => Nat.le_refl _
  | f + 1, j, out => by
    rw [namesGo]
    by_cases h : nmB l j = true
    · rw [if_pos h]
      have := namesGo_len l f (j + 1) (out ++ [chA l j])
      rw [List.length_append] at this
      simp at this; omega
    · rw [if_neg h]
      by_cases he : escB l j = true
      · rw [if_pos he]
        have := namesGo_len l f (valueF l j).2 (out ++ [(valueF l j).1])
        have hv := (valueF_bd (lt_of_escB he)).1
        rw [List.length_append] at this
        simp at this; omega
      · rw [if_neg he]; exact Nat.le_refl _
theorem namesF_len (l : List Int) (j : Nat) : (namesF l j).1.length ≤ (namesF l j).2 := by
  have := namesGo_len l (l.length + 1) j []
  have h2 : (namesF l j).1.length + j ≤ ([] : List Int).length + (namesF l j).2 := this
  simp at h2; omega
theorem bytesF_len (zs : List Int) : (bytesF zs).length ≤ 4 * zs.length := by
  unfold bytesF
  have := textF_len (zs.map cleanF)
  rwa [List.length_map] at this
theorem strB_nums (zs : List Int) : strB (strOfNums zs) = zs.map u8 := rfl
theorem lowL_nums {zs : List Int} (h : U8 zs) : lowL (strB (strOfNums zs)) = zs.map smallF := by
  unfold lowL
  rw [strB_nums, List.map_map]
  apply List.map_congr_left
  intro z hz
  obtain ⟨h0, h1⟩ := h z hz
  show smallF ((UInt8.ofNat z.toNat).toNat : Int) = smallF z
  rw [UInt8.toNat_ofNat']
  congr 1
  omega
end
end Go.Proofs.Ytelbjnanpmdnnaa
