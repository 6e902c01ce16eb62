/- Tokens: where each begins and ends (mathematics). -/
import Derived.Test.YtoepldjjoeidoaaDoorTne
namespace Go.Proofs.YtoepldjjoeidoaaDoor
open Go.RowKit
set_option linter.unusedVariables false
set_option linter.unusedSimpArgs false

/-- Where a token ends, and where it begins. -/
def Bd (l : List Int) (frm j : Nat) (t : Tk) : Prop := t.frm = frm ∧ j ≤ t.to ∧ t.to ≤ l.length
theorem Bd.mono {l : List Int} {frm j j' : Nat} {t : Tk} (h : Bd l frm j t) (hj : j' ≤ j) : Bd l frm j' t := ⟨h.1, Nat.le_trans hj h.2.1, h.2.2⟩
theorem restGo_bd (l : List Int) (frm : Nat) : ∀ (f i : Nat), i ≤ l.length → Bd l frm i (restGo f l frm i)
  | 0, i, hi => ⟨rfl, hi, Nat.le_refl _⟩
  | f + 1, i, hi => by
    rw [restGo]
    by_cases h1 : l.length ≤ i
    · rw [if_pos h1]; exact ⟨rfl, hi, Nat.le_refl _⟩
    · rw [if_neg h1]
      by_cases h2 : isB l i 41 = true
      · rw [if_pos h2]; exact ⟨rfl, Nat.le_succ _, by show i + 1 ≤ _; omega⟩
      · rw [if_neg h2]
        by_cases h3 : escB l i = true
        · rw [if_pos h3]
          have := valueF_bd (lt_of_escB h3)
          exact (restGo_bd l frm f _ this.2).mono (by omega)
        · rw [if_neg h3]; exact (restGo_bd l frm f _ (by omega)).mono (by omega)
theorem urlGo_bd (l : List Int) (frm : Nat) : ∀ (f i : Nat) (out : List Int), i ≤ l.length → Bd l frm i (urlGo f l frm i out)
  | 0, i, out, hi => ⟨rfl, hi, Nat.le_refl _⟩
  | f + 1, i, out, hi => by
    have hs := (spacesGo_le l (l.length + 1) i)
    have hs1 : i ≤ spacesF l i := hs.1
    have hs2 : spacesF l i ≤ l.length := hs.2 hi
    rw [urlGo]
    by_cases h1 : l.length ≤ spacesF l i
    · rw [if_pos h1]; exact ⟨rfl, hi, Nat.le_refl _⟩
    · rw [if_neg h1]
      by_cases h2 : isB l (spacesF l i) 41 = true
      · rw [if_pos h2]; exact ⟨rfl, by show i ≤ _ + 1; omega, by show _ + 1 ≤ _; omega⟩
      · rw [if_neg h2]
        by_cases h3 : i < spacesF l i
        · rw [if_pos h3]; exact (restGo_bd l frm _ _ hs2).mono hs1
        · rw [if_neg h3]
          by_cases h4 : urlBad l i = true
          · rw [if_pos h4]; exact restGo_bd l frm _ _ hi
          · rw [if_neg h4]
            by_cases h5 : isB l i 92 = true
            · rw [if_pos h5]
              have := valueF_bd (l := l) (j := i) (by omega)
              exact (urlGo_bd l frm f _ _ this.2).mono (by omega)
            · rw [if_neg h5]; exact (urlGo_bd l frm f _ _ (by omega)).mono (by omega)
theorem quotedGo_bd (l : List Int) (mark : Int) (frm : Nat) : ∀ (f i : Nat) (out : List Int), i ≤ l.length → Bd l frm i (quotedGo f l mark frm i out)
  | 0, i, out, hi => ⟨rfl, Nat.le_refl _, hi⟩
  | f + 1, i, out, hi => by
    rw [quotedGo]
    by_cases h1 : l.length ≤ i
    · rw [if_pos h1]; exact ⟨rfl, Nat.le_refl _, hi⟩
    · rw [if_neg h1]
      by_cases h2 : isB l i mark = true
      · rw [if_pos h2]; exact ⟨rfl, Nat.le_succ _, by show i + 1 ≤ _; omega⟩
      · rw [if_neg h2]
        by_cases h3 : isB l i 10 = true
        · rw [if_pos h3]; exact ⟨rfl, Nat.le_refl _, hi⟩
        · rw [if_neg h3]
          by_cases h4 : (!isB l i 92) = true
          · rw [if_pos h4]; exact (quotedGo_bd l mark frm f _ _ (by omega)).mono (by omega)
          · rw [if_neg h4]
            by_cases h5 : l.length ≤ i + 1
            · rw [if_pos h5]; exact (quotedGo_bd l mark frm f _ _ (by omega)).mono (by omega)
            · rw [if_neg h5]
              by_cases h6 : isB l (i + 1) 10 = true
              · rw [if_pos h6]; exact (quotedGo_bd l mark frm f _ _ (by omega)).mono (by omega)
              · rw [if_neg h6]
                have := valueF_bd (l := l) (j := i) (by omega)
                exact (quotedGo_bd l mark frm f _ _ this.2).mono (by omega)
theorem numericF_bd {l : List Int} {j : Nat} (hj : j < l.length) (h : numAt l j = true) : Bd l j (j + 1) (numericF l j) := by
  have h1 := numberF_pos h
  have h2 := (numberF_le l j).2 (by omega)
  have h3 := namesF_le l (numberF l j).1
  unfold numericF
  by_cases q : nameAt l (numberF l j).1 = true
  · rw [if_pos q]; exact ⟨rfl, by show j + 1 ≤ (namesF l _).2; omega, h3.2 h2⟩
  · rw [if_neg q]
    by_cases q2 : isB l (numberF l j).1 37 = true
    · rw [if_pos q2]
      have := lt_of_isB q2 (by decide)
      exact ⟨rfl, by show j + 1 ≤ _ + 1; omega, by show _ + 1 ≤ _; omega⟩
    · rw [if_neg q2]; exact ⟨rfl, h1, h2⟩
theorem calledF_bd {l : List Int} {j : Nat} (hj : j < l.length) (h : nameAt l j = true) : Bd l j (j + 1) (calledF l j) := by
  have h1 := namesF_pos (nameAt_first h)
  have h2 := (namesF_le l j).2 (by omega)
  unfold calledF
  by_cases q : (!isB l (namesF l j).2 40) = true
  · rw [if_pos q]; exact ⟨rfl, h1, h2⟩
  · rw [if_neg q]
    have h40 : isB l (namesF l j).2 40 = true := by revert q; cases isB l (namesF l j).2 40 <;> simp
    have h4 := lt_of_isB h40 (by decide)
    by_cases q2 : (urlName (bytesF (namesF l j).1) && !isB l (spacesF l ((namesF l j).2 + 1)) 34 && !isB l (spacesF l ((namesF l j).2 + 1)) 39) = true
    · rw [if_pos q2]
      have hs := spacesGo_le l (l.length + 1) ((namesF l j).2 + 1)
      have hs1 : (namesF l j).2 + 1 ≤ spacesF l ((namesF l j).2 + 1) := hs.1
      exact (urlGo_bd l j _ _ _ (hs.2 (by omega))).mono (by omega)
    · rw [if_neg q2]; exact ⟨rfl, by show j + 1 ≤ _ + 1; omega, by show _ + 1 ≤ _; omega⟩
/-- Each token begins where it is looked for, and has a character. -/
theorem tokAt_bd {l : List Int} {k : Nat} (hk : k < l.length) : Bd l k (k + 1) (tokAt l k) := by
  unfold tokAt
  rw [if_neg (by omega)]
  by_cases h1 : spB l k = true
  · rw [if_pos h1]; exact ⟨rfl, spacesF_pos h1, spacesF_le l k (by omega)⟩
  rw [if_neg h1]
  by_cases h2 : (isB l k 34 || isB l k 39) = true
  · rw [if_pos h2]; exact quotedGo_bd l _ k _ _ _ hk
  rw [if_neg h2]
  by_cases h3 : numAt l k = true
  · rw [if_pos h3]; exact numericF_bd hk h3
  rw [if_neg h3]
  by_cases h4 : cdcB l k = true
  · rw [if_pos h4]
    have : isB l (k + 2) 62 = true := by unfold cdcB at h4; rw [Bool.and_eq_true] at h4; exact h4.2
    have := lt_of_isB this (by decide)
    exact ⟨rfl, by show k + 1 ≤ k + 3; omega, by show k + 3 ≤ _; omega⟩
  rw [if_neg h4]
  by_cases h5 : nameAt l k = true
  · rw [if_pos h5]; exact calledF_bd hk h5
  rw [if_neg h5]
  by_cases h6 : cdoB l k = true
  · rw [if_pos h6]
    have : isB l (k + 3) 45 = true := by unfold cdoB at h6; rw [Bool.and_eq_true] at h6; exact h6.2
    have := lt_of_isB this (by decide)
    exact ⟨rfl, by show k + 1 ≤ k + 4; omega, by show k + 4 ≤ _; omega⟩
  rw [if_neg h6]
  have hn := namesF_le l (k + 1)
  by_cases h7 : atSgB l k = true
  · rw [if_pos h7]; exact ⟨rfl, hn.1, hn.2 (by omega)⟩
  rw [if_neg h7]
  by_cases h8 : hashB l k = true
  · rw [if_pos h8]; exact ⟨rfl, hn.1, hn.2 (by omega)⟩
  rw [if_neg h8]
  by_cases h9 : signKind (chA l k) = 9
  · rw [if_pos h9]; exact ⟨rfl, Nat.le_refl _, hk⟩
  · rw [if_neg h9]; exact ⟨rfl, Nat.le_refl _, hk⟩
theorem behindGo_le (l : List Int) : ∀ (f j : Nat), j ≤ l.length → j ≤ behindGo f l j ∧ behindGo f l j ≤ l.length
  | 0, j, h => ⟨Nat.le_refl _, h⟩
  | f + 1, j, h => by
    rw [behindGo]
    by_cases ho : openB l j = true
    · rw [if_pos ho]
      have h2 := openB_lt ho
      have hs := skipGo_ge l (l.length + 1) (j + 2) h2
      have := behindGo_le l f _ hs.2
      exact ⟨by omega, this.2⟩
    · rw [if_neg ho]; exact ⟨Nat.le_refl _, h⟩
theorem behindF_le {l : List Int} {j : Nat} (h : j ≤ l.length) : j ≤ behindF l j ∧ behindF l j ≤ l.length := behindGo_le l _ j h
theorem tokAt_end {l : List Int} {k : Nat} (hk : l.length ≤ k) : tokAt l k = ⟨0, l.length, l.length, [], [], false⟩ := by unfold tokAt; rw [if_pos hk]
/-- The next token: it is the end, or it has a character. -/
theorem nextF_bd {l : List Int} {j : Nat} (h : j ≤ l.length) : (nextF l j = ⟨0, l.length, l.length, [], [], false⟩ ∧ behindF l j = l.length) ∨ (behindF l j < l.length ∧ (nextF l j).frm = behindF l j ∧ j < (nextF l j).to ∧ (nextF l j).to ≤ l.length) := by
  obtain ⟨h1, h2⟩ := behindF_le h
  rcases Nat.lt_or_ge (behindF l j) l.length with hb | hb
  · have := tokAt_bd hb
    exact .inr ⟨hb, this.1, by have := this.2.1; unfold nextF; omega, this.2.2⟩
  · exact .inl ⟨tokAt_end hb, by omega⟩
theorem tk_frm {l : List Int} {j : Nat} (h : behindF l j < l.length) : { tkZ (tokAt l (behindF l j)) with frm := behindF l j } = nextF l j := by
  have := (tokAt_bd h).1
  unfold nextF tkZ
  generalize tokAt l (behindF l j) = t at *
  cases t
  simp at this
  subst this; rfl
end Go.Proofs.YtoepldjjoeidoaaDoor
