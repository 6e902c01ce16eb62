/- Texts of mine in one: Tks Tne Tnf Tng Bb0. -/
import Derived.Test.YtelbjnanpmdnnaaQ14
import Derived.Test.YtelbjnanpmdnnaaQ17
import Derived.Test.YtelbjnanpmdnnaaQ15
import Derived.Test.YtelbjnanpmdnnaaQ02
namespace Go.Proofs.Ytelbjnanpmdnnaa
section
open Go.RowKit
def ReadsT (w : World) (a : Option Addr) (cap : Nat) (ts : List Tk) : Prop :=
  ts.length ≤ cap ∧ cap ≤ maxLen ∧ ∃ b, a = some ⟨b, 0, none⟩ ∧ b < w.heap.size ∧ ∀ j v, (ts.flatMap tkCells)[j]? = some v → w.cell? ⟨b, j, none⟩ = some v
theorem ReadsT.later {w w' : World} {a : Option Addr} {cap : Nat} {ts : List Tk} (h : ReadsT w a cap ts) (hb : Below w.heap.size w w') : ReadsT w' a cap ts := by
  obtain ⟨h1, h2, b, rfl, hlt, hc⟩ := h
  exact ⟨h1, h2, b, rfl, Nat.lt_of_lt_of_le hlt hb.size, fun j v hv => (hb.cell (p := ⟨b, j, none⟩) hlt).trans (hc j v hv)⟩
def TksPost (ts : List Tk) (w : World) (e : Ending) (w' : World) : Prop := ∃ a cap, e = .returned (.slice a ts.length cap) ∧ ReadsT w' a cap ts ∧ Below w.heap.size w w'
theorem Try.infoTok : (Try.prog.info? 52).map (fun i => (i.zero, i.size, i.bytes)) = some (some (.agg #[.int .i64 0, .int .i64 0, .int .i64 0, .string ⟨#[]⟩, .string ⟨#[]⟩, .bool false]), 6, 64) := by kernel_rfl
theorem tk_cells (t : Tk) : ∀ u ∈ tkCells t, u.oneCell' = true := by
  intro u hu
  unfold tkCells at hu
  simp only [List.mem_cons, List.not_mem_nil, or_false] at hu
  rcases hu with rfl | rfl | rfl | rfl | rfl | rfl <;> rfl
end

section
open Go.RowKit
set_option linter.unusedVariables false
set_option linter.unusedSimpArgs false
def Bd (l : List Int) (frm j : Nat) (t : Tk) : Prop := t.frm = frm ∧ j ≤ t.to ∧ t.to ≤ l.length
theorem Bd.mono {l : List Int} {frm j j' : Nat} {t : Tk} (h : Bd l frm j t) (hj : j' ≤ j) : Bd l frm j' t := ⟨h.1, Nat.le_trans hj h.2.1, h.2.2⟩
theorem restGo_bd (l : List Int) (frm : Nat) : ∀ (f i : Nat), i ≤ l.length → Bd l frm i (restGo f l frm i)
  | 0, i, hi => ⟨rfl, hi, Nat.le_refl _⟩
  | f + 1, i, hi => by
    rw [restGo]
    by_cases h1 : l.length ≤ i
    · rw [if_pos h1]; exact ⟨rfl, hi, Nat.le_refl _⟩
    · rw [if_neg h1]
      by_cases h2 : isB l i 41 = true
      · rw [if_pos h2]; exact ⟨rfl, Nat.le_succ _, by show i + 1 ≤ _; omega⟩
      · rw [if_neg h2]
        by_cases h3 : escB l i = true
        · rw [if_pos h3]
          have := valueF_bd (lt_of_escB h3)
          exact (restGo_bd l frm f _ this.2).mono (by omega)
        · rw [if_neg h3]; exact (restGo_bd l frm f _ (by omega)).mono (by omega)
theorem urlGo_bd (l : List Int) (frm : Nat) : ∀ (f i : Nat) (out : List Int), i ≤ l.length → Bd l frm i (urlGo f l frm i out)
  | 0, i, out, hi => ⟨rfl, hi, Nat.le_refl _⟩
  | f + 1, i, out, hi => by
    have hs := (spacesGo_le l (l.length + 1) i)
    have hs1 : i ≤ spacesF l i := hs.1
    have hs2 : spacesF l i ≤ l.length := hs.2 hi
    rw [urlGo]
    by_cases h1 : l.length ≤ spacesF l i
    · rw [if_pos h1]; exact ⟨rfl, hi, Nat.le_refl _⟩
    · rw [if_neg h1]
      by_cases h2 : isB l (spacesF l i) 41 = true
      · rw [if_pos h2]; exact ⟨rfl, by show i ≤ _ + 1; omega, by show _ + 1 ≤ _; omega⟩
      · rw [if_neg h2]
        by_cases h3 : i < spacesF l i
        · rw [if_pos h3]; exact (restGo_bd l frm _ _ hs2).mono hs1
        · rw [if_neg h3]
          by_cases h4 : urlBad l i = true
          · rw [if_pos h4]; exact restGo_bd l frm _ _ hi
          · rw [if_neg h4]
            by_cases h5 : isB l i 92 = true
            · rw [if_pos h5]
              have := valueF_bd (l := l) (j := i) (by omega)
              exact (urlGo_bd l frm f _ _ this.2).mono (by omega)
            · rw [if_neg h5]; exact (urlGo_bd l frm f _ _ (by omega)).mono (by omega)
theorem quotedGo_bd (l : List Int) (mark : Int) (frm : Nat) : ∀ (f i : Nat) (out : List Int), i ≤ l.length → Bd l frm i (quotedGo f l mark frm i out)
  | 0, i, out, hi => ⟨rfl, Nat.le_refl _, hi⟩
  | f + 1, i, out, hi => by
    rw [quotedGo]
    by_cases h1 : l.length ≤ i
    · rw [if_pos h1]; exact ⟨rfl, Nat.le_refl _, hi⟩
    · rw [if_neg h1]
      by_cases h2 : isB l i mark = true
      · rw [if_pos h2]; exact ⟨rfl, Nat.le_succ _, by show i + 1 ≤ _; omega⟩
      · rw [if_neg h2]
        by_cases h3 : isB l i 10 = true
        · rw [if_pos h3]; exact ⟨rfl, Nat.le_refl _, hi⟩
        · rw [if_neg h3]
          by_cases h4 : (!isB l i 92) = true
          · rw [if_pos h4]; exact (quotedGo_bd l mark frm f _ _ (by omega)).mono (by omega)
          · rw [if_neg h4]
            by_cases h5 : l.length ≤ i + 1
            · rw [if_pos h5]; exact (quotedGo_bd l mark frm f _ _ (by omega)).mono (by omega)
            · rw [if_neg h5]
              by_cases h6 : isB l (i + 1) 10 = true
              · rw [if_pos h6]; exact (quotedGo_bd l mark frm f _ _ (by omega)).mono (by omega)
              · rw [if_neg h6]
                have := valueF_bd (l := l) (j := i) (by omega)
                exact (quotedGo_bd l mark frm f _ _ this.2).mono (by omega)
theorem numericF_bd {l : List Int} {j : Nat} (hj : j < l.length) (h : numAt l j = true) : Bd l j (j + 1) (numericF l j) := by
  have h1 := numberF_pos h
  have h2 := (numberF_le l j).2 (by omega)
  have h3 := namesF_le l (numberF l j).1
  unfold numericF
  by_cases q : nameAt l (numberF l j).1 = true
  · rw [if_pos q]; exact ⟨rfl, by show j + 1 ≤ (namesF l _).2; omega, h3.2 h2⟩
  · rw [if_neg q]
    by_cases q2 : isB l (numberF l j).1 37 = true
    · rw [if_pos q2]
      have := lt_of_isB q2 (by decide)
      exact ⟨rfl, by show j + 1 ≤ _ + 1; omega, by show _ + 1 ≤ _; omega⟩
    · rw [if_neg q2]; exact ⟨rfl, h1, h2⟩
theorem calledF_bd {l : List Int} {j : Nat} (hj : j < l.length) (h : nameAt l j = true) : Bd l j (j + 1) (calledF l j) := by
  have h1 := namesF_pos (nameAt_first h)
  have h2 := (namesF_le l j).2 (by omega)
  unfold calledF
  by_cases q : (!isB l (namesF l j).2 40) = true
  · rw [if_pos q]; exact ⟨rfl, h1, h2⟩
  · rw [if_neg q]
    have h40 : isB l (namesF l j).2 40 = true := by revert q; cases isB l (namesF l j).2 40 <;> simp
    have h4 := lt_of_isB h40 (by decide)
    by_cases q2 : (urlName (bytesF (namesF l j).1) && !isB l (spacesF l ((namesF l j).2 + 1)) 34 && !isB l (spacesF l ((namesF l j).2 + 1)) 39) = true
    · rw [if_pos q2]
      have hs := spacesGo_le l (l.length + 1) ((namesF l j).2 + 1)
      have hs1 : (namesF l j).2 + 1 ≤ spacesF l ((namesF l j).2 + 1) := hs.1
      exact (urlGo_bd l j _ _ _ (hs.2 (by omega))).mono (by omega)
    · rw [if_neg q2]; exact ⟨rfl, by show j + 1 ≤ _ + 1; omega, by show _ + 1 ≤ _; omega⟩
theorem tokAt_bd {l : List Int} {k : Nat} (hk : k < l.length) : Bd l k (k + 1) (tokAt l k) := by
  unfold tokAt
  rw [if_neg (by omega)]
  by_cases h1 : spB l k = true
  · rw [if_pos h1]; exact ⟨rfl, spacesF_pos h1, spacesF_le l k (by omega)⟩
  rw [if_neg h1]
  by_cases h2 : (isB l k 34 || isB l k 39) = true
  · rw [if_pos h2]; exact quotedGo_bd l _ k _ _ _ hk
  rw [if_neg h2]
  by_cases h3 : numAt l k = true
  · rw [if_pos h3]; exact numericF_bd hk h3
  rw [if_neg h3]
  by_cases h4 : cdcB l k = true
  · rw [if_pos h4]
    have : isB l (k + 2) 62 = true := by unfold cdcB at h4; rw [Bool.and_eq_true] at h4; exact h4.2
    have := lt_of_isB this (by decide)
    exact ⟨rfl, by show k + 1 ≤ k + 3; omega, by show k + 3 ≤ _; omega⟩
  rw [if_neg h4]
  by_cases h5 : nameAt l k = true
  · rw [if_pos h5]; exact calledF_bd hk h5
  rw [if_neg h5]
  by_cases h6 : cdoB l k = true
  · rw [if_pos h6]
    have : isB l (k + 3) 45 = true := by unfold cdoB at h6; rw [Bool.and_eq_true] at h6; exact h6.2
    have := lt_of_isB this (by decide)
    exact ⟨rfl, by show k + 1 ≤ k + 4; omega, by show k + 4 ≤ _; omega⟩
  rw [if_neg h6]
  have hn := namesF_le l (k + 1)
  by_cases h7 : atSgB l k = true
  · rw [if_pos h7]; exact ⟨rfl, hn.1, hn.2 (by omega)⟩
  rw [if_neg h7]
  by_cases h8 : hashB l k = true
  · rw [if_pos h8]; exact ⟨rfl, hn.1, hn.2 (by omega)⟩
  rw [if_neg h8]
  by_cases h9 : signKind (chA l k) = 9
  · rw [if_pos h9]; exact ⟨rfl, Nat.le_refl _, hk⟩
  · rw [if_neg h9]; exact ⟨rfl, Nat.le_refl _, hk⟩
theorem behindGo_le (l : List Int) : ∀ (f j : Nat), j ≤ l.length → j ≤ behindGo f l j ∧ behindGo f l j ≤ l.length
  | 0, j, h => ⟨Nat.le_refl _, h⟩
  | f + 1, j, h => by
    rw [behindGo]
    by_cases ho : openB l j = true
    · rw [if_pos ho]
      have h2 := openB_lt ho
      have hs := skipGo_ge l (l.length + 1) (j + 2) h2
      have := behindGo_le l f _ hs.2
      exact ⟨by omega, this.2⟩
    · rw [if_neg ho]; exact ⟨Nat.le_refl _, h⟩
theorem behindF_le {l : List Int} {j : Nat} (h : j ≤ l.length) : j ≤ behindF l j ∧ behindF l j ≤ l.length := behindGo_le l _ j h
theorem tokAt_end {l : List Int} {k : Nat} (hk : l.length ≤ k) : tokAt l k = ⟨0, l.length, l.length, [], [], false⟩ := by unfold tokAt; rw [if_pos hk]
theorem nextF_bd {l : List Int} {j : Nat} (h : j ≤ l.length) : (nextF l j = ⟨0, l.length, l.length, [], [], false⟩ ∧ behindF l j = l.length) ∨ (behindF l j < l.length ∧ (nextF l j).frm = behindF l j ∧ j < (nextF l j).to ∧ (nextF l j).to ≤ l.length) := by
  obtain ⟨h1, h2⟩ := behindF_le h
  rcases Nat.lt_or_ge (behindF l j) l.length with hb | hb
  · have := tokAt_bd hb
    exact .inr ⟨hb, this.1, by have := this.2.1; unfold nextF; omega, this.2.2⟩
  · exact .inl ⟨tokAt_end hb, by omega⟩
end

section
open Go.RowKit Go.Shelf
set_option linter.unusedVariables false
set_option linter.unusedSimpArgs false
theorem prep_pre (zs : List Int) : Pre (prepF zs) := by
  have key : ∀ k, ∀ z ∈ prepTo zs k, 1 ≤ z ∧ z < 1114112 := by
    intro k
    induction k with
    | zero => intro z hz; simp [prepTo] at hz
    | succ k ih =>
      intro z hz
      rw [prepTo] at hz
      rcases List.mem_append.1 hz with h | h
      · exact ih z h
      · rcases prep_cases zs k with ⟨_, _, _, HP⟩ | ⟨_, _, HP⟩ | ⟨_, _, _, HP⟩ | ⟨_, HP⟩ | ⟨_, HP⟩ | ⟨e1, e2, e3, HP⟩
        all_goals rw [HP] at h; simp at h
        all_goals try (subst h; omega)
        subst h
        have h1 := right_bd (charOf_right (zs[k]?.getD 0))
        have h2 : charOf (zs[k]?.getD 0) ≠ 0 := by
          unfold charOf
          split
          · exact e3
          · decide
        omega
  exact key _
theorem chars_len (zs : List Int) : (charsF zs).length ≤ zs.length := by
  have key : ∀ f k, (charsN f zs k).length ≤ f := by
    intro f
    induction f with
    | zero => intro k; simp [charsN]
    | succ f ih =>
      intro k
      rw [charsN]
      split
      · simp
      · rw [List.length_append]
        have := ih (k + sizeF (zs.drop k))
        have h1 : (if charF (zs.drop k) ≠ 65279 ∨ k ≠ 0 then [charF (zs.drop k)] else []).length ≤ 1 := by split <;> simp
        omega
  have := key (zs.length - 0) 0
  exact this
theorem chars_i64 (zs : List Int) (hz : U8 zs) : I64 (charsF zs) := by
  have key : ∀ f k, I64 (charsN f zs k) := by
    intro f
    induction f with
    | zero => intro k z hz; simp [charsN] at hz
    | succ f ih =>
      intro k z h
      rw [charsN] at h
      split at h
      · simp at h
      · rcases List.mem_append.1 h with h | h
        · split at h
          · simp at h
            have := readF_char (zs.drop k) (hz.drop k)
            subst h
            unfold charF
            split
            · omega
            · decide
          · simp at h
        · exact ih _ z h
  exact key _ _
end

section
open Go.RowKit
set_option linter.unusedVariables false
set_option linter.unusedSimpArgs false
structure TkRow (w : World) (b n : Nat) (ts : List Tk) : Prop where
  len : ts.length = n
  lt : b < w.heap.size
  kd : ∀ j, j < n → w.cell? ⟨b, j * 6, none⟩ = some (.int .i64 (kdA ts j))
  tx : ∀ j, j < n → w.cell? ⟨b, j * 6 + 3, none⟩ = some (.string (txA ts j))
  ex : ∀ j, j < n → ∃ (u1 u2 : Int) (u4 : ByteArray) (u5 : Bool), w.cell? ⟨b, j * 6 + 1, none⟩ = some (.int .i64 u1) ∧ w.cell? ⟨b, j * 6 + 2, none⟩ = some (.int .i64 u2) ∧ w.cell? ⟨b, j * 6 + 4, none⟩ = some (.string u4) ∧ w.cell? ⟨b, j * 6 + 5, none⟩ = some (.bool u5)
theorem TkRow.of {w w' : World} {b n : Nat} {ts : List Tk} (h : TkRow w b n ts) (hl : b < w'.heap.size) (hc : ∀ o, w'.cell? ⟨b, o, none⟩ = w.cell? ⟨b, o, none⟩) : TkRow w' b n ts :=
  ⟨h.len, hl, fun j hj => (hc _).trans (h.kd j hj), fun j hj => (hc _).trans (h.tx j hj), fun j hj => by
    obtain ⟨u1, u2, u4, u5, h1, h2, h4, h5⟩ := h.ex j hj
    exact ⟨u1, u2, u4, u5, (hc _).trans h1, (hc _).trans h2, (hc _).trans h4, (hc _).trans h5⟩⟩
theorem TkRow.later {w w' : World} {b n B : Nat} {ts : List Tk} (h : TkRow w b n ts) (hb : Below B w w') (hB : b < B) : TkRow w' b n ts :=
  h.of (Nat.lt_of_lt_of_le h.lt hb.size) (fun o => hb.cell (p := ⟨b, o, none⟩) hB)
theorem flatMap_cell : ∀ (ts : List Tk) (k : Nat) (t : Tk), ts[k]? = some t → ∀ (j : Nat), j < 6 → (ts.flatMap tkCells)[k * 6 + j]? = (tkCells t)[j]?
  | [], k, t, h, _, _ => by simp at h
  | s :: ts, 0, t, h, j, hj => by
    obtain rfl : s = t := by simpa using h
    rw [List.flatMap_cons, List.getElem?_append_left (by show _ < 6; omega), show 0 * 6 + j = j by omega]
  | s :: ts, k + 1, t, h, j, hj => by
    have hl : (tkCells s).length = 6 := rfl
    rw [List.flatMap_cons, List.getElem?_append_right (by rw [hl]; omega), hl, show (k + 1) * 6 + j - 6 = k * 6 + j from by omega]
    exact flatMap_cell ts k t (by simpa using h) j hj
theorem ReadsT.row {w : World} {a : Option Addr} {cap : Nat} {ts : List Tk} (h : ReadsT w a cap ts) : ∃ b, a = some ⟨b, 0, none⟩ ∧ TkRow w b ts.length ts := by
  obtain ⟨_, _, b, rfl, hb, hc⟩ := h
  refine ⟨b, rfl, rfl, hb, fun j hj => ?_, fun j hj => ?_, fun j hj => ?_⟩
  · have h1 : ts[j]? = some (ts[j]'hj) := List.getElem?_eq_getElem hj
    exact hc _ _ ((flatMap_cell ts j _ h1 0 (by omega)).trans (by rw [kdA_at hj]; rfl))
  · have h1 : ts[j]? = some (ts[j]'hj) := List.getElem?_eq_getElem hj
    exact hc _ _ ((flatMap_cell ts j _ h1 3 (by omega)).trans (by rw [txA_at hj]; rfl))
  · have h1 : ts[j]? = some (ts[j]'hj) := List.getElem?_eq_getElem hj
    exact ⟨_, _, _, _, hc _ _ ((flatMap_cell ts j _ h1 1 (by omega)).trans rfl), hc _ _ ((flatMap_cell ts j _ h1 2 (by omega)).trans rfl), hc _ _ ((flatMap_cell ts j _ h1 4 (by omega)).trans rfl), hc _ _ ((flatMap_cell ts j _ h1 5 (by omega)).trans rfl)⟩
theorem Try.infoRule : (Try.prog.info? 32).map (fun i => (i.zero, i.size, i.bytes)) = some (some (.agg #[.bool false, .string ⟨#[]⟩, .int .i64 0, .int .i64 0, .bool false, .int .i64 0, .int .i64 0]), 7, 64) := by kernel_rfl
theorem Try.infoDecl : (Try.prog.info? 41).map (fun i => (i.zero, i.size, i.bytes)) = some (some (.agg #[.string ⟨#[]⟩, .int .i64 0, .int .i64 0, .bool false]), 4, 40) := by kernel_rfl
end
end Go.Proofs.Ytelbjnanpmdnnaa
