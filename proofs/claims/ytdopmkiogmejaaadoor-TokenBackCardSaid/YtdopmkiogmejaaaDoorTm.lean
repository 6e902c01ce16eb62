/- Tokens: bounds of the plain functions; a slice of characters. -/
import Derived.Test.YtdopmkiogmejaaaDoorTk
namespace Go.Proofs.YtdopmkiogmejaaaDoor
open Go.RowKit

/-- A slice of prepared characters. -/
structure Src (w : World) (a : Option Addr) (n cap : Nat) (l : List Int) : Prop where
  rd : Reads w .i64 a cap l
  len : l.length = n
  pre : Pre l
  small : n ≤ 100000
theorem Src.later {w w' : World} {a : Option Addr} {n cap : Nat} {l : List Int} (h : Src w a n cap l) (hb : Below w.heap.size w w') : Src w' a n cap l := ⟨h.rd.later hb, h.len, h.pre, h.small⟩
theorem Src.cell {w : World} {a : Option Addr} {n cap : Nat} {l : List Int} (h : Src w a n cap l) (k : Nat) (hk : k < n) :
    ∃ b off, a = some ⟨b, off, none⟩ ∧ w.cell? ⟨b, off + k, none⟩ = some (.int .i64 (chA l k)) := by
  obtain ⟨_, _, h3⟩ := h.rd
  rcases h3 with h3 | ⟨b, off, e, hat⟩
  · rw [← h.len, h3] at hk; simp at hk
  · exact ⟨b, off, e, hat.2 k (by rw [h.len]; exact hk)⟩
theorem Src.cap {w : World} {a : Option Addr} {n cap : Nat} {l : List Int} (h : Src w a n cap l) : n ≤ cap ∧ cap ≤ 9223372036854775807 := by
  have h1 := h.rd.1; have h2 := h.rd.2.1; unfold maxLen at h2; have h2 : cap ≤ 9223372036854775807 := h2; rw [h.len] at h1; exact ⟨h1, h2⟩

theorem hexGo_stop {l : List Int} {j : Nat} {m : Int} (f : Nat) (h : f = 0 ∨ hxB l j = false) : hexGo f l j m = (m, j) := by
  rcases f with _ | f
  · rfl
  · rw [hexGo, if_neg (by rcases h with h | h <;> simp_all)]
theorem digitsGo_stop {l : List Int} {j : Nat} (f : Nat) (h : dgB l j = false) : digitsGo f l j = j := by
  rcases f with _ | f
  · rfl
  · rw [digitsGo, if_neg (by rw [h]; decide)]
theorem spacesGo_stop {l : List Int} {j : Nat} (f : Nat) (h : spB l j = false) : spacesGo f l j = j := by
  rcases f with _ | f
  · rfl
  · rw [spacesGo, if_neg (by rw [h]; decide)]
theorem behindGo_stop {l : List Int} {j : Nat} (f : Nat) (h : openB l j = false) : behindGo f l j = j := by
  rcases f with _ | f
  · rfl
  · rw [behindGo, if_neg (by rw [h]; decide)]
theorem hexGo_le (l : List Int) : ∀ (f i : Nat) (m : Int), i ≤ (hexGo f l i m).2 ∧ (i ≤ l.length → (hexGo f l i m).2 ≤ l.length)
  | 0, i, m => ⟨Nat.le_refl _, fun h => h⟩
  | f + 1, i, m => by
    rw [hexGo]
    by_cases h : hxB l i = true
    · rw [if_pos h]
      obtain ⟨h1, h2⟩ := hexGo_le l f (i + 1) (16 * m + hexV (chA l i))
      exact ⟨by omega, fun _ => h2 (lt_of_hxB h)⟩
    · rw [if_neg h]; exact ⟨Nat.le_refl _, fun h => h⟩
theorem valueF_bd {l : List Int} {j : Nat} (h : j < l.length) : j < (valueF l j).2 ∧ (valueF l j).2 ≤ l.length := by
  unfold valueF
  by_cases h1 : l.length ≤ j + 1
  · rw [if_pos h1]; exact ⟨Nat.lt_succ_self _, by omega⟩
  · rw [if_neg h1]
    obtain ⟨g1, g2⟩ := hexGo_le l 6 (j + 1) 0
    have g2 := g2 (by omega)
    by_cases h2 : (hexGo 6 l (j + 1) 0).2 = j + 1
    · rw [if_pos h2]; exact ⟨by show j < j + 2; omega, by show j + 2 ≤ l.length; omega⟩
    · rw [if_neg h2]
      by_cases h3 : spB l (hexGo 6 l (j + 1) 0).2 = true
      · rw [if_pos h3]
        have := lt_of_spB h3
        exact ⟨by show j < _ + 1; omega, by show _ + 1 ≤ l.length; omega⟩
      · rw [if_neg h3]; exact ⟨by show j < _; omega, g2⟩

/-- A token as a value. -/
def tkCells (t : Tk) : List Value := [.int .i64 t.kind, .int .i64 t.frm, .int .i64 t.to, .string (strOfNums t.text), .string (strOfNums t.num), .bool t.whole]
def tkV (t : Tk) : Value := .agg (tkCells t).toArray

theorem digitsGo_le (l : List Int) : ∀ (f j : Nat), j ≤ digitsGo f l j ∧ (j ≤ l.length → digitsGo f l j ≤ l.length)
  | 0, j => ⟨Nat.le_refl _, fun h => h⟩
  | f + 1, j => by
    rw [digitsGo]
    by_cases h : dgB l j = true
    · rw [if_pos h]
      obtain ⟨h1, h2⟩ := digitsGo_le l f (j + 1)
      exact ⟨by omega, fun _ => h2 (lt_of_dgB h)⟩
    · rw [if_neg h]; exact ⟨Nat.le_refl _, fun h => h⟩
theorem signAt_le (l : List Int) (j : Nat) : j ≤ signAt l j ∧ (j ≤ l.length → signAt l j ≤ l.length) := by
  unfold signAt
  by_cases h : (isB l j 43 || isB l j 45) = true
  · rw [if_pos h]
    have : j < l.length := by
      rcases h' : isB l j 43 with _ | _
      · rw [h'] at h; exact lt_of_isB (c := 45) (by simpa using h) (by decide)
      · exact lt_of_isB h' (by decide)
    exact ⟨by omega, fun _ => this⟩
  · rw [if_neg h]; exact ⟨Nat.le_refl _, fun h => h⟩
theorem digitsF_le (l : List Int) (j : Nat) : j ≤ digitsF l j ∧ (j ≤ l.length → digitsF l j ≤ l.length) := digitsGo_le l _ j
theorem fracF_le (l : List Int) (j : Nat) : j ≤ fracF l j ∧ (j ≤ l.length → fracF l j ≤ l.length) := by
  unfold fracF
  by_cases h : fracAt l j = true
  · rw [if_pos h]
    have h1 : j < l.length := lt_of_isB (c := 46) (by unfold fracAt at h; rw [Bool.and_eq_true] at h; exact h.1) (by decide)
    obtain ⟨a, b⟩ := digitsF_le l (j + 1)
    exact ⟨by omega, fun _ => b h1⟩
  · rw [if_neg h]; exact ⟨Nat.le_refl _, fun h => h⟩
theorem expoF_le (l : List Int) (j : Nat) : j ≤ expoF l j ∧ (j ≤ l.length → expoF l j ≤ l.length) := by
  unfold expoF
  by_cases h : expoB l j = true
  · rw [if_pos h]
    have h0 : dgB l (signAt l (j + 1)) = true := by unfold expoB at h; rw [Bool.and_eq_true] at h; exact h.2
    have h1 := lt_of_dgB h0
    obtain ⟨a, b⟩ := digitsF_le l (signAt l (j + 1))
    obtain ⟨c, _⟩ := signAt_le l (j + 1)
    exact ⟨by omega, fun _ => b (by omega)⟩
  · rw [if_neg h]; exact ⟨Nat.le_refl _, fun h => h⟩
theorem numberF_le (l : List Int) (j : Nat) : j ≤ (numberF l j).1 ∧ (j ≤ l.length → (numberF l j).1 ≤ l.length) := by
  obtain ⟨a1, b1⟩ := signAt_le l j
  obtain ⟨a2, b2⟩ := digitsF_le l (signAt l j)
  obtain ⟨a3, b3⟩ := fracF_le l (digitsF l (signAt l j))
  obtain ⟨a4, b4⟩ := expoF_le l (fracF l (digitsF l (signAt l j)))
  exact ⟨by show j ≤ expoF _ _; omega, fun h => b4 (b3 (b2 (b1 h)))⟩

/-- A part of the characters. -/
theorem Src.part {w : World} {b off n cap : Nat} {l : List Int} (h : Src w (some ⟨b, off, none⟩) n cap l) (i j : Nat) (hij : i ≤ j) (hj : j ≤ n) :
    Reads w .i64 (some ⟨b, off + i, none⟩) (cap - i) (sliceF l i j) ∧ (sliceF l i j).length = j - i := by
  obtain ⟨h1, h2, h3⟩ := h.rd
  have hl : (sliceF l i j).length = j - i := by unfold sliceF; rw [List.length_take, List.length_drop, h.len]; omega
  refine ⟨⟨by rw [hl]; rw [h.len] at h1; omega, by omega, ?_⟩, hl⟩
  rcases h3 with h3 | ⟨b', off', e, hat⟩
  · left
    have := h.len
    rw [h3] at this
    simp at this
    exact List.length_eq_zero_iff.1 (by rw [hl]; omega)
  · cases e
    right
    exact ⟨_, _, rfl, (hat.drop i).take (j - i)⟩

theorem namesGo_le (l : List Int) : ∀ (f j : Nat) (out : List Int), j ≤ (namesGo f l j out).2 ∧ (j ≤ l.length → (namesGo f l j out).2 ≤ l.length)
  | 0, j, out => ⟨Nat.le_refl _, fun h => h⟩
  | f + 1, j, out => by
    rw [namesGo]
    by_cases h : nmB l j = true
    · rw [if_pos h]
      obtain ⟨h1, h2⟩ := namesGo_le l f (j + 1) (out ++ [chA l j])
      exact ⟨by omega, fun _ => h2 (lt_of_nmB h)⟩
    · rw [if_neg h]
      by_cases he : escB l j = true
      · rw [if_pos he]
        obtain ⟨v1, v2⟩ := valueF_bd (lt_of_escB he)
        obtain ⟨h1, h2⟩ := namesGo_le l f (valueF l j).2 (out ++ [(valueF l j).1])
        exact ⟨by omega, fun _ => h2 v2⟩
      · rw [if_neg he]; exact ⟨Nat.le_refl _, fun h => h⟩
theorem namesF_le (l : List Int) (j : Nat) : j ≤ (namesF l j).2 ∧ (j ≤ l.length → (namesF l j).2 ≤ l.length) := namesGo_le l _ j []

theorem digitsF_pos {l : List Int} {j : Nat} (h : dgB l j = true) : j < digitsF l j := by
  unfold digitsF
  rw [digitsGo, if_pos h]
  have := (digitsGo_le l l.length (j + 1)).1
  omega
theorem spacesGo_le (l : List Int) : ∀ (f j : Nat), j ≤ spacesGo f l j ∧ (j ≤ l.length → spacesGo f l j ≤ l.length)
  | 0, j => ⟨Nat.le_refl _, fun h => h⟩
  | f + 1, j => by
    rw [spacesGo]
    by_cases h : spB l j = true
    · rw [if_pos h]
      obtain ⟨h1, h2⟩ := spacesGo_le l f (j + 1)
      exact ⟨by omega, fun _ => h2 (lt_of_spB h)⟩
    · rw [if_neg h]; exact ⟨Nat.le_refl _, fun h => h⟩
theorem spacesF_pos {l : List Int} {j : Nat} (h : spB l j = true) : j < spacesF l j := by
  unfold spacesF
  rw [spacesGo, if_pos h]
  have := (spacesGo_le l l.length (j + 1)).1
  omega
theorem spacesF_le (l : List Int) (j : Nat) : j ≤ l.length → spacesF l j ≤ l.length := (spacesGo_le l _ j).2
theorem numberF_pos {l : List Int} {j : Nat} (h : numAt l j = true) : j < (numberF l j).1 := by
  have a1 := (signAt_le l j).1
  have a4 := (expoF_le l (fracF l (digitsF l (signAt l j)))).1
  show j < expoF l (fracF l (digitsF l (signAt l j)))
  have a3 := (fracF_le l (digitsF l (signAt l j))).1
  have a2 := (digitsF_le l (signAt l j)).1
  rcases hd : dgB l (signAt l j) with _ | _
  · have hf : fracAt l (signAt l j) = true := by unfold numAt at h; rw [hd] at h; simpa using h
    have e : digitsF l (signAt l j) = signAt l j := by unfold digitsF; exact digitsGo_stop _ hd
    have hp : signAt l j < fracF l (signAt l j) := by
      unfold fracF
      rw [if_pos hf]
      have := (digitsF_le l (signAt l j + 1)).1
      omega
    rw [e] at a4 ⊢
    omega
  · have := digitsF_pos hd
    omega
theorem stB_nmB {l : List Int} {j : Nat} (h : stB l j = true) : nmB l j = true := by
  unfold stB at h; unfold nmB nameB; rw [h]; rfl
theorem namesF_pos {l : List Int} {j : Nat} (h : (nmB l j || escB l j) = true) : j < (namesF l j).2 := by
  unfold namesF
  rw [namesGo]
  by_cases hn : nmB l j = true
  · rw [if_pos hn]
    have := (namesGo_le l l.length (j + 1) ([] ++ [chA l j])).1
    omega
  · have he : escB l j = true := by simpa [hn] using h
    rw [if_neg hn, if_pos he]
    have h1 := (valueF_bd (lt_of_escB he)).1
    have := (namesGo_le l l.length (valueF l j).2 ([] ++ [(valueF l j).1])).1
    omega
theorem nameAt_first {l : List Int} {j : Nat} (h : nameAt l j = true) : (nmB l j || escB l j) = true := by
  unfold nameAt at h
  by_cases h45 : isB l j 45 = true
  · have : nmB l j = true := by unfold nmB nameB; rw [isB_iff.1 h45]; decide
    rw [this]; rfl
  · rw [if_neg h45] at h
    rcases hs : stB l j with _ | _
    · rw [hs] at h; rw [show escB l j = true from by simpa using h]; simp
    · rw [stB_nmB hs]; rfl

end Go.Proofs.YtdopmkiogmejaaaDoor
