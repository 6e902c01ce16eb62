/- Texts of mine in one: Anb1 Aq1 Ax1 Jn0 Jn1. -/
import Derived.Test.YtelbjnanpmdnnaaQ18
import Derived.Test.YtelbjnanpmdnnaaQ13
import Derived.Test.YtelbjnanpmdnnaaQ34
import Derived.Test.YtelbjnanpmdnnaaQ12
namespace Go.Proofs.Ytelbjnanpmdnnaa
section
open Go.RowKit
def noTk : Tk := ⟨-1, 0, 0, [], [], false⟩
def tkAt (ts : List Tk) (k : Nat) : Tk := ts[k]?.getD noTk
theorem flat_cell : ∀ (ts : List Tk) (k : Nat) (_ : k < ts.length) (j : Nat) (v : Value), (tkCells (tkAt ts k))[j]? = some v → (ts.flatMap tkCells)[k * 6 + j]? = some v
  | [], k, h, _, _, _ => by simp at h
  | t :: ts, 0, _, j, v, hv => by
    have hj : j < (tkCells t).length := (List.getElem?_eq_some_iff.1 hv).1
    rw [List.flatMap_cons, List.getElem?_append_left (by simpa using hj)]
    have h0 : 0 * 6 + j = j := by omega
    rw [h0]
    exact hv
  | t :: ts, k + 1, h, j, v, hv => by
    have hl : (tkCells t).length = 6 := rfl
    rw [List.flatMap_cons, List.getElem?_append_right (by rw [hl]; omega), hl, show (k + 1) * 6 + j - 6 = k * 6 + j from by omega]
    exact flat_cell ts k (by simpa using h) j v hv
theorem ReadsT.at {w : World} {a : Option Addr} {cap : Nat} {ts : List Tk} (h : ReadsT w a cap ts) : ∃ b, a = some ⟨b, 0, none⟩ ∧ ∀ (k : Nat), k < ts.length → ∀ (j : Nat) (v : Value), (tkCells (tkAt ts k))[j]? = some v → w.cell? ⟨b, k * 6 + j, none⟩ = some v := by
  obtain ⟨_, _, b, rfl, _, hc⟩ := h
  exact ⟨b, rfl, fun k hk j v hv => hc _ _ (flat_cell ts k hk j v hv)⟩
end

section
open Go.RowKit
set_option linter.unusedVariables false
set_option linter.unusedSimpArgs false
theorem mem_all (l : List Int) : ∀ (f j : Nat) (acc : List Tk), ∀ t ∈ allGo f l j acc, t ∈ acc ∨ ∃ k, t = tokAt l k
  | 0, j, acc, t, h => .inl h
  | f + 1, j, acc, t, h => by
    rw [allGo] at h
    split at h
    · rcases List.mem_append.1 h with h | h
      · exact .inl h
      · exact .inr ⟨_, List.mem_singleton.1 h⟩
    · rcases mem_all l f _ _ t h with h | h
      · rcases List.mem_append.1 h with h | h
        · exact .inl h
        · exact .inr ⟨_, List.mem_singleton.1 h⟩
      · exact .inr h
theorem mem_toks (zs : List Int) : ∀ t ∈ toksF zs, ∃ k, t = tokAt (prepF (charsF zs)) k := fun t h => by
  rcases mem_all _ _ _ _ t h with h | h
  · exact absurd h (by simp)
  · exact h
def LenT (M : Nat) (t : Tk) : Prop := t.text.length ≤ M ∧ t.num.length ≤ M
theorem namesGo_len2 (l : List Int) : ∀ (f j : Nat) (out : List Int), (namesGo f l j out).1.length ≤ out.length + f
  | 0, j, out => by rw [namesGo]; show out.length ≤ _; omega
  | f + 1, j, out => by
    rw [namesGo]
    split
    · have := namesGo_len2 l f (j + 1) (out ++ [chA l j]); rw [List.length_append] at this; simp at this; omega
    · split
      · have := namesGo_len2 l f (valueF l j).2 (out ++ [(valueF l j).1]); rw [List.length_append] at this; simp at this; omega
      · show out.length ≤ _; omega
theorem namesB_len (l : List Int) (j : Nat) : (bytesF (namesF l j).1).length ≤ 4 * (l.length + 1) := by
  have h1 := bytesF_len (namesF l j).1
  have h2 := namesGo_len2 l (l.length + 1) j []
  have h3 : (namesF l j).1.length ≤ ([] : List Int).length + (l.length + 1) := h2
  have h4 : ([] : List Int).length = 0 := rfl
  omega
theorem bytes_le {xs : List Int} {m : Nat} (h : xs.length ≤ m) : (bytesF xs).length ≤ 4 * m := by have := bytesF_len xs; omega
theorem quotedGo_len (l : List Int) (mark : Int) (frm : Nat) : ∀ (f i : Nat) (out : List Int), LenT (4 * (out.length + f)) (quotedGo f l mark frm i out)
  | 0, i, out => by rw [quotedGo]; exact ⟨bytes_le (by omega), Nat.zero_le _⟩
  | f + 1, i, out => by
    rw [quotedGo]
    have hb : (bytesF out).length ≤ 4 * (out.length + (f + 1)) := bytes_le (by omega)
    have e : ∀ x : Int, 4 * ((out ++ [x]).length + f) ≤ 4 * (out.length + (f + 1)) := fun x => by rw [List.length_append]; simp; omega
    have up : ∀ x i, LenT (4 * (out.length + (f + 1))) (quotedGo f l mark frm i (out ++ [x])) := fun x i => ⟨Nat.le_trans (quotedGo_len l mark frm f i (out ++ [x])).1 (e x), Nat.le_trans (quotedGo_len l mark frm f i (out ++ [x])).2 (e x)⟩
    have up0 : ∀ i, LenT (4 * (out.length + (f + 1))) (quotedGo f l mark frm i out) := fun i => ⟨Nat.le_trans (quotedGo_len l mark frm f i out).1 (by omega), Nat.le_trans (quotedGo_len l mark frm f i out).2 (by omega)⟩
    repeat' split
    all_goals first | exact ⟨hb, Nat.zero_le _⟩ | exact ⟨Nat.zero_le _, Nat.zero_le _⟩ | exact up _ _ | exact up0 _
theorem restGo_text (l : List Int) (frm : Nat) : ∀ (f i : Nat), (restGo f l frm i).text = [] ∧ (restGo f l frm i).num = [] ∧ (restGo f l frm i).kind = 8
  | 0, i => by rw [restGo]; exact ⟨rfl, rfl, rfl⟩
  | f + 1, i => by
    rw [restGo]
    repeat' split
    all_goals first | exact ⟨rfl, rfl, rfl⟩ | exact restGo_text l frm f _
theorem urlGo_len (l : List Int) (frm : Nat) : ∀ (f i : Nat) (out : List Int), LenT (4 * (out.length + f)) (urlGo f l frm i out)
  | 0, i, out => by rw [urlGo]; exact ⟨bytes_le (by omega), Nat.zero_le _⟩
  | f + 1, i, out => by
    rw [urlGo]
    have hb : (bytesF out).length ≤ 4 * (out.length + (f + 1)) := bytes_le (by omega)
    have e : ∀ x : Int, 4 * ((out ++ [x]).length + f) ≤ 4 * (out.length + (f + 1)) := fun x => by rw [List.length_append]; simp; omega
    have up : ∀ x i, LenT (4 * (out.length + (f + 1))) (urlGo f l frm i (out ++ [x])) := fun x i => ⟨Nat.le_trans (urlGo_len l frm f i (out ++ [x])).1 (e x), Nat.le_trans (urlGo_len l frm f i (out ++ [x])).2 (e x)⟩
    have hr : ∀ i, LenT (4 * (out.length + (f + 1))) (restF l frm i) := fun i => by
      have := restGo_text l frm (l.length + 1) i
      exact ⟨by unfold restF; rw [this.1]; exact Nat.zero_le _, by unfold restF; rw [this.2.1]; exact Nat.zero_le _⟩
    repeat' split
    all_goals first | exact ⟨hb, Nat.zero_le _⟩ | exact up _ _ | exact hr _
theorem tokAt_len (l : List Int) (k : Nat) : LenT (4 * (l.length + 1)) (tokAt l k) := by
  have z : ∀ n : Nat, ([] : List Int).length ≤ n := fun n => Nat.zero_le n
  have hn := namesB_len l
  have hs : ∀ i j, (bytesF (sliceF l i j)).length ≤ 4 * (l.length + 1) := fun i j => bytes_le (by unfold sliceF; rw [List.length_take, List.length_drop]; omega)
  have hq : LenT (4 * (l.length + 1)) (quotedF l k) := by
    have := quotedGo_len l (chA l k) k (l.length + 1) (k + 1) []
    have e : ([] : List Int).length + (l.length + 1) = l.length + 1 := by simp
    rw [e] at this; exact this
  have hu : ∀ f i, LenT (4 * (l.length + 1)) (urlF l f i) := fun f i => by
    have := urlGo_len l f (l.length + 1) i []
    have e : ([] : List Int).length + (l.length + 1) = l.length + 1 := by simp
    rw [e] at this; exact this
  have hone : ∀ c : Int, (bytesF [c]).length ≤ 4 * (l.length + 1) := fun c => bytes_le (by simp)
  have hnum : LenT (4 * (l.length + 1)) (numericF l k) := by
    unfold numericF
    repeat' split
    all_goals first | exact ⟨hn _, hs _ _⟩ | exact ⟨z _, hs _ _⟩
  have hcal : LenT (4 * (l.length + 1)) (calledF l k) := by
    unfold calledF
    repeat' split
    all_goals first | exact ⟨hn _, z _⟩ | exact hu _ _
  unfold tokAt
  repeat' split
  all_goals first | exact ⟨z _, z _⟩ | exact hq | exact hnum | exact hcal | exact ⟨hn _, z _⟩ | exact ⟨hone _, z _⟩
theorem asc_bytes {xs : List Int} (h : ∀ c ∈ xs, 32 ≤ c ∧ c < 127) : bytesF xs = xs := by
  unfold bytesF
  have e : xs.map cleanF = xs := by
    conv => rhs; rw [← List.map_id xs]
    apply List.map_congr_left
    intro c hc
    obtain ⟨h1, h2⟩ := h c hc
    unfold cleanF charOf rightB
    rw [if_neg (by omega), decide_eq_true (by omega), if_pos rfl]; rfl
  rw [e]
  unfold textF
  induction xs with
  | nil => rfl
  | cons c xs ih =>
    rw [List.flatMap_cons, ih (fun z hz => h z (List.mem_cons_of_mem _ hz)) (by simp at e; simpa using e.2)]
    obtain ⟨h1, h2⟩ := h c (List.mem_cons_self ..)
    have e1 : charOf c = c := by unfold charOf rightB; rw [decide_eq_true (by omega), if_pos rfl]
    rw [e1]
    unfold putF
    rw [if_pos (by omega)]; rfl
theorem slice_one (l : List Int) {i : Nat} (h : i < l.length) : sliceF l i (i + 1) = [chA l i] := by
  unfold sliceF chA
  rw [show i + 1 - i = 1 from by omega, List.getElem?_eq_getElem h, List.drop_eq_getElem_cons h]; rfl
theorem toks_short (zs : List Int) (h : zs.length ≤ 100000) (k : Nat) : (strOfNums (tkAt (toksF zs) k).text).size ≤ 900000 ∧ (strOfNums (tkAt (toksF zs) k).num).size ≤ 900000 := by
  rw [strOfNums_size, strOfNums_size]
  unfold tkAt
  rcases hk : (toksF zs)[k]? with _ | t
  · exact ⟨Nat.zero_le _, Nat.zero_le _⟩
  · obtain ⟨j, e⟩ := mem_toks zs t (List.mem_of_getElem? hk)
    have h1 := tokAt_len (prepF (charsF zs)) j
    have h2 : (prepF (charsF zs)).length ≤ (charsF zs).length := prepTo_len _ _
    have h3 := chars_len zs
    show t.text.length ≤ 900000 ∧ t.num.length ≤ 900000
    rw [e]
    exact ⟨Nat.le_trans h1.1 (by omega), Nat.le_trans h1.2 (by omega)⟩
end

section
open Go.RowKit
set_option linter.unusedVariables false
set_option linter.unusedSimpArgs false
def PlC (c : Int) : Prop := 1 ≤ c ∧ c < 127 ∧ c ≠ 12 ∧ c ≠ 13
theorem plc_right {c : Int} (h : PlC c) : rightB c = true := by unfold PlC at h; unfold rightB; exact decide_eq_true (by omega)
theorem plc_char {c : Int} (h : PlC c) : charOf c = c := by unfold charOf; rw [plc_right h, if_pos rfl]
theorem plc_text {zs : List Int} (h : ∀ c ∈ zs, PlC c) : textF zs = zs := by
  induction zs with
  | nil => rfl
  | cons c zs ih =>
    have hc := h c (List.mem_cons_self ..)
    unfold textF at *
    rw [List.flatMap_cons, ih (fun y hy => h y (List.mem_cons_of_mem _ hy)), plc_char hc]
    unfold putF
    unfold PlC at hc
    rw [if_pos (by omega)]; rfl
theorem plc_map {zs : List Int} (h : ∀ c ∈ zs, PlC c) : zs.map charOf = zs := by
  induction zs with
  | nil => rfl
  | cons c zs ih => rw [List.map_cons, ih (fun y hy => h y (List.mem_cons_of_mem _ hy)), plc_char (h c (List.mem_cons_self ..))]
theorem plc_chars {zs : List Int} (h : ∀ c ∈ zs, PlC c) : charsF zs = zs := by
  have := chars_text zs
  rw [plc_text h, plc_map h] at this
  rw [this]
  unfold dropMark
  cases zs with
  | nil => rfl
  | cons c zs =>
    have hc := h c (List.mem_cons_self ..)
    unfold PlC at hc
    simp
    omega
theorem plc_prep (ys : List Int) (h : ∀ z ∈ ys, PlC z) : prepF ys = ys := by
  have key : ∀ k, k ≤ ys.length → prepTo ys k = ys.take k := by
    intro k
    induction k with
    | zero => intro _; simp [prepTo]
    | succ k ih =>
      intro hk
      have hm : ys[k] ∈ ys := List.getElem_mem hk
      have hp := h _ hm
      have hr := plc_right hp
      unfold PlC at hp
      have e : ys[k]?.getD 0 = ys[k] := by rw [List.getElem?_eq_getElem hk]; rfl
      rw [prepTo, ih (by omega), List.take_succ_eq_append_getElem hk]
      congr 1
      rcases prep_cases ys k with ⟨e1, _, _, _⟩ | ⟨e1, _, _⟩ | ⟨e1, _, _, _⟩ | ⟨e1, _⟩ | ⟨e1, _⟩ | ⟨_, _, _, HP⟩
      all_goals first | (rw [e] at e1; omega) | (rw [HP, e]; unfold charOf; rw [if_pos hr])
  unfold prepF
  rw [key _ (Nat.le_refl _), List.take_length]
theorem plc_toks {zs : List Int} (h : ∀ c ∈ zs, PlC c) : toksF zs = allF zs := by
  unfold toksF
  rw [plc_chars h, plc_prep zs h]
def hdX (X : List Int) : Int := X.headD 0
theorem chA_hdX {l X : List Int} {j : Nat} (h : l.drop j = X) : chA l j = hdX X := by
  cases X with
  | nil =>
    have : l.length - j = 0 := by rw [← List.length_drop, h]; rfl
    exact chA_end l j (by omega)
  | cons c X =>
    unfold chA
    have : (l.drop j)[0]? = some c := by rw [h]; rfl
    rw [List.getElem?_drop] at this
    rw [show j = j + 0 from rfl, this]; rfl
theorem drop_moreX {l A X : List Int} {j : Nat} (h : l.drop j = A ++ X) : l.drop (j + A.length) = X := by rw [← List.drop_drop, h, List.drop_left]
theorem lt_dropX {l X : List Int} {j : Nat} (h : l.drop j = X) (h0 : X ≠ []) : j < l.length := by
  rcases Nat.lt_or_ge j l.length with h1 | h1
  · exact h1
  · rw [List.drop_eq_nil_of_le h1] at h; exact absurd h.symm h0
def DgX (D : List Int) : Prop := ∀ c ∈ D, 48 ≤ c ∧ c ≤ 57
theorem digits_runX {l : List Int} : ∀ (D : List Int) (j : Nat) (X : List Int), l.drop j = D ++ X → DgX D → digitB (hdX X) = false → digitsF l j = j + D.length
  | [], j, X, h, _, hx => digitsF_stop (by unfold dgB; rw [chA_hdX h]; exact hx)
  | c :: D, j, X, h, hd', hx => by
    have hc := hd' c (List.mem_cons_self ..)
    have h' : l.drop j = c :: (D ++ X) := h
    have hdg : dgB l j = true := by unfold dgB; rw [chA_hdX h']; show digitB c = true; unfold digitB; exact decide_eq_true hc
    rw [digitsF_step hdg, digits_runX D (j + 1) X (by rw [← List.drop_drop, h']; rfl) (fun x hx => hd' x (List.mem_cons_of_mem _ hx)) hx]
    simp; omega
theorem hdX_app {D X : List Int} (h : D ≠ []) : hdX (D ++ X) = hdX D := by cases D with | nil => exact absurd rfl h | cons c D => rfl
theorem dgX_hd {D : List Int} (h : DgX D) (h0 : D ≠ []) : 48 ≤ hdX D ∧ hdX D ≤ 57 := by cases D with | nil => exact absurd rfl h0 | cons c D => exact h c (List.mem_cons_self ..)
def SgX (S : List Int) : Prop := S = [] ∨ S = [43] ∨ S = [45]
theorem signAt_runX {l S X : List Int} {j : Nat} (h : l.drop j = S ++ X) (hS : SgX S) (hx : 48 ≤ hdX X ∧ hdX X ≤ 57) : signAt l j = j + S.length := by
  have hc := chA_hdX h
  unfold signAt isB
  rcases hS with rfl | rfl | rfl
  · rw [hc, show hdX ([] ++ X) = hdX X from rfl, decide_eq_false (by omega), decide_eq_false (by omega)]; rfl
  · rw [hc]; rfl
  · rw [hc]; rfl
theorem number_runX {l S D X : List Int} {j : Nat} (h : l.drop j = S ++ (D ++ X)) (hS : SgX S) (hD : DgX D) (hD0 : D ≠ []) (hX : digitB (hdX X) = false ∧ hdX X ≠ 46 ∧ hdX X ≠ 101 ∧ hdX X ≠ 69) :
    numAt l j = true ∧ numberF l j = (j + (S.length + D.length), true) := by
  have hdd := dgX_hd hD hD0
  have g1 := signAt_runX h hS (by rw [hdX_app hD0]; exact hdd)
  have h1 := drop_moreX h
  have g2 := digits_runX D _ X h1 hD hX.1
  have h2 := drop_moreX h1
  have hc := chA_hdX h2
  have hdg : dgB l (j + S.length) = true := by unfold dgB; rw [chA_hdX h1, hdX_app hD0]; unfold digitB; exact decide_eq_true hdd
  refine ⟨by unfold numAt; rw [g1, hdg]; rfl, ?_⟩
  unfold numberF
  rw [g1, g2]
  have f1 : fracAt l (j + S.length + D.length) = false := by unfold fracAt isB; rw [hc, decide_eq_false hX.2.1]; rfl
  have e1 : fracF l (j + S.length + D.length) = j + S.length + D.length := by unfold fracF; rw [f1, if_neg (by decide)]
  have f2 : expoB l (j + S.length + D.length) = false := by unfold expoB isB; rw [hc, decide_eq_false hX.2.2.1, decide_eq_false hX.2.2.2]; rfl
  rw [e1, f1, f2]
  unfold expoF
  rw [f2, if_neg (by decide), Nat.add_assoc]; rfl
theorem slice_runX {l A X : List Int} {j : Nat} (h : l.drop j = A ++ X) : sliceF l j (j + A.length) = A := by
  unfold sliceF
  rw [h, Nat.add_sub_cancel_left, List.take_left]
theorem namesGo_runX {l : List Int} : ∀ (U : List Int) (f m : Nat) (X out : List Int), l.drop m = U ++ X → (∀ u ∈ U, nameB u = true) → nameB (hdX X) = false → hdX X ≠ 92 → U.length < f → namesGo f l m out = (out ++ U, m + U.length)
  | [], f, m, X, out, h, _, hx, h92, hf => by
    obtain ⟨f, rfl⟩ : ∃ g, f = g + 1 := ⟨f - 1, by simp at hf; omega⟩
    have hc := chA_hdX h
    rw [namesGo, if_neg (by unfold nmB; rw [hc]; rw [show hdX ([] ++ X) = hdX X from rfl, hx]; decide), if_neg (by unfold escB isB; rw [hc, show hdX ([] ++ X) = hdX X from rfl, decide_eq_false h92]; simp)]
    simp
  | u :: U, f, m, X, out, h, hU, hx, h92, hf => by
    obtain ⟨f, rfl⟩ : ∃ g, f = g + 1 := ⟨f - 1, by omega⟩
    have h' : l.drop m = u :: (U ++ X) := h
    have hc : chA l m = u := chA_hdX h'
    rw [namesGo, if_pos (by unfold nmB; rw [hc]; exact hU u (List.mem_cons_self ..)), namesGo_runX U f (m + 1) X (out ++ [chA l m]) (by rw [← List.drop_drop, h']; rfl) (fun x hx => hU x (List.mem_cons_of_mem _ hx)) hx h92 (by simp at hf; omega), hc]
    simp; omega
theorem names_runX {l U X : List Int} {m : Nat} (h : l.drop m = U ++ X) (hU : ∀ u ∈ U, nameB u = true) (hx : nameB (hdX X) = false) (h92 : hdX X ≠ 92) : namesF l m = (U, m + U.length) := by
  unfold namesF
  have hl : U.length ≤ l.length := by
    have : (l.drop m).length = (U ++ X).length := by rw [h]
    rw [List.length_drop, List.length_append] at this
    omega
  rw [namesGo_runX U _ m X [] h hU hx h92 (by omega)]; simp
theorem spacesGo_runX {l : List Int} : ∀ (P : List Int) (f m : Nat) (X : List Int), l.drop m = P ++ X → (∀ u ∈ P, spaceB u = true) → spaceB (hdX X) = false → P.length < f → spacesGo f l m = m + P.length
  | [], f, m, X, h, _, hx, hf => by
    have hc := chA_hdX h
    rw [spacesGo_stop _ (by unfold spB; rw [hc]; exact hx)]; rfl
  | u :: P, f, m, X, h, hP, hx, hf => by
    obtain ⟨f, rfl⟩ : ∃ g, f = g + 1 := ⟨f - 1, by omega⟩
    have h' : l.drop m = u :: (P ++ X) := h
    have hc : chA l m = u := chA_hdX h'
    rw [spacesGo, if_pos (by unfold spB; rw [hc]; exact hP u (List.mem_cons_self ..)), spacesGo_runX P f (m + 1) X (by rw [← List.drop_drop, h']; rfl) (fun x hx => hP x (List.mem_cons_of_mem _ hx)) hx (by simp at hf; omega)]
    simp; omega
theorem spaces_runX {l P X : List Int} {m : Nat} (h : l.drop m = P ++ X) (hP : ∀ u ∈ P, spaceB u = true) (hx : spaceB (hdX X) = false) : spacesF l m = m + P.length := by
  unfold spacesF
  have hl : P.length ≤ l.length := by
    have : (l.drop m).length = (P ++ X).length := by rw [h]
    rw [List.length_drop, List.length_append] at this
    omega
  exact spacesGo_runX P _ m X h hP hx (by omega)
theorem tok_sp {l P X : List Int} {j : Nat} (h : l.drop j = P ++ X) (hP : ∀ u ∈ P, spaceB u = true) (hP0 : P ≠ []) (hx : spaceB (hdX X) = false) : tokAt l j = ⟨13, j, j + P.length, [], [], false⟩ := by
  have hlt := lt_dropX h (by simp [hP0])
  have hs : spB l j = true := by
    unfold spB; rw [chA_hdX h, hdX_app hP0]
    cases P with
    | nil => exact absurd rfl hP0
    | cons c P => exact hP c (List.mem_cons_self ..)
  unfold tokAt
  rw [if_neg (by omega), if_pos hs, spaces_runX h hP hx]
def RunX (l : List Int) : List Tk → Nat → Prop
  | [], j => j = l.length
  | t :: ts, j => j < l.length ∧ chA l j ≠ 47 ∧ tokAt l j = t ∧ t.kind ≠ 0 ∧ RunX l ts t.to
theorem behind_not {l : List Int} {j : Nat} (h : chA l j ≠ 47) : behindF l j = j := behindF_stop (by unfold openB; rw [show isB l j 47 = false from decide_eq_false h]; rfl)
theorem run_all (l : List Int) : ∀ (ts : List Tk) (f j : Nat) (acc : List Tk), RunX l ts j → ts.length < f → allGo f l j acc = acc ++ ts ++ [⟨0, l.length, l.length, [], [], false⟩]
  | [], f, j, acc, h, hf => by
    obtain ⟨f, rfl⟩ : ∃ g, f = g + 1 := ⟨f - 1, by simp at hf; omega⟩
    have hj : j = l.length := h
    subst hj
    have hn : nextF l l.length = ⟨0, l.length, l.length, [], [], false⟩ := by
      unfold nextF
      rw [behind_not (by rw [chA_end l _ (Nat.le_refl _)]; decide)]
      exact tokAt_end (Nat.le_refl _)
    rw [allGo, hn, if_pos rfl]; simp
  | t :: ts, f, j, acc, h, hf => by
    obtain ⟨f, rfl⟩ : ∃ g, f = g + 1 := ⟨f - 1, by omega⟩
    obtain ⟨h1, h2, h3, h4, h5⟩ := h
    have hn : nextF l j = t := by unfold nextF; rw [behind_not h2]; exact h3
    rw [allGo, hn, if_neg h4, run_all l ts f t.to (acc ++ [t]) h5 (by simp at hf; omega)]
    simp
theorem toks_run {zs : List Int} {ts : List Tk} (hp : ∀ c ∈ zs, PlC c) (h : RunX zs ts 0) (hl : ts.length ≤ zs.length) : toksF zs = ts ++ [⟨0, zs.length, zs.length, [], [], false⟩] := by
  rw [plc_toks hp]
  unfold allF
  rw [run_all zs ts _ 0 [] h (by omega)]; simp
end

section
open Go.RowKit
set_option linter.unusedVariables false
set_option linter.unusedSimpArgs false
def LtC (c : Int) : Prop := (65 ≤ c ∧ c ≤ 90) ∨ (97 ≤ c ∧ c ≤ 122)
theorem ltc_start {c : Int} (h : LtC c) : startB c = true := by unfold LtC at h; unfold startB smallF; exact decide_eq_true (by split <;> omega)
theorem at_letter {l : List Int} {j : Nat} {c : Int} (h0 : chA l j = c) (hc : LtC c) : spB l j = false ∧ isB l j 34 = false ∧ isB l j 39 = false ∧ numAt l j = false ∧ cdcB l j = false ∧ nameAt l j = true := by
  have nb : ∀ d, (d < 65 ∨ (90 < d ∧ d < 97) ∨ 122 < d) → isB l j d = false := fun d hd => by unfold isB; rw [h0]; unfold LtC at hc; exact decide_eq_false (by omega)
  refine ⟨?_, nb 34 (by omega), nb 39 (by omega), ?_, ?_, ?_⟩
  · unfold spB spaceB; rw [h0]; unfold LtC at hc; exact decide_eq_false (by omega)
  · have e : signAt l j = j := by unfold signAt; rw [nb 43 (by omega), nb 45 (by omega)]; rfl
    unfold numAt fracAt
    rw [e, nb 46 (by omega), show dgB l j = false from by unfold dgB digitB; rw [h0]; unfold LtC at hc; exact decide_eq_false (by omega)]; rfl
  · unfold cdcB; rw [nb 45 (by omega)]; rfl
  · unfold nameAt; rw [nb 45 (by omega), if_neg (by decide), show stB l j = true from by unfold stB; rw [h0]; exact ltc_start hc]; rfl
theorem tok_word {l V X : List Int} {j : Nat} {c : Int} (h : l.drop j = c :: V ++ X) (hc : LtC c) (hU : ∀ u ∈ c :: V, nameB u = true ∧ 32 ≤ u ∧ u < 127) (hx : nameB (hdX X) = false) (h92 : hdX X ≠ 92) (h40 : hdX X ≠ 40) :
    tokAt l j = ⟨1, j, j + (V.length + 1), c :: V, [], false⟩ := by
  have hlt := lt_dropX h (by simp)
  have hn := names_runX h (fun u hu => (hU u hu).1) hx h92
  have hce := chA_hdX (drop_moreX h)
  obtain ⟨a1, a2, a3, a4, a5, a6⟩ := at_letter (chA_hdX h) hc
  unfold tokAt
  rw [if_neg (by omega), a1, a2, a3, a4, a5, a6]
  simp only [Bool.or_self, Bool.false_eq_true, if_false, if_true]
  unfold calledF
  rw [hn, show isB l (j + (c :: V).length) 40 = false from by unfold isB; rw [hce]; exact decide_eq_false h40]
  rw [asc_bytes (fun c hc => (hU c hc).2)]
  simp
theorem tok_func {l V X : List Int} {j : Nat} {c : Int} (h : l.drop j = c :: V ++ 40 :: X) (hc : LtC c) (hU : ∀ u ∈ c :: V, nameB u = true ∧ 32 ≤ u ∧ u < 127) (hurl : urlName (c :: V) = false) :
    tokAt l j = ⟨2, j, j + (V.length + 2), c :: V, [], false⟩ := by
  have hlt := lt_dropX h (by simp)
  have hn := names_runX h (fun u hu => (hU u hu).1) (show nameB 40 = false by decide) (show (40 : Int) ≠ 92 by decide)
  have hce := chA_hdX (drop_moreX h)
  obtain ⟨a1, a2, a3, a4, a5, a6⟩ := at_letter (chA_hdX h) hc
  unfold tokAt
  rw [if_neg (by omega), a1, a2, a3, a4, a5, a6]
  simp only [Bool.or_self, Bool.false_eq_true, if_false, if_true]
  unfold calledF
  rw [hn, show isB l (j + (c :: V).length) 40 = true from by unfold isB; rw [hce]; rfl]
  dsimp only
  rw [asc_bytes (fun c hc => (hU c hc).2), hurl]
  simp; omega
theorem at_other {l : List Int} {j : Nat} {c : Int} (h0 : chA l j = c) (hc : c = 33 ∨ c = 40 ∨ c = 41 ∨ c = 44 ∨ c = 58 ∨ c = 59 ∨ c = 61 ∨ c = 62 ∨ c = 64 ∨ c = 91 ∨ c = 93 ∨ c = 123 ∨ c = 125) :
    spB l j = false ∧ isB l j 34 = false ∧ isB l j 39 = false ∧ numAt l j = false ∧ cdcB l j = false ∧ nameAt l j = false ∧ cdoB l j = false ∧ hashB l j = false := by
  have nb : ∀ d, d ≠ c → isB l j d = false := fun d hd => by unfold isB; rw [h0]; exact decide_eq_false (fun e => hd e.symm)
  refine ⟨?_, nb 34 (by omega), nb 39 (by omega), ?_, ?_, ?_, ?_, ?_⟩
  · unfold spB spaceB; rw [h0]; exact decide_eq_false (by omega)
  · have e : signAt l j = j := by unfold signAt; rw [nb 43 (by omega), nb 45 (by omega)]; rfl
    unfold numAt fracAt
    rw [e, nb 46 (by omega), show dgB l j = false from by unfold dgB digitB; rw [h0]; exact decide_eq_false (by omega)]; rfl
  · unfold cdcB; rw [nb 45 (by omega)]; rfl
  · unfold nameAt escB; rw [nb 45 (by omega), if_neg (by decide), nb 92 (by omega), show stB l j = false from by unfold stB startB smallF; rw [h0]; exact decide_eq_false (by split <;> omega)]; rfl
  · unfold cdoB; rw [nb 60 (by omega)]; rfl
  · unfold hashB; rw [nb 35 (by omega)]; rfl
theorem tok_one {l X : List Int} {j : Nat} {c k : Int} (h : l.drop j = c :: X) (hc : c = 40 ∨ c = 41 ∨ c = 44 ∨ c = 58 ∨ c = 59 ∨ c = 91 ∨ c = 93 ∨ c = 123 ∨ c = 125) (hk : signKind c = k) : tokAt l j = ⟨k, j, j + 1, [], [], false⟩ := by
  have hlt := lt_dropX h (by simp)
  have h0 : chA l j = c := chA_hdX h
  obtain ⟨a1, a2, a3, a4, a5, a6, a7, a8⟩ := at_other h0 (by omega)
  have hat : atSgB l j = false := by unfold atSgB isB; rw [h0, decide_eq_false (by omega)]; rfl
  have hk9 : signKind c ≠ 9 := by rcases hc with rfl | rfl | rfl | rfl | rfl | rfl | rfl | rfl | rfl <;> decide
  unfold tokAt
  rw [if_neg (by omega), a1, a2, a3, a4, a5, a6, a7, hat, a8, h0]
  simp only [Bool.or_self, Bool.false_eq_true, if_false]
  rw [if_neg hk9, hk]
theorem tok_delim {l X : List Int} {j : Nat} {c : Int} (h : l.drop j = c :: X) (hc : c = 33 ∨ c = 61 ∨ c = 62) : tokAt l j = ⟨9, j, j + 1, [c], [], false⟩ := by
  have hlt := lt_dropX h (by simp)
  have h0 : chA l j = c := chA_hdX h
  obtain ⟨a1, a2, a3, a4, a5, a6, a7, a8⟩ := at_other h0 (by omega)
  have hat : atSgB l j = false := by unfold atSgB isB; rw [h0, decide_eq_false (by omega)]; rfl
  have hk9 : signKind c = 9 := by rcases hc with rfl | rfl | rfl <;> decide
  unfold tokAt
  rw [if_neg (by omega), a1, a2, a3, a4, a5, a6, a7, hat, a8, h0]
  simp only [Bool.or_self, Bool.false_eq_true, if_false]
  rw [if_pos hk9, show bytesF [c] = [c] from asc_bytes (fun d hd => by rw [List.mem_singleton.1 hd]; omega)]
theorem tok_atw {l V X : List Int} {j : Nat} {c : Int} (h : l.drop j = 64 :: (c :: V ++ X)) (hc : LtC c) (hU : ∀ u ∈ c :: V, nameB u = true ∧ 32 ≤ u ∧ u < 127) (hx : nameB (hdX X) = false) (h92 : hdX X ≠ 92) :
    tokAt l j = ⟨3, j, j + (V.length + 2), c :: V, [], false⟩ := by
  have hlt := lt_dropX h (by simp)
  have h0 : chA l j = 64 := chA_hdX h
  have h' : l.drop (j + 1) = c :: V ++ X := by rw [← List.drop_drop, h]; rfl
  have hn := names_runX h' (fun u hu => (hU u hu).1) hx h92
  obtain ⟨a1, a2, a3, a4, a5, a6, a7, a8⟩ := at_other h0 (by omega)
  obtain ⟨_, _, _, _, _, b6⟩ := at_letter (chA_hdX h') hc
  have hat : atSgB l j = true := by unfold atSgB isB; rw [h0, b6]; rfl
  unfold tokAt
  rw [if_neg (by omega), a1, a2, a3, a4, a5, a6, a7, hat]
  simp only [Bool.or_self, Bool.false_eq_true, if_false, if_true]
  rw [hn, asc_bytes (fun c hc => (hU c hc).2)]
  simp; omega
theorem tok_digs {l D X : List Int} {j : Nat} (h : l.drop j = D ++ X) (hD : DgX D) (hD0 : D ≠ []) (hX : hdX X = 59 ∨ hdX X = 32 ∨ hdX X = 125 ∨ hdX X = 41 ∨ hdX X = 0) : tokAt l j = ⟨10, j, j + D.length, [], D, true⟩ := by
  have h' : l.drop j = [] ++ (D ++ X) := h
  obtain ⟨n1, n2⟩ := number_runX h' (.inl rfl) hD hD0 ⟨by unfold digitB; exact decide_eq_false (by omega), by omega, by omega, by omega⟩
  have hlt := lt_dropX h (by simp [hD0])
  have hdd := dgX_hd hD hD0
  have hc := chA_hdX h
  rw [hdX_app hD0] at hc
  have hce := chA_hdX (drop_moreX h)
  unfold tokAt
  rw [if_neg (by omega), if_neg (show ¬ (spB l j = true) from by unfold spB spaceB; rw [decide_eq_false (by omega)]; decide), if_neg (show ¬ ((isB l j 34 || isB l j 39) = true) from by unfold isB; rw [decide_eq_false (by omega), decide_eq_false (by omega)]; decide), if_pos n1]
  unfold numericF
  rw [n2]
  dsimp only
  rw [show ([] : List Int).length + D.length = D.length by simp]
  generalize hm : j + D.length = m at *
  have b1 : isB l m 45 = false := by unfold isB; rw [hce]; exact decide_eq_false (by omega)
  have b2 : stB l m = false := by unfold stB startB smallF; rw [hce]; exact decide_eq_false (by split <;> omega)
  have b3 : isB l m 92 = false := by unfold isB; rw [hce]; exact decide_eq_false (by omega)
  have e1 : nameAt l m = false := by unfold nameAt escB; rw [b1, b2, b3]; rfl
  have e2 : isB l m 37 = false := by unfold isB; rw [hce]; exact decide_eq_false (by omega)
  rw [e1, if_neg (by decide), e2, if_neg (by decide), ← hm]
  rw [slice_runX h, asc_bytes (fun c hc => by have := hD c hc; omega)]
end

section
open Go.RowKit
set_option linter.unusedVariables false
set_option linter.unusedSimpArgs false
theorem run_step {l Y : List Int} {ts : List Tk} {j m : Nat} {c : Int} {t : Tk} (h : l.drop j = c :: Y) (hc : c ≠ 47) (ht : tokAt l j = t) (hk : t.kind ≠ 0) (hm : t.to = m) (hr : RunX l ts m) : RunX l (t :: ts) j :=
  ⟨lt_dropX h (by simp), by rw [chA_hdX h]; exact hc, ht, hk, by rw [hm]; exact hr⟩
def rp0T (j : Nat) : List Tk := [⟨1, j + 0, j + 1, [97], [], false⟩, ⟨23, j + 1, j + 2, [], [], false⟩, ⟨24, j + 2, j + 3, [], [], false⟩]
theorem rp0_run {l X : List Int} {ts : List Tk} {j : Nat} (h : l.drop j = [97, 123, 125] ++ X) (hr : RunX l ts (j + 3)) : RunX l (rp0T j ++ ts) j := by
  have hk : ∀ i, l.drop (j + i) = ([97, 123, 125] ++ X).drop i := fun i => by rw [← List.drop_drop, h]
  have s2 := run_step (l := l) (Y := X) (m := j + 3) (hk 2) (by decide) (tok_one (X := X) (j := j + 2) (c := 125) (k := 24) (hk 2) (by omega) (by decide)) (show (24 : Int) ≠ 0 by decide) (by first | rfl | (simp; omega)) hr
  have s1 := run_step (l := l) (Y := 125 :: X) (m := j + 2) (hk 1) (by decide) (tok_one (X := 125 :: X) (j := j + 1) (c := 123) (k := 23) (hk 1) (by omega) (by decide)) (show (23 : Int) ≠ 0 by decide) (by first | rfl | (simp; omega)) s2
  have s0 := run_step (l := l) (Y := 123 :: 125 :: X) (m := j + 1) (hk 0) (by decide) (tok_word (V := []) (X := 123 :: 125 :: X) (c := 97) (j := j + 0) (hk 0) (by unfold LtC; omega) (by decide) (show nameB 123 = false by decide) (show (123 : Int) ≠ 92 by decide) (show (123 : Int) ≠ 40 by decide)) (show (1 : Int) ≠ 0 by decide) (by first | rfl | (simp; omega)) s1
  exact s0
def rp1T (j : Nat) : List Tk := [⟨1, j + 0, j + 1, [98], [], false⟩, ⟨23, j + 1, j + 2, [], [], false⟩, ⟨1, j + 2, j + 3, [120], [], false⟩, ⟨16, j + 3, j + 4, [], [], false⟩, ⟨10, j + 4, j + 5, [], [49], true⟩, ⟨17, j + 5, j + 6, [], [], false⟩, ⟨1, j + 6, j + 7, [121], [], false⟩, ⟨16, j + 7, j + 8, [], [], false⟩, ⟨23, j + 8, j + 9, [], [], false⟩, ⟨1, j + 9, j + 10, [122], [], false⟩, ⟨24, j + 10, j + 11, [], [], false⟩, ⟨24, j + 11, j + 12, [], [], false⟩]
theorem rp1_run {l X : List Int} {ts : List Tk} {j : Nat} (h : l.drop j = [98, 123, 120, 58, 49, 59, 121, 58, 123, 122, 125, 125] ++ X) (hr : RunX l ts (j + 12)) : RunX l (rp1T j ++ ts) j := by
  have hk : ∀ i, l.drop (j + i) = ([98, 123, 120, 58, 49, 59, 121, 58, 123, 122, 125, 125] ++ X).drop i := fun i => by rw [← List.drop_drop, h]
  have s11 := run_step (l := l) (Y := X) (m := j + 12) (hk 11) (by decide) (tok_one (X := X) (j := j + 11) (c := 125) (k := 24) (hk 11) (by omega) (by decide)) (show (24 : Int) ≠ 0 by decide) (by first | rfl | (simp; omega)) hr
  have s10 := run_step (l := l) (Y := 125 :: X) (m := j + 11) (hk 10) (by decide) (tok_one (X := 125 :: X) (j := j + 10) (c := 125) (k := 24) (hk 10) (by omega) (by decide)) (show (24 : Int) ≠ 0 by decide) (by first | rfl | (simp; omega)) s11
  have s9 := run_step (l := l) (Y := 125 :: 125 :: X) (m := j + 10) (hk 9) (by decide) (tok_word (V := []) (X := 125 :: 125 :: X) (c := 122) (j := j + 9) (hk 9) (by unfold LtC; omega) (by decide) (show nameB 125 = false by decide) (show (125 : Int) ≠ 92 by decide) (show (125 : Int) ≠ 40 by decide)) (show (1 : Int) ≠ 0 by decide) (by first | rfl | (simp; omega)) s10
  have s8 := run_step (l := l) (Y := 122 :: 125 :: 125 :: X) (m := j + 9) (hk 8) (by decide) (tok_one (X := 122 :: 125 :: 125 :: X) (j := j + 8) (c := 123) (k := 23) (hk 8) (by omega) (by decide)) (show (23 : Int) ≠ 0 by decide) (by first | rfl | (simp; omega)) s9
  have s7 := run_step (l := l) (Y := 123 :: 122 :: 125 :: 125 :: X) (m := j + 8) (hk 7) (by decide) (tok_one (X := 123 :: 122 :: 125 :: 125 :: X) (j := j + 7) (c := 58) (k := 16) (hk 7) (by omega) (by decide)) (show (16 : Int) ≠ 0 by decide) (by first | rfl | (simp; omega)) s8
  have s6 := run_step (l := l) (Y := 58 :: 123 :: 122 :: 125 :: 125 :: X) (m := j + 7) (hk 6) (by decide) (tok_word (V := []) (X := 58 :: 123 :: 122 :: 125 :: 125 :: X) (c := 121) (j := j + 6) (hk 6) (by unfold LtC; omega) (by decide) (show nameB 58 = false by decide) (show (58 : Int) ≠ 92 by decide) (show (58 : Int) ≠ 40 by decide)) (show (1 : Int) ≠ 0 by decide) (by first | rfl | (simp; omega)) s7
  have s5 := run_step (l := l) (Y := 121 :: 58 :: 123 :: 122 :: 125 :: 125 :: X) (m := j + 6) (hk 5) (by decide) (tok_one (X := 121 :: 58 :: 123 :: 122 :: 125 :: 125 :: X) (j := j + 5) (c := 59) (k := 17) (hk 5) (by omega) (by decide)) (show (17 : Int) ≠ 0 by decide) (by first | rfl | (simp; omega)) s6
  have s4 := run_step (l := l) (Y := 59 :: 121 :: 58 :: 123 :: 122 :: 125 :: 125 :: X) (m := j + 5) (hk 4) (by decide) (tok_digs (D := [49]) (X := 59 :: 121 :: 58 :: 123 :: 122 :: 125 :: 125 :: X) (j := j + 4) (hk 4) (by unfold DgX; decide) (by decide) (.inl rfl)) (show (10 : Int) ≠ 0 by decide) (by first | rfl | (simp; omega)) s5
  have s3 := run_step (l := l) (Y := 49 :: 59 :: 121 :: 58 :: 123 :: 122 :: 125 :: 125 :: X) (m := j + 4) (hk 3) (by decide) (tok_one (X := 49 :: 59 :: 121 :: 58 :: 123 :: 122 :: 125 :: 125 :: X) (j := j + 3) (c := 58) (k := 16) (hk 3) (by omega) (by decide)) (show (16 : Int) ≠ 0 by decide) (by first | rfl | (simp; omega)) s4
  have s2 := run_step (l := l) (Y := 58 :: 49 :: 59 :: 121 :: 58 :: 123 :: 122 :: 125 :: 125 :: X) (m := j + 3) (hk 2) (by decide) (tok_word (V := []) (X := 58 :: 49 :: 59 :: 121 :: 58 :: 123 :: 122 :: 125 :: 125 :: X) (c := 120) (j := j + 2) (hk 2) (by unfold LtC; omega) (by decide) (show nameB 58 = false by decide) (show (58 : Int) ≠ 92 by decide) (show (58 : Int) ≠ 40 by decide)) (show (1 : Int) ≠ 0 by decide) (by first | rfl | (simp; omega)) s3
  have s1 := run_step (l := l) (Y := 120 :: 58 :: 49 :: 59 :: 121 :: 58 :: 123 :: 122 :: 125 :: 125 :: X) (m := j + 2) (hk 1) (by decide) (tok_one (X := 120 :: 58 :: 49 :: 59 :: 121 :: 58 :: 123 :: 122 :: 125 :: 125 :: X) (j := j + 1) (c := 123) (k := 23) (hk 1) (by omega) (by decide)) (show (23 : Int) ≠ 0 by decide) (by first | rfl | (simp; omega)) s2
  have s0 := run_step (l := l) (Y := 123 :: 120 :: 58 :: 49 :: 59 :: 121 :: 58 :: 123 :: 122 :: 125 :: 125 :: X) (m := j + 1) (hk 0) (by decide) (tok_word (V := []) (X := 123 :: 120 :: 58 :: 49 :: 59 :: 121 :: 58 :: 123 :: 122 :: 125 :: 125 :: X) (c := 98) (j := j + 0) (hk 0) (by unfold LtC; omega) (by decide) (show nameB 123 = false by decide) (show (123 : Int) ≠ 92 by decide) (show (123 : Int) ≠ 40 by decide)) (show (1 : Int) ≠ 0 by decide) (by first | rfl | (simp; omega)) s1
  exact s0
def rp2T (j : Nat) : List Tk := [⟨3, j + 0, j + 2, [109], [], false⟩, ⟨23, j + 2, j + 3, [], [], false⟩, ⟨1, j + 3, j + 4, [99], [], false⟩, ⟨23, j + 4, j + 5, [], [], false⟩, ⟨24, j + 5, j + 6, [], [], false⟩, ⟨24, j + 6, j + 7, [], [], false⟩]
theorem rp2_run {l X : List Int} {ts : List Tk} {j : Nat} (h : l.drop j = [64, 109, 123, 99, 123, 125, 125] ++ X) (hr : RunX l ts (j + 7)) : RunX l (rp2T j ++ ts) j := by
  have hk : ∀ i, l.drop (j + i) = ([64, 109, 123, 99, 123, 125, 125] ++ X).drop i := fun i => by rw [← List.drop_drop, h]
  have s5 := run_step (l := l) (Y := X) (m := j + 7) (hk 6) (by decide) (tok_one (X := X) (j := j + 6) (c := 125) (k := 24) (hk 6) (by omega) (by decide)) (show (24 : Int) ≠ 0 by decide) (by first | rfl | (simp; omega)) hr
  have s4 := run_step (l := l) (Y := 125 :: X) (m := j + 6) (hk 5) (by decide) (tok_one (X := 125 :: X) (j := j + 5) (c := 125) (k := 24) (hk 5) (by omega) (by decide)) (show (24 : Int) ≠ 0 by decide) (by first | rfl | (simp; omega)) s5
  have s3 := run_step (l := l) (Y := 125 :: 125 :: X) (m := j + 5) (hk 4) (by decide) (tok_one (X := 125 :: 125 :: X) (j := j + 4) (c := 123) (k := 23) (hk 4) (by omega) (by decide)) (show (23 : Int) ≠ 0 by decide) (by first | rfl | (simp; omega)) s4
  have s2 := run_step (l := l) (Y := 123 :: 125 :: 125 :: X) (m := j + 4) (hk 3) (by decide) (tok_word (V := []) (X := 123 :: 125 :: 125 :: X) (c := 99) (j := j + 3) (hk 3) (by unfold LtC; omega) (by decide) (show nameB 123 = false by decide) (show (123 : Int) ≠ 92 by decide) (show (123 : Int) ≠ 40 by decide)) (show (1 : Int) ≠ 0 by decide) (by first | rfl | (simp; omega)) s3
  have s1 := run_step (l := l) (Y := 99 :: 123 :: 125 :: 125 :: X) (m := j + 3) (hk 2) (by decide) (tok_one (X := 99 :: 123 :: 125 :: 125 :: X) (j := j + 2) (c := 123) (k := 23) (hk 2) (by omega) (by decide)) (show (23 : Int) ≠ 0 by decide) (by first | rfl | (simp; omega)) s2
  have s0 := run_step (l := l) (Y := 109 :: 123 :: 99 :: 123 :: 125 :: 125 :: X) (m := j + 2) (hk 0) (by decide) (tok_atw (V := []) (X := 123 :: 99 :: 123 :: 125 :: 125 :: X) (c := 109) (j := j + 0) (hk 0) (by unfold LtC; omega) (by decide) (show nameB 123 = false by decide) (show (123 : Int) ≠ 92 by decide)) (show (3 : Int) ≠ 0 by decide) (by first | rfl | (simp; omega)) s1
  exact s0
def rp3T (j : Nat) : List Tk := [⟨3, j + 0, j + 2, [110], [], false⟩, ⟨13, j + 2, j + 3, [], [], false⟩, ⟨1, j + 3, j + 4, [100], [], false⟩, ⟨17, j + 4, j + 5, [], [], false⟩]
theorem rp3_run {l X : List Int} {ts : List Tk} {j : Nat} (h : l.drop j = [64, 110, 32, 100, 59] ++ X) (hr : RunX l ts (j + 5)) : RunX l (rp3T j ++ ts) j := by
  have hk : ∀ i, l.drop (j + i) = ([64, 110, 32, 100, 59] ++ X).drop i := fun i => by rw [← List.drop_drop, h]
  have s3 := run_step (l := l) (Y := X) (m := j + 5) (hk 4) (by decide) (tok_one (X := X) (j := j + 4) (c := 59) (k := 17) (hk 4) (by omega) (by decide)) (show (17 : Int) ≠ 0 by decide) (by first | rfl | (simp; omega)) hr
  have s2 := run_step (l := l) (Y := 59 :: X) (m := j + 4) (hk 3) (by decide) (tok_word (V := []) (X := 59 :: X) (c := 100) (j := j + 3) (hk 3) (by unfold LtC; omega) (by decide) (show nameB 59 = false by decide) (show (59 : Int) ≠ 92 by decide) (show (59 : Int) ≠ 40 by decide)) (show (1 : Int) ≠ 0 by decide) (by first | rfl | (simp; omega)) s3
  have s1 := run_step (l := l) (Y := 100 :: 59 :: X) (m := j + 3) (hk 2) (by decide) (tok_sp (P := [32]) (X := 100 :: 59 :: X) (j := j + 2) (hk 2) (by decide) (by decide) (show spaceB 100 = false by decide)) (show (13 : Int) ≠ 0 by decide) (by first | rfl | (simp; omega)) s2
  have s0 := run_step (l := l) (Y := 110 :: 32 :: 100 :: 59 :: X) (m := j + 2) (hk 0) (by decide) (tok_atw (V := []) (X := 32 :: 100 :: 59 :: X) (c := 110) (j := j + 0) (hk 0) (by unfold LtC; omega) (by decide) (show nameB 32 = false by decide) (show (32 : Int) ≠ 92 by decide)) (show (3 : Int) ≠ 0 by decide) (by first | rfl | (simp; omega)) s1
  exact s0
def rp4T (j : Nat) : List Tk := [⟨19, j + 0, j + 1, [], [], false⟩, ⟨1, j + 1, j + 2, [101], [], false⟩, ⟨9, j + 2, j + 3, [61], [], false⟩, ⟨23, j + 3, j + 4, [], [], false⟩, ⟨1, j + 4, j + 5, [102], [], false⟩, ⟨24, j + 5, j + 6, [], [], false⟩, ⟨20, j + 6, j + 7, [], [], false⟩, ⟨23, j + 7, j + 8, [], [], false⟩, ⟨24, j + 8, j + 9, [], [], false⟩]
theorem rp4_run {l X : List Int} {ts : List Tk} {j : Nat} (h : l.drop j = [91, 101, 61, 123, 102, 125, 93, 123, 125] ++ X) (hr : RunX l ts (j + 9)) : RunX l (rp4T j ++ ts) j := by
  have hk : ∀ i, l.drop (j + i) = ([91, 101, 61, 123, 102, 125, 93, 123, 125] ++ X).drop i := fun i => by rw [← List.drop_drop, h]
  have s8 := run_step (l := l) (Y := X) (m := j + 9) (hk 8) (by decide) (tok_one (X := X) (j := j + 8) (c := 125) (k := 24) (hk 8) (by omega) (by decide)) (show (24 : Int) ≠ 0 by decide) (by first | rfl | (simp; omega)) hr
  have s7 := run_step (l := l) (Y := 125 :: X) (m := j + 8) (hk 7) (by decide) (tok_one (X := 125 :: X) (j := j + 7) (c := 123) (k := 23) (hk 7) (by omega) (by decide)) (show (23 : Int) ≠ 0 by decide) (by first | rfl | (simp; omega)) s8
  have s6 := run_step (l := l) (Y := 123 :: 125 :: X) (m := j + 7) (hk 6) (by decide) (tok_one (X := 123 :: 125 :: X) (j := j + 6) (c := 93) (k := 20) (hk 6) (by omega) (by decide)) (show (20 : Int) ≠ 0 by decide) (by first | rfl | (simp; omega)) s7
  have s5 := run_step (l := l) (Y := 93 :: 123 :: 125 :: X) (m := j + 6) (hk 5) (by decide) (tok_one (X := 93 :: 123 :: 125 :: X) (j := j + 5) (c := 125) (k := 24) (hk 5) (by omega) (by decide)) (show (24 : Int) ≠ 0 by decide) (by first | rfl | (simp; omega)) s6
  have s4 := run_step (l := l) (Y := 125 :: 93 :: 123 :: 125 :: X) (m := j + 5) (hk 4) (by decide) (tok_word (V := []) (X := 125 :: 93 :: 123 :: 125 :: X) (c := 102) (j := j + 4) (hk 4) (by unfold LtC; omega) (by decide) (show nameB 125 = false by decide) (show (125 : Int) ≠ 92 by decide) (show (125 : Int) ≠ 40 by decide)) (show (1 : Int) ≠ 0 by decide) (by first | rfl | (simp; omega)) s5
  have s3 := run_step (l := l) (Y := 102 :: 125 :: 93 :: 123 :: 125 :: X) (m := j + 4) (hk 3) (by decide) (tok_one (X := 102 :: 125 :: 93 :: 123 :: 125 :: X) (j := j + 3) (c := 123) (k := 23) (hk 3) (by omega) (by decide)) (show (23 : Int) ≠ 0 by decide) (by first | rfl | (simp; omega)) s4
  have s2 := run_step (l := l) (Y := 123 :: 102 :: 125 :: 93 :: 123 :: 125 :: X) (m := j + 3) (hk 2) (by decide) (tok_delim (X := 123 :: 102 :: 125 :: 93 :: 123 :: 125 :: X) (j := j + 2) (c := 61) (hk 2) (by omega)) (show (9 : Int) ≠ 0 by decide) (by first | rfl | (simp; omega)) s3
  have s1 := run_step (l := l) (Y := 61 :: 123 :: 102 :: 125 :: 93 :: 123 :: 125 :: X) (m := j + 2) (hk 1) (by decide) (tok_word (V := []) (X := 61 :: 123 :: 102 :: 125 :: 93 :: 123 :: 125 :: X) (c := 101) (j := j + 1) (hk 1) (by unfold LtC; omega) (by decide) (show nameB 61 = false by decide) (show (61 : Int) ≠ 92 by decide) (show (61 : Int) ≠ 40 by decide)) (show (1 : Int) ≠ 0 by decide) (by first | rfl | (simp; omega)) s2
  have s0 := run_step (l := l) (Y := 101 :: 61 :: 123 :: 102 :: 125 :: 93 :: 123 :: 125 :: X) (m := j + 1) (hk 0) (by decide) (tok_one (X := 101 :: 61 :: 123 :: 102 :: 125 :: 93 :: 123 :: 125 :: X) (j := j + 0) (c := 91) (k := 19) (hk 0) (by omega) (by decide)) (show (19 : Int) ≠ 0 by decide) (by first | rfl | (simp; omega)) s1
  exact s0
def rp5T (j : Nat) : List Tk := [⟨2, j + 0, j + 2, [103], [], false⟩, ⟨1, j + 2, j + 3, [104], [], false⟩, ⟨23, j + 3, j + 4, [], [], false⟩, ⟨1, j + 4, j + 5, [105], [], false⟩, ⟨24, j + 5, j + 6, [], [], false⟩, ⟨22, j + 6, j + 7, [], [], false⟩, ⟨23, j + 7, j + 8, [], [], false⟩, ⟨1, j + 8, j + 9, [106], [], false⟩, ⟨24, j + 9, j + 10, [], [], false⟩]
theorem rp5_run {l X : List Int} {ts : List Tk} {j : Nat} (h : l.drop j = [103, 40, 104, 123, 105, 125, 41, 123, 106, 125] ++ X) (hr : RunX l ts (j + 10)) : RunX l (rp5T j ++ ts) j := by
  have hk : ∀ i, l.drop (j + i) = ([103, 40, 104, 123, 105, 125, 41, 123, 106, 125] ++ X).drop i := fun i => by rw [← List.drop_drop, h]
  have s8 := run_step (l := l) (Y := X) (m := j + 10) (hk 9) (by decide) (tok_one (X := X) (j := j + 9) (c := 125) (k := 24) (hk 9) (by omega) (by decide)) (show (24 : Int) ≠ 0 by decide) (by first | rfl | (simp; omega)) hr
  have s7 := run_step (l := l) (Y := 125 :: X) (m := j + 9) (hk 8) (by decide) (tok_word (V := []) (X := 125 :: X) (c := 106) (j := j + 8) (hk 8) (by unfold LtC; omega) (by decide) (show nameB 125 = false by decide) (show (125 : Int) ≠ 92 by decide) (show (125 : Int) ≠ 40 by decide)) (show (1 : Int) ≠ 0 by decide) (by first | rfl | (simp; omega)) s8
  have s6 := run_step (l := l) (Y := 106 :: 125 :: X) (m := j + 8) (hk 7) (by decide) (tok_one (X := 106 :: 125 :: X) (j := j + 7) (c := 123) (k := 23) (hk 7) (by omega) (by decide)) (show (23 : Int) ≠ 0 by decide) (by first | rfl | (simp; omega)) s7
  have s5 := run_step (l := l) (Y := 123 :: 106 :: 125 :: X) (m := j + 7) (hk 6) (by decide) (tok_one (X := 123 :: 106 :: 125 :: X) (j := j + 6) (c := 41) (k := 22) (hk 6) (by omega) (by decide)) (show (22 : Int) ≠ 0 by decide) (by first | rfl | (simp; omega)) s6
  have s4 := run_step (l := l) (Y := 41 :: 123 :: 106 :: 125 :: X) (m := j + 6) (hk 5) (by decide) (tok_one (X := 41 :: 123 :: 106 :: 125 :: X) (j := j + 5) (c := 125) (k := 24) (hk 5) (by omega) (by decide)) (show (24 : Int) ≠ 0 by decide) (by first | rfl | (simp; omega)) s5
  have s3 := run_step (l := l) (Y := 125 :: 41 :: 123 :: 106 :: 125 :: X) (m := j + 5) (hk 4) (by decide) (tok_word (V := []) (X := 125 :: 41 :: 123 :: 106 :: 125 :: X) (c := 105) (j := j + 4) (hk 4) (by unfold LtC; omega) (by decide) (show nameB 125 = false by decide) (show (125 : Int) ≠ 92 by decide) (show (125 : Int) ≠ 40 by decide)) (show (1 : Int) ≠ 0 by decide) (by first | rfl | (simp; omega)) s4
  have s2 := run_step (l := l) (Y := 105 :: 125 :: 41 :: 123 :: 106 :: 125 :: X) (m := j + 4) (hk 3) (by decide) (tok_one (X := 105 :: 125 :: 41 :: 123 :: 106 :: 125 :: X) (j := j + 3) (c := 123) (k := 23) (hk 3) (by omega) (by decide)) (show (23 : Int) ≠ 0 by decide) (by first | rfl | (simp; omega)) s3
  have s1 := run_step (l := l) (Y := 123 :: 105 :: 125 :: 41 :: 123 :: 106 :: 125 :: X) (m := j + 3) (hk 2) (by decide) (tok_word (V := []) (X := 123 :: 105 :: 125 :: 41 :: 123 :: 106 :: 125 :: X) (c := 104) (j := j + 2) (hk 2) (by unfold LtC; omega) (by decide) (show nameB 123 = false by decide) (show (123 : Int) ≠ 92 by decide) (show (123 : Int) ≠ 40 by decide)) (show (1 : Int) ≠ 0 by decide) (by first | rfl | (simp; omega)) s2
  have s0 := run_step (l := l) (Y := 40 :: 104 :: 123 :: 105 :: 125 :: 41 :: 123 :: 106 :: 125 :: X) (m := j + 2) (hk 0) (by decide) (tok_func (V := []) (X := 104 :: 123 :: 105 :: 125 :: 41 :: 123 :: 106 :: 125 :: X) (c := 103) (j := j + 0) (hk 0) (by unfold LtC; omega) (by decide) (by decide)) (show (2 : Int) ≠ 0 by decide) (by first | rfl | (simp; omega)) s1
  exact s0
def rp6T (j : Nat) : List Tk := [⟨1, j + 0, j + 1, [107], [], false⟩, ⟨23, j + 1, j + 2, [], [], false⟩, ⟨19, j + 2, j + 3, [], [], false⟩, ⟨21, j + 3, j + 4, [], [], false⟩, ⟨1, j + 4, j + 5, [108], [], false⟩, ⟨22, j + 5, j + 6, [], [], false⟩, ⟨20, j + 6, j + 7, [], [], false⟩, ⟨24, j + 7, j + 8, [], [], false⟩]
theorem rp6_run {l X : List Int} {ts : List Tk} {j : Nat} (h : l.drop j = [107, 123, 91, 40, 108, 41, 93, 125] ++ X) (hr : RunX l ts (j + 8)) : RunX l (rp6T j ++ ts) j := by
  have hk : ∀ i, l.drop (j + i) = ([107, 123, 91, 40, 108, 41, 93, 125] ++ X).drop i := fun i => by rw [← List.drop_drop, h]
  have s7 := run_step (l := l) (Y := X) (m := j + 8) (hk 7) (by decide) (tok_one (X := X) (j := j + 7) (c := 125) (k := 24) (hk 7) (by omega) (by decide)) (show (24 : Int) ≠ 0 by decide) (by first | rfl | (simp; omega)) hr
  have s6 := run_step (l := l) (Y := 125 :: X) (m := j + 7) (hk 6) (by decide) (tok_one (X := 125 :: X) (j := j + 6) (c := 93) (k := 20) (hk 6) (by omega) (by decide)) (show (20 : Int) ≠ 0 by decide) (by first | rfl | (simp; omega)) s7
  have s5 := run_step (l := l) (Y := 93 :: 125 :: X) (m := j + 6) (hk 5) (by decide) (tok_one (X := 93 :: 125 :: X) (j := j + 5) (c := 41) (k := 22) (hk 5) (by omega) (by decide)) (show (22 : Int) ≠ 0 by decide) (by first | rfl | (simp; omega)) s6
  have s4 := run_step (l := l) (Y := 41 :: 93 :: 125 :: X) (m := j + 5) (hk 4) (by decide) (tok_word (V := []) (X := 41 :: 93 :: 125 :: X) (c := 108) (j := j + 4) (hk 4) (by unfold LtC; omega) (by decide) (show nameB 41 = false by decide) (show (41 : Int) ≠ 92 by decide) (show (41 : Int) ≠ 40 by decide)) (show (1 : Int) ≠ 0 by decide) (by first | rfl | (simp; omega)) s5
  have s3 := run_step (l := l) (Y := 108 :: 41 :: 93 :: 125 :: X) (m := j + 4) (hk 3) (by decide) (tok_one (X := 108 :: 41 :: 93 :: 125 :: X) (j := j + 3) (c := 40) (k := 21) (hk 3) (by omega) (by decide)) (show (21 : Int) ≠ 0 by decide) (by first | rfl | (simp; omega)) s4
  have s2 := run_step (l := l) (Y := 40 :: 108 :: 41 :: 93 :: 125 :: X) (m := j + 3) (hk 2) (by decide) (tok_one (X := 40 :: 108 :: 41 :: 93 :: 125 :: X) (j := j + 2) (c := 91) (k := 19) (hk 2) (by omega) (by decide)) (show (19 : Int) ≠ 0 by decide) (by first | rfl | (simp; omega)) s3
  have s1 := run_step (l := l) (Y := 91 :: 40 :: 108 :: 41 :: 93 :: 125 :: X) (m := j + 2) (hk 1) (by decide) (tok_one (X := 91 :: 40 :: 108 :: 41 :: 93 :: 125 :: X) (j := j + 1) (c := 123) (k := 23) (hk 1) (by omega) (by decide)) (show (23 : Int) ≠ 0 by decide) (by first | rfl | (simp; omega)) s2
  have s0 := run_step (l := l) (Y := 123 :: 91 :: 40 :: 108 :: 41 :: 93 :: 125 :: X) (m := j + 1) (hk 0) (by decide) (tok_word (V := []) (X := 123 :: 91 :: 40 :: 108 :: 41 :: 93 :: 125 :: X) (c := 107) (j := j + 0) (hk 0) (by unfold LtC; omega) (by decide) (show nameB 123 = false by decide) (show (123 : Int) ≠ 92 by decide) (show (123 : Int) ≠ 40 by decide)) (show (1 : Int) ≠ 0 by decide) (by first | rfl | (simp; omega)) s1
  exact s0
end
end Go.Proofs.Ytelbjnanpmdnnaa
