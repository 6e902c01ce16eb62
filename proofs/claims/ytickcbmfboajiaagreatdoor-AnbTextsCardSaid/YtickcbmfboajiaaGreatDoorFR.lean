/- Several texts of mine in one. -/
import Derived.Test.YtickcbmfboajiaaGreatDoorFD
import Derived.Test.YtickcbmfboajiaaGreatDoorFO
import Derived.Test.YtickcbmfboajiaaGreatDoorFH
namespace Go.Proofs.YtickcbmfboajiaaGreatDoor
section
open Go.RowKit
set_option linter.unusedVariables false
set_option linter.unusedSimpArgs false

theorem mem_all (l : List Int) : ∀ (f j : Nat) (acc : List Tk), ∀ t ∈ allGo f l j acc, t ∈ acc ∨ ∃ k, t = tokAt l k
  | 0, j, acc, t, h => .inl h
  | f + 1, j, acc, t, h => by
    rw [allGo] at h
    split at h
    · rcases List.mem_append.1 h with h | h
      · exact .inl h
      · exact .inr ⟨_, List.mem_singleton.1 h⟩
    · rcases mem_all l f _ _ t h with h | h
      · rcases List.mem_append.1 h with h | h
        · exact .inl h
        · exact .inr ⟨_, List.mem_singleton.1 h⟩
      · exact .inr h
theorem mem_toks (zs : List Int) : ∀ t ∈ toksF zs, ∃ k, t = tokAt (prepF (charsF zs)) k := fun t h => by
  rcases mem_all _ _ _ _ t h with h | h
  · exact absurd h (by simp)
  · exact h

/-- A token whose texts are no longer than so much. -/
def LenT (M : Nat) (t : Tk) : Prop := t.text.length ≤ M ∧ t.num.length ≤ M
theorem namesGo_len2 (l : List Int) : ∀ (f j : Nat) (out : List Int), (namesGo f l j out).1.length ≤ out.length + f
  | 0, j, out => by rw [namesGo]; show out.length ≤ _; omega
  | f + 1, j, out => by
    rw [namesGo]
    split
    · have := namesGo_len2 l f (j + 1) (out ++ [chA l j]); rw [List.length_append] at this; simp at this; omega
    · split
      · have := namesGo_len2 l f (valueF l j).2 (out ++ [(valueF l j).1]); rw [List.length_append] at this; simp at this; omega
      · show out.length ≤ _; omega
theorem namesB_len (l : List Int) (j : Nat) : (bytesF (namesF l j).1).length ≤ 4 * (l.length + 1) := by
  have h1 := bytesF_len (namesF l j).1
  have h2 := namesGo_len2 l (l.length + 1) j []
  have h3 : (namesF l j).1.length ≤ ([] : List Int).length + (l.length + 1) := h2
  have h4 : ([] : List Int).length = 0 := rfl
  omega
theorem bytes_le {xs : List Int} {m : Nat} (h : xs.length ≤ m) : (bytesF xs).length ≤ 4 * m := by have := bytesF_len xs; omega
theorem quotedGo_len (l : List Int) (mark : Int) (frm : Nat) : ∀ (f i : Nat) (out : List Int), LenT (4 * (out.length + f)) (quotedGo f l mark frm i out)
  | 0, i, out => by rw [quotedGo]; exact ⟨bytes_le (by omega), Nat.zero_le _⟩
  | f + 1, i, out => by
    rw [quotedGo]
    have hb : (bytesF out).length ≤ 4 * (out.length + (f + 1)) := bytes_le (by omega)
    have e : ∀ x : Int, 4 * ((out ++ [x]).length + f) ≤ 4 * (out.length + (f + 1)) := fun x => by rw [List.length_append]; simp; omega
    have up : ∀ x i, LenT (4 * (out.length + (f + 1))) (quotedGo f l mark frm i (out ++ [x])) := fun x i => ⟨Nat.le_trans (quotedGo_len l mark frm f i (out ++ [x])).1 (e x), Nat.le_trans (quotedGo_len l mark frm f i (out ++ [x])).2 (e x)⟩
    have up0 : ∀ i, LenT (4 * (out.length + (f + 1))) (quotedGo f l mark frm i out) := fun i => ⟨Nat.le_trans (quotedGo_len l mark frm f i out).1 (by omega), Nat.le_trans (quotedGo_len l mark frm f i out).2 (by omega)⟩
    repeat' split
    all_goals first | exact ⟨hb, Nat.zero_le _⟩ | exact ⟨Nat.zero_le _, Nat.zero_le _⟩ | exact up _ _ | exact up0 _
theorem restGo_text (l : List Int) (frm : Nat) : ∀ (f i : Nat), (restGo f l frm i).text = [] ∧ (restGo f l frm i).num = [] ∧ (restGo f l frm i).kind = 8
  | 0, i => by rw [restGo]; exact ⟨rfl, rfl, rfl⟩
  | f + 1, i => by
    rw [restGo]
    repeat' split
    all_goals first | exact ⟨rfl, rfl, rfl⟩ | exact restGo_text l frm f _
theorem urlGo_len (l : List Int) (frm : Nat) : ∀ (f i : Nat) (out : List Int), LenT (4 * (out.length + f)) (urlGo f l frm i out)
  | 0, i, out => by rw [urlGo]; exact ⟨bytes_le (by omega), Nat.zero_le _⟩
  | f + 1, i, out => by
    rw [urlGo]
    have hb : (bytesF out).length ≤ 4 * (out.length + (f + 1)) := bytes_le (by omega)
    have e : ∀ x : Int, 4 * ((out ++ [x]).length + f) ≤ 4 * (out.length + (f + 1)) := fun x => by rw [List.length_append]; simp; omega
    have up : ∀ x i, LenT (4 * (out.length + (f + 1))) (urlGo f l frm i (out ++ [x])) := fun x i => ⟨Nat.le_trans (urlGo_len l frm f i (out ++ [x])).1 (e x), Nat.le_trans (urlGo_len l frm f i (out ++ [x])).2 (e x)⟩
    have hr : ∀ i, LenT (4 * (out.length + (f + 1))) (restF l frm i) := fun i => by
      have := restGo_text l frm (l.length + 1) i
      exact ⟨by unfold restF; rw [this.1]; exact Nat.zero_le _, by unfold restF; rw [this.2.1]; exact Nat.zero_le _⟩
    repeat' split
    all_goals first | exact ⟨hb, Nat.zero_le _⟩ | exact up _ _ | exact hr _
theorem tokAt_len (l : List Int) (k : Nat) : LenT (4 * (l.length + 1)) (tokAt l k) := by
  have z : ∀ n : Nat, ([] : List Int).length ≤ n := fun n => Nat.zero_le n
  have hn := namesB_len l
  have hs : ∀ i j, (bytesF (sliceF l i j)).length ≤ 4 * (l.length + 1) := fun i j => bytes_le (by unfold sliceF; rw [List.length_take, List.length_drop]; omega)
  have hq : LenT (4 * (l.length + 1)) (quotedF l k) := by
    have := quotedGo_len l (chA l k) k (l.length + 1) (k + 1) []
    have e : ([] : List Int).length + (l.length + 1) = l.length + 1 := by simp
    rw [e] at this; exact this
  have hu : ∀ f i, LenT (4 * (l.length + 1)) (urlF l f i) := fun f i => by
    have := urlGo_len l f (l.length + 1) i []
    have e : ([] : List Int).length + (l.length + 1) = l.length + 1 := by simp
    rw [e] at this; exact this
  have hone : ∀ c : Int, (bytesF [c]).length ≤ 4 * (l.length + 1) := fun c => bytes_le (by simp)
  have hnum : LenT (4 * (l.length + 1)) (numericF l k) := by
    unfold numericF
    repeat' split
    all_goals first | exact ⟨hn _, hs _ _⟩ | exact ⟨z _, hs _ _⟩
  have hcal : LenT (4 * (l.length + 1)) (calledF l k) := by
    unfold calledF
    repeat' split
    all_goals first | exact ⟨hn _, z _⟩ | exact hu _ _
  unfold tokAt
  repeat' split
  all_goals first | exact ⟨z _, z _⟩ | exact hq | exact hnum | exact hcal | exact ⟨hn _, z _⟩ | exact ⟨hone _, z _⟩

/-- Whole numbers have a number's text. -/
def GoodT (t : Tk) : Prop := (t.kind = 10 ∨ t.kind = 12) → t.whole = true → numB (strOfNums t.num) = true
theorem quotedGo_kind (l : List Int) (mark : Int) (frm : Nat) : ∀ (f i : Nat) (out : List Int), (quotedGo f l mark frm i out).kind = 5 ∨ (quotedGo f l mark frm i out).kind = 6
  | 0, i, out => by rw [quotedGo]; exact .inl rfl
  | f + 1, i, out => by
    rw [quotedGo]
    repeat' split
    all_goals first | exact .inl rfl | exact .inr rfl | exact quotedGo_kind l mark frm f _ _
theorem urlGo_kind (l : List Int) (frm : Nat) : ∀ (f i : Nat) (out : List Int), (urlGo f l frm i out).kind = 7 ∨ (urlGo f l frm i out).kind = 8
  | 0, i, out => by rw [urlGo]; exact .inl rfl
  | f + 1, i, out => by
    rw [urlGo]
    repeat' split
    all_goals first | exact .inl rfl | exact urlGo_kind l frm f _ _ | exact .inr (restGo_text l frm _ _).2.2
theorem asc_bytes {xs : List Int} (h : ∀ c ∈ xs, 32 ≤ c ∧ c < 127) : bytesF xs = xs := by
  unfold bytesF
  have e : xs.map cleanF = xs := by
    conv => rhs; rw [← List.map_id xs]
    apply List.map_congr_left
    intro c hc
    obtain ⟨h1, h2⟩ := h c hc
    unfold cleanF charOf rightB
    rw [if_neg (by omega), decide_eq_true (by omega), if_pos rfl]; rfl
  rw [e]
  unfold textF
  induction xs with
  | nil => rfl
  | cons c xs ih =>
    rw [List.flatMap_cons, ih (fun z hz => h z (List.mem_cons_of_mem _ hz)) (by simp at e; simpa using e.2)]
    obtain ⟨h1, h2⟩ := h c (List.mem_cons_self ..)
    have e1 : charOf c = c := by unfold charOf rightB; rw [decide_eq_true (by omega), if_pos rfl]
    rw [e1]
    unfold putF
    rw [if_pos (by omega)]; rfl
theorem slice_mem {l : List Int} {i j : Nat} {c : Int} (h : c ∈ sliceF l i j) : ∃ k, i ≤ k ∧ k < j ∧ c = chA l k := by
  unfold sliceF at h
  obtain ⟨m, hm⟩ := List.getElem?_of_mem h
  rw [List.getElem?_take] at hm
  split at hm
  · rw [List.getElem?_drop] at hm
    refine ⟨i + m, by omega, by omega, ?_⟩
    unfold chA
    rw [hm]; rfl
  · exact absurd hm (by simp)
theorem digitsGo_mem (l : List Int) : ∀ (f j k : Nat), j ≤ k → k < digitsGo f l j → dgB l k = true
  | 0, j, k, h1, h2 => by rw [digitsGo] at h2; omega
  | f + 1, j, k, h1, h2 => by
    rw [digitsGo] at h2
    by_cases h : dgB l j = true
    · rw [if_pos h] at h2
      rcases Nat.eq_or_lt_of_le h1 with rfl | h3
      · exact h
      · exact digitsGo_mem l f (j + 1) k h3 h2
    · rw [if_neg h] at h2; omega
theorem u8_digit {c : Int} (h : 48 ≤ c ∧ c ≤ 57) : digitB ((u8 c).toNat : Int) = true := by
  obtain ⟨n, rfl⟩ := Int.eq_ofNat_of_zero_le (show 0 ≤ c by omega)
  have hn : n < 256 := by omega
  have e : (u8 (n : Int)).toNat = n := by unfold u8; rw [Int.toNat_natCast, UInt8.toNat_ofNat']; exact Nat.mod_eq_of_lt hn
  rw [e]
  unfold digitB
  exact decide_eq_true h
theorem all_digits {D : List Int} (h : ∀ c ∈ D, 48 ≤ c ∧ c ≤ 57) : (D.map u8).all (fun b => digitB b.toNat) = true := by
  rw [List.all_map, List.all_eq_true]
  intro c hc
  exact u8_digit (h c hc)
/-- A number's bytes: a sign or none, and digits. -/
theorem numB_of {S D : List Int} (hS : S = [] ∨ S = [43] ∨ S = [45]) (hD : ∀ c ∈ D, 48 ≤ c ∧ c ≤ 57) (h0 : D ≠ []) : numB (strOfNums (S ++ D)) = true := by
  obtain ⟨d, ds, rfl⟩ : ∃ d ds, D = d :: ds := by cases D with | nil => exact absurd rfl h0 | cons d ds => exact ⟨d, ds, rfl⟩
  have hd := u8_digit (hD d (List.mem_cons_self ..))
  have hall := all_digits hD
  have hsz : (strOfNums (S ++ d :: ds)).size = (S ++ d :: ds).length := strOfNums_size _
  rcases hS with rfl | rfl | rfl
  · have hf : ∀ c : UInt8, digitB (c.toNat : Int) = false → firstB (strOfNums ([] ++ d :: ds)) c = false := fun c hc => by
      unfold firstB
      rw [strB_nums]
      exact decide_eq_false (fun e => by simp at e; rw [← e] at hc; rw [hc] at hd; exact absurd hd (by decide))
    have hs : signedB (strOfNums ([] ++ d :: ds)) = false := by unfold signedB; rw [hf 43 (by decide), hf 45 (by decide)]; rfl
    unfold numB
    rw [hs, if_neg (by decide)]
    unfold bytesAll
    rw [strB_nums, hsz]
    rw [List.nil_append, hall]; rfl
  · have hs : signedB (strOfNums ([43] ++ d :: ds)) = true := by
      unfold signedB firstB
      rw [strB_nums]
      simp [u8]
    unfold numB
    rw [hs, if_pos rfl]
    unfold bytesAll
    rw [tailS_bytes, strB_nums, tailS_size, hsz]
    rw [List.map_append]
    show (((d :: ds).map u8).all _ && _) = true
    rw [hall]; simp
  · have hs : signedB (strOfNums ([45] ++ d :: ds)) = true := by
      unfold signedB firstB
      rw [strB_nums]
      simp [u8]
    unfold numB
    rw [hs, if_pos rfl]
    unfold bytesAll
    rw [tailS_bytes, strB_nums, tailS_size, hsz]
    rw [List.map_append]
    show (((d :: ds).map u8).all _ && _) = true
    rw [hall]; simp
theorem slice_app (l : List Int) {i j k : Nat} (h1 : i ≤ j) (h2 : j ≤ k) : sliceF l i k = sliceF l i j ++ sliceF l j k := by
  unfold sliceF
  have e : l.drop j = (l.drop i).drop (j - i) := by rw [List.drop_drop]; congr 1; omega
  rw [e]
  have e2 : k - i = (j - i) + (k - j) := by omega
  rw [e2, List.take_add]
theorem slice_one (l : List Int) {i : Nat} (h : i < l.length) : sliceF l i (i + 1) = [chA l i] := by
  unfold sliceF chA
  rw [show i + 1 - i = 1 from by omega, List.getElem?_eq_getElem h, List.drop_eq_getElem_cons h]; rfl
theorem numeric_good {l : List Int} {j : Nat} (hn : numAt l j = true) (hw : (numberF l j).2 = true) : numB (strOfNums (bytesF (sliceF l j (numberF l j).1))) = true := by
  have hw2 : (!fracAt l (digitsF l (signAt l j)) && !expoB l (fracF l (digitsF l (signAt l j)))) = true := hw
  rw [Bool.and_eq_true, Bool.not_eq_true', Bool.not_eq_true'] at hw2
  obtain ⟨hf, he⟩ := hw2
  have e1 : fracF l (digitsF l (signAt l j)) = digitsF l (signAt l j) := by unfold fracF; rw [hf, if_neg (by decide)]
  rw [e1] at he
  have e2 : (numberF l j).1 = digitsF l (signAt l j) := by
    show expoF l (fracF l (digitsF l (signAt l j))) = _
    rw [e1]; unfold expoF; rw [he, if_neg (by decide)]
  rw [e2]
  have hd : dgB l (signAt l j) = true := by
    unfold numAt at hn
    rcases hdv : dgB l (signAt l j) with _ | _
    · rw [hdv, Bool.false_or] at hn
      have : digitsF l (signAt l j) = signAt l j := digitsGo_stop _ hdv
      rw [this, hn] at hf
      exact absurd hf (by decide)
    · rfl
  have hsl := (signAt_le l j).1
  have hdl := (digitsF_le l (signAt l j)).1
  have hpos := digitsF_pos hd
  have hlt := lt_of_dgB hd
  rw [slice_app l hsl hdl]
  have hD : ∀ c ∈ sliceF l (signAt l j) (digitsF l (signAt l j)), 48 ≤ c ∧ c ≤ 57 := fun c hc => by
    obtain ⟨k, h1, h2, rfl⟩ := slice_mem hc
    have := digitsGo_mem l _ _ k h1 h2
    unfold dgB digitB at this
    exact decide_eq_true_iff.1 this
  have hD0 : sliceF l (signAt l j) (digitsF l (signAt l j)) ≠ [] := fun h => by
    have h1 : (sliceF l (signAt l j) (digitsF l (signAt l j))).length = 0 := by rw [h]; rfl
    unfold sliceF at h1
    rw [List.length_take, List.length_drop] at h1
    omega
  have hS : sliceF l j (signAt l j) = [] ∨ sliceF l j (signAt l j) = [43] ∨ sliceF l j (signAt l j) = [45] := by
    by_cases hs : (isB l j 43 || isB l j 45) = true
    · have e : signAt l j = j + 1 := by unfold signAt; rw [if_pos hs]
      rw [e] at hlt ⊢
      rw [slice_one l (by omega)]
      rw [Bool.or_eq_true] at hs
      rcases hs with h | h
      · rw [isB_iff.1 h]; exact .inr (.inl rfl)
      · rw [isB_iff.1 h]; exact .inr (.inr rfl)
    · have e : signAt l j = j := by unfold signAt; rw [if_neg hs]
      rw [e]
      left
      unfold sliceF
      rw [Nat.sub_self]; rfl
  rw [asc_bytes]
  · exact numB_of hS hD hD0
  · intro c hc
    rcases List.mem_append.1 hc with hc | hc
    · rcases hS with h | h | h
      all_goals
        rw [h] at hc
        simp at hc
        try omega
    · have := hD c hc; omega
theorem signKind_ne (c : Int) : signKind c ≠ 10 ∧ signKind c ≠ 12 := by
  unfold signKind
  repeat' split
  all_goals decide
theorem tokAt_good (l : List Int) (k : Nat) : GoodT (tokAt l k) := by
  have no : ∀ t : Tk, t.kind ≠ 10 → t.kind ≠ 12 → GoodT t := fun t h1 h2 h => by rcases h with h | h <;> contradiction
  have hq : GoodT (quotedF l k) := by
    have h : (quotedF l k).kind = 5 ∨ (quotedF l k).kind = 6 := quotedGo_kind l _ _ _ _ _
    exact no _ (by omega) (by omega)
  have hu : ∀ f i, GoodT (urlF l f i) := fun f i => by
    have h : (urlF l f i).kind = 7 ∨ (urlF l f i).kind = 8 := urlGo_kind l _ _ _ _
    exact no _ (by omega) (by omega)
  have hcal : GoodT (calledF l k) := by
    unfold calledF
    repeat' split
    all_goals first | exact hu _ _ | exact no _ (by show (1 : Int) ≠ 10; decide) (by show (1 : Int) ≠ 12; decide) | exact no _ (by show (2 : Int) ≠ 10; decide) (by show (2 : Int) ≠ 12; decide)
  unfold tokAt
  split
  · exact no _ (by show (0 : Int) ≠ 10; decide) (by show (0 : Int) ≠ 12; decide)
  split
  · exact no _ (by show (13 : Int) ≠ 10; decide) (by show (13 : Int) ≠ 12; decide)
  split
  · exact hq
  split
  · rename_i hn
    intro _ hw
    unfold numericF at hw ⊢
    split
    · rename_i h1; rw [if_pos h1] at hw; exact numeric_good hn hw
    · rename_i h1
      rw [if_neg h1] at hw
      split
      · rename_i h2; rw [if_pos h2] at hw; exact numeric_good hn hw
      · rename_i h2; rw [if_neg h2] at hw; exact numeric_good hn hw
  split
  · exact no _ (by show (15 : Int) ≠ 10; decide) (by show (15 : Int) ≠ 12; decide)
  split
  · exact hcal
  split
  · exact no _ (by show (14 : Int) ≠ 10; decide) (by show (14 : Int) ≠ 12; decide)
  split
  · exact no _ (by show (3 : Int) ≠ 10; decide) (by show (3 : Int) ≠ 12; decide)
  split
  · exact no _ (by show (4 : Int) ≠ 10; decide) (by show (4 : Int) ≠ 12; decide)
  split
  · exact no _ (by show (9 : Int) ≠ 10; decide) (by show (9 : Int) ≠ 12; decide)
  · exact no _ (signKind_ne _).1 (signKind_ne _).2
theorem noTk_good : GoodT noTk := fun h => by rcases h with h | h <;> exact absurd h (by decide)
theorem toks_good (zs : List Int) (k : Nat) : GoodT (tkAt (toksF zs) k) := by
  unfold tkAt
  rcases h : (toksF zs)[k]? with _ | t
  · exact noTk_good
  · obtain ⟨j, e⟩ := mem_toks zs t (List.mem_of_getElem? h)
    show GoodT t
    rw [e]; exact tokAt_good _ _
theorem toks_short (zs : List Int) (h : zs.length ≤ 100000) (k : Nat) : (strOfNums (tkAt (toksF zs) k).text).size ≤ 900000 ∧ (strOfNums (tkAt (toksF zs) k).num).size ≤ 900000 := by
  rw [strOfNums_size, strOfNums_size]
  unfold tkAt
  rcases hk : (toksF zs)[k]? with _ | t
  · exact ⟨Nat.zero_le _, Nat.zero_le _⟩
  · obtain ⟨j, e⟩ := mem_toks zs t (List.mem_of_getElem? hk)
    have h1 := tokAt_len (prepF (charsF zs)) j
    have h2 : (prepF (charsF zs)).length ≤ (charsF zs).length := prepTo_len _ _
    have h3 := chars_len zs
    show t.text.length ≤ 900000 ∧ t.num.length ≤ 900000
    rw [e]
    exact ⟨Nat.le_trans h1.1 (by omega), Nat.le_trans h1.2 (by omega)⟩
end

section
open Go.RowKit Go.Shelf
set_option linter.unusedVariables false
set_option linter.unusedSimpArgs false

theorem first_byte (s : ByteArray) (h : 0 < s.size) (c : UInt8) : ((((s[0]'h).toNat : Nat) : Int) == (c.toNat : Int)) = firstB s c := by
  rw [first_of s h, Bool.eq_iff_iff, beq_iff_eq, decide_eq_true_iff]
  constructor
  · intro hh
    apply UInt8.toNat_inj.1
    omega
  · intro hh; rw [hh]

set_option maxRecDepth 100000 in
set_option maxHeartbeats 1000000 in
theorem rskip_any (ts : List Tk) (n cap : Nat) (a : Option Addr) (i : Int) (k : Nat) (w : World) (h : ReadsT w a cap ts) (hn : ts.length = n) (_hsm : n ≤ 1000000) (hi : i = (k : Int)) (hk : k ≤ n) :
    Calls Tryz.prog 56 #[.slice a n cap, .int .i64 i] w (Tells (.int .i64 (blF ts k : Nat)) w) := by
  subst hi
  have hcap := h.1
  have hcap2 := h.2.1
  have hcap3 : cap ≤ 9223372036854775807 := hcap2
  obtain ⟨b, rfl, hc⟩ := h.at
  generalize hR : blF ts k = R
  unfold blF at hR
  rw [hn] at hR hcap
  have HR := Lib.hid hR; clear hR
  have HN := Lib.hid hn; clear hn h hcap2
  have hend : ∀ j, n ≤ j → ∀ f, blGo f ts j = j := fun j hj f => by
    cases f with
    | zero => rfl
    | succ f =>
      rw [blGo, if_neg]
      unfold tkAt
      rw [List.getElem?_eq_none (by rw [HN.out]; exact hj)]
      decide
  have HE := Lib.hid hend; clear hend
  have HC := Lib.hid hc; clear hc
  go_enter Tryz.func56, Tryz.ntmps56
  go_wp2_with fail
  go_loopw [1] (fun v wr => ∃ (f j : Nat), v = .int .i64 j ∧ Hid (blGo f ts j = R) ∧ n < j + f ∧ j ≤ n ∧ wr = w) (fun v _ => n - (intOf v).toNat)
  case atStart => exact ⟨n + 1, k, rfl, HR, by omega, hk, rfl⟩
  case round =>
    obtain ⟨f, j, rfl, hG, hf, hj, rfl⟩ := hrel
    by_cases hjn : j < n
    · have hjn' : (j : Int) < (n : Int) := by omega
      have c0 : wr.cell? ⟨b, j * 6, none⟩ = some (.int .i64 (tkAt ts j).kind) := HC.out j (by rw [HN.out]; exact hjn) 0 _ rfl
      obtain ⟨f, rfl⟩ : ∃ g, f = g + 1 := ⟨f - 1, by omega⟩
      by_cases h13 : (tkAt ts j).kind = 13
      · have hG2 : Hid (blGo f ts (j + 1) = R) := Lib.hid (by rw [← hG.out]; conv => rhs; rw [blGo, if_pos h13])
        rw [h13] at c0
        clear hG h13
        go_wp2
        go_roundw
        case rel => exact ⟨f, j + 1, by go_num, hG2, by omega, by omega, by first | rfl | trivial⟩
        case measure => simp [intOf]; omega
      · have hE : R = j := by rw [← hG.out, blGo, if_neg h13]
        have n13 : ((tkAt ts j).kind == 13) = false := beq_eq_false_iff_ne.2 h13
        clear hG h13
        generalize (tkAt ts j).kind = q at *
        go_wp2
        go_ret
        exact ⟨by rw [hE]; rfl, rfl⟩
    · have hE : R = j := by rw [← hG.out]; exact HE.out j (by omega) f
      have hjn' : ¬ (j : Int) < (n : Int) := by omega
      clear hG
      go_wp2
      go_ret
      exact ⟨by first | rfl | (rw [hE]; rfl), rfl⟩

/-- A whole number at a place, with a sign or without. -/
def numD (ts : List Tk) (k : Nat) (sg : Bool) : Bool := decide (k < ts.length) && wholeT (tkAt ts k) 10 && (signedB (nmT (tkAt ts k)) == sg)
theorem numB_pos {s : ByteArray} (h : numB s = true) : 0 < s.size := by
  unfold numB at h
  split at h
  · rename_i h1; have := signedB_pos h1; omega
  · rw [Bool.and_eq_true, decide_eq_true_iff] at h; exact h.2
set_option maxRecDepth 100000 in
set_option maxHeartbeats 1000000 in
theorem rnumber_any (ts : List Tk) (n cap : Nat) (a : Option Addr) (i : Int) (k : Nat) (sg : Bool) (w : World) (h : ReadsT w a cap ts) (hn : ts.length = n) (_hsm : n ≤ 1000000) (hi : i = (k : Int)) (hg : GoodT (tkAt ts k)) :
    Calls Tryz.prog 59 #[.slice a n cap, .int .i64 i, .bool sg] w (Tells (.bool (numD ts k sg)) w) := by
  subst hi
  have hcap := h.1
  have hcap3 : cap ≤ 9223372036854775807 := h.2.1
  rw [hn] at hcap
  unfold numD
  rw [hn]
  by_cases hkn : k < n
  · rw [decide_eq_true hkn, Bool.true_and]
    have hkn' : (k : Int) < (n : Int) := by omega
    have hkn2 : ¬ (n : Int) ≤ (k : Int) := by omega
    obtain ⟨b, rfl, hc⟩ := h.at
    have c0 : w.cell? ⟨b, k * 6, none⟩ = some (.int .i64 (tkAt ts k).kind) := hc k (by rw [hn]; exact hkn) 0 _ rfl
    have c4 := hc k (by rw [hn]; exact hkn) 4 _ rfl
    have c5 := hc k (by rw [hn]; exact hkn) 5 _ rfl
    clear hc h hn hkn
    unfold wholeT nmT
    unfold GoodT at hg
    generalize tkAt ts k = t at *
    obtain ⟨kd, fr, to_, tx, nm, wh⟩ := t
    dsimp only at hg c0 c4 c5 ⊢
    by_cases h10 : kd = 10
    · subst h10
      rw [decide_eq_true rfl, Bool.true_and]
      rcases wh with _ | _
      · go_enter Tryz.func59, Tryz.ntmps59
        go_wp2
        go_ret
        exact ⟨rfl, rfl⟩
      · have hnum := hg (.inl rfl) rfl
        have hpos := numB_pos hnum
        rw [hnum]
        generalize strOfNums nm = S at *
        have hpos' : (0 : Int) < (S.size : Int) := by omega
        have hE : S.toList.isEmpty = false := by rw [empty_str, decide_eq_false (by omega)]
        have f43 := first_byte S hpos 43
        have f45 := first_byte S hpos 45
        rw [show (((43 : UInt8).toNat : Nat) : Int) = 43 from rfl] at f43
        rw [show (((45 : UInt8).toNat : Nat) : Int) = 45 from rfl] at f45
        unfold signedB
        clear hg hnum
        generalize firstB S 43 = r1 at *
        generalize firstB S 45 = r2 at *
        cases r1 <;> cases r2
        all_goals
          go_enter Tryz.func59, Tryz.ntmps59
          go_wp2
          go_ret
          exact ⟨by cases sg <;> rfl, rfl⟩
    · have q1 : (kd == 10) = false := beq_eq_false_iff_ne.2 h10
      have q2 : (kd != 10) = true := by rw [bne, q1]; rfl
      rw [decide_eq_false h10]
      clear h10 hg
      go_enter Tryz.func59, Tryz.ntmps59
      go_wp2
      go_ret
      exact ⟨rfl, rfl⟩
  · rw [decide_eq_false hkn]
    have hkn2 : (n : Int) ≤ (k : Int) := by omega
    go_enter Tryz.func59, Tryz.ntmps59
    go_wp2
    go_ret
    exact ⟨rfl, rfl⟩

def digsB (s : ByteArray) : Bool := bytesAll s && decide (0 < s.size)
set_option maxRecDepth 100000 in
set_option maxHeartbeats 1000000 in
theorem rdigsA_any (s : ByteArray) (w : World) (hs : s.size ≤ 1000000) : Calls Tryz.prog 60 #[.string s] w (Tells (.bool (digsB s)) w) := by
  have hcs : ∀ (j : Nat) (h : j < s.size), (strB s)[j]? = some (s[j]'h) := fun j h => by
    unfold strB
    rw [Array.getElem?_toList, Array.getElem?_eq_getElem (by exact h)]; rfl
  have hszl : (strB s).length = s.size := strB_len _
  have HBA : Hid (bytesAll s = (strB s).all fun b => digitB b.toNat) := Lib.hid rfl
  have HCS := Lib.hid hcs
  have HSZ := Lib.hid hszl
  clear hcs hszl
  go_enter Tryz.func60, Tryz.ntmps60
  go_wp2_with fail
  go_loopw [3] (fun i wr => ∃ k : Nat, k ≤ s.size ∧ i = .int .i64 k ∧ Hid (((strB s).take k).all (fun b => digitB b.toNat) = true) ∧ wr = w) (fun i _ => s.size - (intOf i).toNat)
  case atStart => exact ⟨0, by omega, rfl, Lib.hid rfl, rfl⟩
  case round =>
    obtain ⟨k, hk, rfl, hall, rfl⟩ := hrel
    by_cases hlt : k < s.size
    · have hb := HCS.out k hlt
      have hbl := (s[k]'hlt).toNat_lt
      have hlt' : (k : Int) < (s.size : Int) := by omega
      have hd := fun w => rdigit_any (((s[k]'hlt).toNat : Nat) : Int) w ⟨by omega, by omega⟩
      have hw : wrap64 (((s[k]'hlt).toNat : Nat) : Int) = (s[k]'hlt).toNat := by unfold wrap64; omega
      have htk : (strB s).take (k + 1) = (strB s).take k ++ [s[k]'hlt] := by rw [List.take_add_one, hb]; rfl
      have hd1 : ((strB s).take (k + 1)).all (fun b => digitB b.toNat) = digitB (s[k]'hlt).toNat := by rw [htk, List.all_append, hall.out]; simp
      have HD := Lib.hid hd1; clear hd1
      have hfls : digitB (((s[k]'hlt).toNat : Nat) : Int) = false → bytesAll s = false := fun h => by
        rw [HBA.out, List.all_eq_false]
        exact ⟨s[k]'hlt, List.mem_of_getElem? hb, by rw [h]; decide⟩
      have HF := Lib.hid hfls; clear hfls htk hall HBA hb
      generalize digitB (((s[k]'hlt).toNat : Nat) : Int) = r at *
      cases r
      · have hN : digsB s = false := by unfold digsB; rw [HF.out rfl]; rfl
        go_wp2_with (go_at_call 61; refine (hd _).mono ?_; rintro e wq ⟨rfl, hwq⟩; replace hwq := hwq.symm; subst hwq)
        go_ret
        exact ⟨by rw [hN]; rfl, rfl⟩
      · go_wp2_with (go_at_call 61; refine (hd _).mono ?_; rintro e wq ⟨rfl, hwq⟩; replace hwq := hwq.symm; subst hwq)
        go_roundw
        case rel => exact ⟨k + 1, by omega, by go_num, HD, by first | rfl | trivial⟩
        case measure => simp [intOf]; omega
    · have hke : k = s.size := by omega
      have hA : bytesAll s = true := by rw [HBA.out, ← hall.out, hke, ← HSZ.out, List.take_length]
      have hN : digsB s = decide (0 < s.size) := by unfold digsB; rw [hA]; rfl
      subst hke
      clear hall HBA hA
      go_wp2
      go_ret
      exact ⟨by rw [hN]; first | rfl | (congr 2; exact decide_eq_decide.2 (by omega)), rfl⟩
end
end Go.Proofs.YtickcbmfboajiaaGreatDoor
