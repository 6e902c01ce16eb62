/- Tokens of plain characters (digits, n, signs, blanks): where they end; the document's walk at any place. -/
import Derived.Test.YticlkjkombgchaaGreatDoorR9b
import Derived.Test.YticlkjkombgchaaGreatDoorR9c
namespace Go.Proofs.YticlkjkombgchaaGreatDoor
open Go.RowKit

theorem digitsF_pos {l : List Int} {j : Nat} (h : dgB l j = true) : j < digitsF l j := by
  unfold digitsF
  rw [digitsGo, if_pos h]
  have := (digitsGo_le l l.length (j + 1)).1
  omega
theorem spacesGo_le (l : List Int) : ∀ (f j : Nat), j ≤ spacesGo f l j ∧ (j ≤ l.length → spacesGo f l j ≤ l.length)
  | 0, j => ⟨Nat.le_refl _, fun h => h⟩
  | f + 1, j => by
    rw [spacesGo]
    by_cases h : spB l j = true
    · rw [if_pos h]
      obtain ⟨h1, h2⟩ := spacesGo_le l f (j + 1)
      exact ⟨by omega, fun _ => h2 (lt_of_spB h)⟩
    · rw [if_neg h]; exact ⟨Nat.le_refl _, fun h => h⟩
theorem spacesF_pos {l : List Int} {j : Nat} (h : spB l j = true) : j < spacesF l j := by
  unfold spacesF
  rw [spacesGo, if_pos h]
  have := (spacesGo_le l l.length (j + 1)).1
  omega
theorem spacesF_le (l : List Int) (j : Nat) : j ≤ l.length → spacesF l j ≤ l.length := (spacesGo_le l _ j).2
theorem numberF_pos {l : List Int} {j : Nat} (h : numAt l j = true) : j < (numberF l j).1 := by
  have a1 := (signAt_le l j).1
  have a4 := (expoF_le l (fracF l (digitsF l (signAt l j)))).1
  show j < expoF l (fracF l (digitsF l (signAt l j)))
  have a3 := (fracF_le l (digitsF l (signAt l j))).1
  have a2 := (digitsF_le l (signAt l j)).1
  rcases hd : dgB l (signAt l j) with _ | _
  · have hf : fracAt l (signAt l j) = true := by unfold numAt at h; rw [hd] at h; simpa using h
    have e : digitsF l (signAt l j) = signAt l j := by unfold digitsF; exact digitsGo_stop _ hd
    have hp : signAt l j < fracF l (signAt l j) := by
      unfold fracF
      rw [if_pos hf]
      have := (digitsF_le l (signAt l j + 1)).1
      omega
    rw [e] at a4 ⊢
    omega
  · have := digitsF_pos hd
    omega
theorem stB_nmB {l : List Int} {j : Nat} (h : stB l j = true) : nmB l j = true := by
  unfold stB at h; unfold nmB nameB; rw [h]; rfl
theorem namesF_pos {l : List Int} {j : Nat} (h : (nmB l j || escB l j) = true) : j < (namesF l j).2 := by
  unfold namesF
  rw [namesGo]
  by_cases hn : nmB l j = true
  · rw [if_pos hn]
    have := (namesGo_le l l.length (j + 1) ([] ++ [chA l j])).1
    omega
  · have he : escB l j = true := by simpa [hn] using h
    rw [if_neg hn, if_pos he]
    have h1 := (valueF_bd (lt_of_escB he)).1
    have := (namesGo_le l l.length (valueF l j).2 ([] ++ [(valueF l j).1])).1
    omega
theorem nameAt_first {l : List Int} {j : Nat} (h : nameAt l j = true) : (nmB l j || escB l j) = true := by
  unfold nameAt at h
  by_cases h45 : isB l j 45 = true
  · have : nmB l j = true := by unfold nmB nameB; rw [isB_iff.1 h45]; decide
    rw [this]; rfl
  · rw [if_neg h45] at h
    rcases hs : stB l j with _ | _
    · rw [hs] at h; rw [show escB l j = true from by simpa using h]; simp
    · rw [stB_nmB hs]; rfl

/-- Digits, n, signs and blanks alone. -/
def PlainC (c : Int) : Bool := digitB c || spaceB c || decide (c = 110) || decide (c = 78) || decide (c = 43) || decide (c = 45)
def PlainL (l : List Int) : Prop := ∀ c ∈ l, PlainC c = true
theorem PlainL.pre {l : List Int} (h : PlainL l) : Pre l := fun c hc => by
  have := h c hc
  unfold PlainC digitB spaceB at this
  simp only [Bool.or_eq_true, decide_eq_true_eq] at this
  omega
theorem plain_not {l : List Int} (h : PlainL l) (j : Nat) (c : Int) (hc : c ≠ 0) (hn : PlainC c = false) : isB l j c = false := by
  rcases hq : isB l j c with _ | _
  · rfl
  · have hj := lt_of_isB hq hc
    have e := isB_iff.1 hq
    have hm : chA l j ∈ l := by unfold chA; rw [List.getElem?_eq_getElem hj]; exact List.getElem_mem hj
    have := h _ hm
    rw [e, hn] at this
    cases this
theorem plain_behind {l : List Int} (h : PlainL l) (j : Nat) : behindF l j = j :=
  behindGo_stop _ (by unfold openB; rw [plain_not h j 47 (by decide) (by decide)]; rfl)
theorem plain_esc {l : List Int} (h : PlainL l) (j : Nat) : escB l j = false := by unfold escB; rw [plain_not h j 92 (by decide) (by decide)]; rfl

/-- What stands at a place of plain characters. -/
theorem plain_cases {l : List Int} (h : PlainL l) (j : Nat) (hj : j < l.length) (hsp : spB l j = false) (hnu : numAt l j = false) (hna : nameAt l j = false) :
    (chA l j = 43) ∨ (chA l j = 45 ∧ isB l (j + 1) 45 = false) := by
  have hm : chA l j ∈ l := by unfold chA; rw [List.getElem?_eq_getElem hj]; exact List.getElem_mem hj
  have hp := h _ hm
  have hd : ¬ (isB l j 43 || isB l j 45) = true → dgB l j = false := fun hs => by
    unfold numAt signAt at hnu
    rw [if_neg hs] at hnu
    rw [Bool.or_eq_false_iff] at hnu
    exact hnu.1
  unfold nameAt at hna
  by_cases h45 : isB l j 45 = true
  · rw [if_pos h45] at hna
    rw [Bool.or_eq_false_iff, Bool.or_eq_false_iff] at hna
    exact .inr ⟨isB_iff.1 h45, hna.1.1⟩
  · rw [if_neg h45, Bool.or_eq_false_iff] at hna
    by_cases h43 : isB l j 43 = true
    · exact .inl (isB_iff.1 h43)
    · exfalso
      have hdd := hd (by simp [h43, h45])
      have hs := hna.1
      unfold dgB at hdd
      unfold stB startB at hs
      unfold spB at hsp
      unfold PlainC at hp
      rw [hdd, hsp] at hp
      simp only [Bool.false_or, Bool.or_eq_true, decide_eq_true_eq] at hp
      rcases hp with ((hp | hp) | hp) | hp
      · rw [hp] at hs; exact absurd hs (by decide)
      · rw [hp] at hs; exact absurd hs (by decide)
      · exact h43 (isB_iff.2 hp)
      · exact h45 (isB_iff.2 hp)

/-- The document's token at any place of plain characters. -/
theorem rnext_plain {b off n cap : Nat} {l : List Int} {w : World} (i : Int) (k : Nat) (h : Src w (some ⟨b, off, none⟩) n cap l) (hi : i = (k : Int)) (hk : k ≤ n) (hp : PlainL l) :
    Calls Tryz.prog 48 #[.slice (some ⟨b, off, none⟩) n cap, .int .i64 i] w (Told (tkV (nextF l k)) w) := by
  have hb := plain_behind hp k
  by_cases hkn : n ≤ k
  · exact rnext_end i k h hi hk k hb hkn
  · have hjn : k < n := by omega
    have n34 := plain_not hp k 34 (by decide) (by decide)
    have n39 := plain_not hp k 39 (by decide) (by decide)
    rcases hsp : spB l k with _ | _
    · rcases hnu : numAt l k with _ | _
      · rcases hna : nameAt l k with _ | _
        · have n60 := plain_not hp k 60 (by decide) (by decide)
          have n64 := plain_not hp k 64 (by decide) (by decide)
          have n35 := plain_not hp k 35 (by decide) (by decide)
          rcases plain_cases hp k (by rw [h.len]; exact hjn) hsp hnu hna with hc | ⟨hc, hd⟩
          · exact rnext_delim_no i k h hi hk k hb hjn hsp n34 n39 hnu (by unfold isB; rw [hc]; decide) hna n60 n64 n35 (by rw [hc]; decide)
          · exact rnext_delim_a i k h hi hk k hb hjn hsp n34 n39 hnu (isB_iff.2 hc) hd hna n60 n64 n35 (by rw [hc]; decide)
        · have hid := plain_not hp (namesF l k).2 40 (by decide) (by decide)
          rcases h45 : isB l k 45 with _ | _
          · exact rnext_name_no i k h hi hk k hb hjn hsp n34 n39 hnu h45 hna hid
          · rcases h46 : isB l (k + 1) 45 with _ | _
            · exact rnext_name_a i k h hi hk k hb hjn hsp n34 n39 hnu h45 h46 hna hid
            · exact rnext_name_b i k h hi hk k hb hjn hsp n34 n39 hnu h45 h46 (plain_not hp (k + 2) 62 (by decide) (by decide)) hna hid
      · exact rnext_num i k h hi hk k hb hjn hsp n34 n39 hnu
    · exact rnext_space i k h hi hk k hb hjn hsp

theorem plain_to {l : List Int} (hp : PlainL l) (k : Nat) (hk : k ≤ l.length) : ((nextF l k).kind = 0 → l.length ≤ k) ∧ ((nextF l k).kind ≠ 0 → k < (nextF l k).to ∧ (nextF l k).to ≤ l.length) := by
  unfold nextF
  rw [plain_behind hp k]
  unfold tokAt
  have n34 := plain_not hp k 34 (by decide) (by decide)
  have n39 := plain_not hp k 39 (by decide) (by decide)
  by_cases hjn : l.length ≤ k
  · rw [if_pos hjn]; exact ⟨fun _ => hjn, fun h => absurd rfl h⟩
  · rw [if_neg hjn]
    by_cases hsp : spB l k = true
    · rw [if_pos hsp]; exact ⟨fun h => by simp at h, fun _ => ⟨spacesF_pos hsp, spacesF_le l k hk⟩⟩
    · rw [if_neg hsp, if_neg (by rw [n34, n39]; decide)]
      have hsp' : spB l k = false := by simpa using hsp
      by_cases hnu : numAt l k = true
      · rw [if_pos hnu]
        have h1 := numberF_pos hnu
        have h2 := (numberF_le l k).2 hk
        unfold numericF
        by_cases hna : nameAt l (numberF l k).1 = true
        · rw [if_pos hna]
          obtain ⟨g1, g2⟩ := namesF_le l (numberF l k).1
          exact ⟨fun h => by simp at h, fun _ => ⟨by show k < (namesF l (numberF l k).1).2; omega, g2 h2⟩⟩
        · rw [if_neg hna]
          by_cases hpc : isB l (numberF l k).1 37 = true
          · rw [if_pos hpc]; exact ⟨fun h => by simp at h, fun _ => ⟨by show k < (numberF l k).1 + 1; omega, lt_of_isB hpc (by decide)⟩⟩
          · rw [if_neg hpc]; exact ⟨fun h => by simp at h, fun _ => ⟨h1, h2⟩⟩
      · have hnu' : numAt l k = false := by simpa using hnu
        rw [if_neg hnu, if_neg (by unfold cdcB; rw [plain_not hp (k + 2) 62 (by decide) (by decide)]; simp)]
        by_cases hna : nameAt l k = true
        · rw [if_pos hna]
          unfold calledF
          rw [plain_not hp (namesF l k).2 40 (by decide) (by decide), if_pos (by decide)]
          exact ⟨fun h => by simp at h, fun _ => ⟨namesF_pos (nameAt_first hna), (namesF_le l k).2 hk⟩⟩
        · have hna' : nameAt l k = false := by simpa using hna
          rw [if_neg hna, if_neg (by unfold cdoB; rw [plain_not hp k 60 (by decide) (by decide)]; simp), if_neg (by unfold atB; rw [plain_not hp k 64 (by decide) (by decide)]; simp), if_neg (by unfold hashB; rw [plain_not hp k 35 (by decide) (by decide)]; simp)]
          have hs : signKind (chA l k) = 9 := by
            rcases plain_cases hp k (by omega) hsp' hnu' hna' with hc | ⟨hc, _⟩ <;> rw [hc] <;> decide
          rw [if_pos hs]
          exact ⟨fun h => by simp at h, fun _ => ⟨by show k < k + 1; omega, by show k + 1 ≤ l.length; omega⟩⟩
end Go.Proofs.YticlkjkombgchaaGreatDoor
