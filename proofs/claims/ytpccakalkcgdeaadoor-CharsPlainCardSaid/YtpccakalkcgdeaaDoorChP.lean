/- What is written as a name or between marks holds no control byte; plain names stay (mathematics). -/
import Derived.Test.YtpccakalkcgdeaaDoorCh6
namespace Go.Proofs.YtpccakalkcgdeaaDoor
open Go.RowKit
set_option linter.unusedVariables false
set_option linter.unusedSimpArgs false

def PlainL (zs : List Int) : Prop := ∀ z ∈ zs, 32 ≤ z ∧ z ≠ 127
theorem PlainL.append {a b : List Int} (ha : PlainL a) (hb : PlainL b) : PlainL (a ++ b) := fun z hz => (List.mem_append.1 hz).elim (ha z) (hb z)
theorem putF_plain (c : Int) (h : 32 ≤ c) (h2 : c ≠ 127) (h3 : c < 1114112) : PlainL (putF c) := by
  unfold putF
  intro z hz
  (repeat' split at hz) <;> simp at hz <;> omega
theorem hexD_plain (d : Int) (h0 : 0 ≤ d) (h1 : d < 16) : 32 ≤ hexD d ∧ hexD d ≠ 127 := by unfold hexD; split <;> omega
theorem hexF_plain (c : Int) (h : Hexes c) : PlainL (hexF c) := by
  obtain ⟨h0, h1⟩ := h
  unfold hexF
  intro z hz
  split at hz
  · simp at hz; subst hz; exact hexD_plain _ (by omega) (by omega)
  split at hz
  · simp at hz
    rcases hz with rfl | rfl
    · exact hexD_plain _ (by omega) (by omega)
    · exact hexD_plain _ (by omega) (by omega)
  · simp at hz
    rcases hz with rfl | rfl | rfl | rfl <;> exact hexD_plain _ (by omega) (by omega)
theorem escF_plain (c : Int) (h : Hexes c) : PlainL (escF c) := by
  unfold escF
  exact (PlainL.append (fun z hz => by simp at hz; omega) (hexF_plain c h)).append (fun z hz => by simp at hz; omega)
theorem ctl_not {c : Int} (h : rightB c = true) (h0 : c ≠ 0) (hc : ¬ controlB c = true) : 32 ≤ c ∧ c ≠ 127 := by
  obtain ⟨g0, g1⟩ := right_ch h
  unfold controlB at hc
  rw [decide_eq_true_iff] at hc
  omega
theorem outI_plain (l : List Int) (i : Nat) (c : Int) (h : rightB c = true) : PlainL (outI l i c) := by
  have hr := right_ch h
  unfold outI
  split
  · exact putF_plain _ (by decide) (by decide) (by decide)
  rename_i h0
  split
  · rename_i h1
    simp only [Bool.or_eq_true, Bool.and_eq_true, decide_eq_true_iff] at h1
    rcases h1 with (h1 | rfl) | h1
    · exact escF_plain _ (ctl_hexes h1)
    · exact escF_plain _ ⟨by omega, by omega⟩
    · exact escF_plain _ (dig_hexes h1.1)
  rename_i h1
  have hc : ¬ controlB c = true := fun hc => h1 (by simp [hc])
  obtain ⟨g1, g2⟩ := ctl_not h h0 hc
  split
  · exact PlainL.append (a := [92]) (fun z hz => by simp at hz; omega) (putF_plain c g1 g2 hr.2)
  · exact putF_plain c g1 g2 hr.2
theorem outQ_plain (c : Int) (h : rightB c = true) : PlainL (outQ c) := by
  have hr := right_ch h
  unfold outQ
  split
  · exact putF_plain _ (by decide) (by decide) (by decide)
  rename_i h0
  split
  · rename_i h1; exact escF_plain _ (ctl_hexes h1)
  rename_i h1
  obtain ⟨g1, g2⟩ := ctl_not h h0 h1
  split
  · exact PlainL.append (a := [92]) (fun z hz => by simp at hz; omega) (putF_plain c g1 g2 hr.2)
  · exact putF_plain c g1 g2 hr.2
theorem identTo_plain (l : List Int) (h : ∀ c ∈ l, rightB c = true) : ∀ k, k ≤ l.length → PlainL (identTo l k)
  | 0, _ => fun z hz => by cases hz
  | k + 1, hk => by
    have hc : rightB (l[k]?.getD 0) = true := by rw [List.getElem?_eq_getElem (by omega)]; exact h _ (List.getElem_mem _)
    exact (identTo_plain l h k (by omega)).append (outI_plain l k _ hc)
theorem quoteTo_plain (l : List Int) (h : ∀ c ∈ l, rightB c = true) : ∀ k, k ≤ l.length → PlainL (quoteTo l k)
  | 0, _ => fun z hz => by simp [quoteTo] at hz; omega
  | k + 1, hk => by
    have hc : rightB (l[k]?.getD 0) = true := by rw [List.getElem?_eq_getElem (by omega)]; exact h _ (List.getElem_mem _)
    exact (quoteTo_plain l h k (by omega)).append (outQ_plain _ hc)
theorem identF_plain (l : List Int) (h : ∀ c ∈ l, rightB c = true) : PlainL (identF l) := identTo_plain l h _ (Nat.le_refl _)
theorem quoteF_plain (l : List Int) (h : ∀ c ∈ l, rightB c = true) : PlainL (quoteF l) :=
  (quoteTo_plain l h _ (Nat.le_refl _)).append (fun z hz => by simp at hz; omega)

/-- The bytes that a plain name is made of. -/
def nmTab : List Int := [97, 98, 122, 95, 45, 48, 57, 65, 90]
def PlainN (l : List Int) : Prop := ∃ m, l = 110 :: m ∧ ∀ c ∈ m, c ∈ nmTab
theorem nmTab_ok {c : Int} (h : c = 110 ∨ c ∈ nmTab) : rightB c = true ∧ putF c = [c] ∧ nameB c = true ∧ controlB c = false ∧ c ≠ 0 ∧ c ≠ 65279 ∧ c ≠ 34 ∧ c ≠ 92 ∧ 0 ≤ c ∧ c < 128 := by
  have : c ∈ (110 :: nmTab) := List.mem_cons.2 h
  simp only [nmTab, List.mem_cons, List.not_mem_nil, or_false] at this
  rcases this with rfl | rfl | rfl | rfl | rfl | rfl | rfl | rfl | rfl | rfl <;> decide
theorem PlainN.mem {l : List Int} (h : PlainN l) {c : Int} (hc : c ∈ l) : c = 110 ∨ c ∈ nmTab := by
  obtain ⟨m, rfl, hm⟩ := h
  exact (List.mem_cons.1 hc).imp id (hm c)
theorem rawF_plain {l : List Int} (h : PlainN l) : rawF l = l := by
  have h1 := rawF_all l (fun c hc => (nmTab_ok (h.mem hc)).1) [] (fun z hz => by cases hz)
  have h2 : l.flatMap putF = l := by
    have : ∀ m : List Int, (∀ c ∈ m, putF c = [c]) → m.flatMap putF = m := by
      intro m
      induction m with
      | nil => intro _; rfl
      | cons x m ih => intro hm; rw [List.flatMap_cons, hm x (List.mem_cons_self ..), ih (fun c hc => hm c (List.mem_cons_of_mem _ hc))]; rfl
    exact this l (fun c hc => (nmTab_ok (h.mem hc)).2.1)
  rw [h2, rawF_nil, List.append_nil] at h1
  exact h1
theorem outI_name {l : List Int} (h : PlainN l) (k : Nat) (hk : k < l.length) : outI l k (l[k]?.getD 0) = [l[k]?.getD 0] := by
  have hmem : (l[k]?.getD 0) ∈ l := by rw [List.getElem?_eq_getElem hk]; exact List.getElem_mem _
  have hok := nmTab_ok (h.mem hmem)
  have hfirst : (digitB (l[k]?.getD 0) && firstB l k) = false := by
    obtain ⟨m, rfl, hm⟩ := h
    cases k with
    | zero => rfl
    | succ k => unfold firstB; simp
  have hone : (decide ((l[k]?.getD 0) = 45) && decide (l.length = 1)) = false := by
    obtain ⟨m, rfl, hm⟩ := h
    cases k with
    | zero => rfl
    | succ k => rw [List.length_cons] at hk ⊢; simp; intro _ e; subst e; simp at hk
  obtain ⟨c, hc⟩ : ∃ c, l[k]?.getD 0 = c := ⟨_, rfl⟩
  rw [hc] at hok hfirst hone ⊢
  obtain ⟨_, h2, h3, h4, h5, h6, _⟩ := hok
  unfold outI
  rw [if_neg h5, if_neg (by rw [h4, hfirst]; simp [h6]), if_neg (by rw [h3, hone]; simp), h2]
theorem take_snoc {l : List Int} (k : Nat) (hk : k < l.length) : l.take (k + 1) = l.take k ++ [l[k]?.getD 0] := by
  rw [List.getElem?_eq_getElem hk]; simp
theorem identTo_name {l : List Int} (h : PlainN l) : ∀ k, k ≤ l.length → identTo l k = l.take k
  | 0, _ => by simp [identTo]
  | k + 1, hk => by
    show identTo l k ++ outI l k _ = _
    rw [identTo_name h k (by omega), outI_name h k (by omega), take_snoc k (by omega)]
theorem identF_name {l : List Int} (h : PlainN l) : identF l = l := by unfold identF; rw [identTo_name h _ (Nat.le_refl _), List.take_length]
theorem outQ_name {c : Int} (h : c = 110 ∨ c ∈ nmTab) : outQ c = [c] := by
  obtain ⟨_, h2, h3, h4, h5, h6, h7, h8, _⟩ := nmTab_ok h
  unfold outQ
  rw [if_neg h5, if_neg (by rw [h4]; simp), if_neg (by simp [h7, h8]), h2]
theorem quoteTo_name {l : List Int} (h : PlainN l) : ∀ k, k ≤ l.length → quoteTo l k = 34 :: l.take k
  | 0, _ => by simp [quoteTo]
  | k + 1, hk => by
    have hmem : (l[k]?.getD 0) ∈ l := by rw [List.getElem?_eq_getElem (by omega)]; exact List.getElem_mem _
    show quoteTo l k ++ outQ _ = _
    rw [quoteTo_name h k (by omega), outQ_name (h.mem hmem), take_snoc k (by omega)]; rfl
theorem quoteF_name {l : List Int} (h : PlainN l) : quoteF l = 34 :: l ++ [34] := by unfold quoteF; rw [quoteTo_name h _ (Nat.le_refl _), List.take_length]
end Go.Proofs.YtpccakalkcgdeaaDoor
