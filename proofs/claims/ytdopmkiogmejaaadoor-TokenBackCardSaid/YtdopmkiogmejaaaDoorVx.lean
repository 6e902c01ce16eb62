/- Conditions on values: what joins, what is shortest, what implies what: mathematics alone. -/
import Derived.Test.YtdopmkiogmejaaaDoorVw
namespace Go.Proofs.YtdopmkiogmejaaaDoor
open Go.RowKit

theorem lowB_45 : lowB 45 = 45 := by decide
theorem lowB_32 : lowB 32 = 32 := by decide
theorem lowB_9 : lowB 9 = 9 := by decide
/-- A text as a condition looks at it. -/
def nF (fold : Bool) (x : List UInt8) : List UInt8 := if fold = true then x.map lowB else x
theorem nF_append (fold : Bool) (x y : List UInt8) : nF fold (x ++ y) = nF fold x ++ nF fold y := by cases fold <;> simp [nF]
theorem nF_len (fold : Bool) (x : List UInt8) : (nF fold x).length = x.length := by cases fold <;> simp [nF]
theorem nF_nil (fold : Bool) : nF fold [] = [] := by cases fold <;> rfl
theorem nF_one (fold : Bool) (b : UInt8) (h : lowB b = b) : nF fold [b] = [b] := by cases fold <;> simp [nF, h]
theorem holdsF_n (op : Int) (t : List UInt8) (fold : Bool) (v : List UInt8) : holdsF op t fold v = holdsT op (nF fold t) (nF fold v) := by cases fold <;> rfl

theorem holdsT_1 (t v : List UInt8) : holdsT 1 t v = true := rfl
theorem holdsT_2 (t v : List UInt8) : holdsT 2 t v = decide (v = t) := rfl
theorem holdsT_3 (t v : List UInt8) : holdsT 3 t v = decide (t ∈ words v) := rfl
theorem holdsT_4 (t v : List UInt8) : holdsT 4 t v = decide (t = v ∨ (t ++ [45]) <+: v) := rfl
theorem holdsT_5 (t v : List UInt8) : holdsT 5 t v = decide (t ≠ [] ∧ t <+: v) := rfl
theorem holdsT_6 (t v : List UInt8) : holdsT 6 t v = decide (t ≠ [] ∧ t <:+ v) := rfl
theorem holdsT_7 (t v : List UInt8) : holdsT 7 t v = decide (t ≠ [] ∧ t <:+: v) := rfl
theorem holdsT_cases {op : Int} {t v : List UInt8} (h : holdsT op t v = true) : op = 1 ∨ op = 2 ∨ op = 3 ∨ op = 4 ∨ op = 5 ∨ op = 6 ∨ op = 7 := by
  unfold holdsT at h
  by_cases h1 : op = 1
  · exact .inl h1
  by_cases h2 : op = 2
  · exact .inr (.inl h2)
  by_cases h3 : op = 3
  · exact .inr (.inr (.inl h3))
  by_cases h4 : op = 4
  · exact .inr (.inr (.inr (.inl h4)))
  by_cases h5 : op = 5
  · exact .inr (.inr (.inr (.inr (.inl h5))))
  by_cases h6 : op = 6
  · exact .inr (.inr (.inr (.inr (.inr (.inl h6)))))
  by_cases h7 : op = 7
  · exact .inr (.inr (.inr (.inr (.inr (.inr h7)))))
  · simp [h1, h2, h3, h4, h5, h6, h7] at h
theorem infix_of (t v : List UInt8) (p q : List UInt8) (h : t <:+: v) : t <:+: p ++ v ++ q := by
  obtain ⟨a, b, rfl⟩ := h
  exact ⟨p ++ a, b ++ q, by simp⟩

/-- The law ValueJoined. -/
theorem joined_7 (t v a b : List UInt8) (fold : Bool) (h : holdsF 7 t fold v = true) : holdsF 7 t fold (a ++ v ++ b) = true := by
  rw [holdsF_n, holdsT_7, decide_eq_true_eq] at h ⊢
  rw [nF_append, nF_append]
  exact ⟨h.1, infix_of _ _ _ _ h.2⟩
theorem joined_5 (t v b : List UInt8) (fold : Bool) (h : holdsF 5 t fold v = true) : holdsF 5 t fold (v ++ b) = true := by
  rw [holdsF_n, holdsT_5, decide_eq_true_eq] at h ⊢
  rw [nF_append]
  exact ⟨h.1, h.2.trans (List.prefix_append _ _)⟩
theorem joined_6 (t v a : List UInt8) (fold : Bool) (h : holdsF 6 t fold v = true) : holdsF 6 t fold (a ++ v) = true := by
  rw [holdsF_n, holdsT_6, decide_eq_true_eq] at h ⊢
  rw [nF_append]
  exact ⟨h.1, h.2.trans (List.suffix_append _ _)⟩
theorem joined_3 (t v a b : List UInt8) (fold : Bool) (h : holdsF 3 t fold v = true) : holdsF 3 t fold (a ++ [32] ++ v ++ [9] ++ b) = true := by
  rw [holdsF_n, holdsT_3, decide_eq_true_eq] at h ⊢
  rw [nF_append, nF_append, nF_append, nF_append, nF_one _ _ lowB_32, nF_one _ _ lowB_9]
  rw [show nF fold a ++ [32] ++ nF fold v ++ [9] ++ nF fold b = nF fold a ++ 32 :: (nF fold v ++ 9 :: nF fold b) by simp]
  rw [words_blank _ _ 32 (by decide), words_blank _ _ 9 (by decide)]
  simp [h]
theorem joined_4 (t v b : List UInt8) (fold : Bool) (h : holdsF 4 t fold v = true) : holdsF 4 t fold (v ++ [45] ++ b) = true := by
  rw [holdsF_n, holdsT_4, decide_eq_true_eq] at h ⊢
  rw [nF_append, nF_append, nF_one _ _ lowB_45]
  right
  rcases h with h | h
  · rw [h]; exact List.prefix_append _ _
  · rw [List.append_assoc]; exact h.trans (List.prefix_append _ _)

/-- What holds of any value holds of its own text. -/
theorem holdsT_self {op : Int} {t v : List UInt8} (h : holdsT op t v = true) : holdsT op t t = true := by
  rcases holdsT_cases h with rfl | rfl | rfl | rfl | rfl | rfl | rfl
  · rfl
  · rw [holdsT_2]; simp
  · rw [holdsT_3, decide_eq_true_eq] at h ⊢
    obtain ⟨h1, _, h3⟩ := words_mem h
    rw [words_self h1 h3]; simp
  · rw [holdsT_4]; simp
  · rw [holdsT_5, decide_eq_true_eq] at h ⊢; exact ⟨h.1, List.prefix_refl _⟩
  · rw [holdsT_6, decide_eq_true_eq] at h ⊢; exact ⟨h.1, List.suffix_refl _⟩
  · rw [holdsT_7, decide_eq_true_eq] at h ⊢; exact ⟨h.1, List.infix_refl _⟩
theorem holdsF_self {op : Int} {t v : List UInt8} {fold : Bool} (h : holdsF op t fold v = true) : holdsF op t fold t = true := by
  rw [holdsF_n] at h ⊢; exact holdsT_self h
theorem never_not {op : Int} {t v : List UInt8} {fold : Bool} (h : holdsF op t fold v = true) : neverF op t fold = false := by
  unfold neverF; rw [holdsF_self h]; rfl
/-- By the document: conditions that always hold of some value. -/
theorem never_some (op : Int) (t : List UInt8) (fold : Bool) (h : op = 1 ∨ op = 2 ∨ op = 4) : neverF op t fold = false := by
  unfold neverF
  rw [holdsF_n]
  rcases h with rfl | rfl | rfl
  · rfl
  · rw [holdsT_2]; simp
  · rw [holdsT_4]; simp
theorem holdsF_len {op : Int} {t v : List UInt8} {fold : Bool} (h : holdsF op t fold v = true) (h1 : op ≠ 1) : t.length ≤ v.length := by
  rw [holdsF_n] at h
  rw [← nF_len fold t, ← nF_len fold v]
  rcases holdsT_cases h with rfl | rfl | rfl | rfl | rfl | rfl | rfl
  · exact absurd rfl h1
  · rw [holdsT_2, decide_eq_true_eq] at h; rw [h]; exact Nat.le_refl _
  · rw [holdsT_3, decide_eq_true_eq] at h
    obtain ⟨_, h2, _⟩ := words_mem h
    exact h2.length_le
  · rw [holdsT_4, decide_eq_true_eq] at h
    rcases h with h | h
    · rw [h]; exact Nat.le_refl _
    · have := h.length_le; rw [List.length_append] at this; omega
  · rw [holdsT_5, decide_eq_true_eq] at h; exact h.2.length_le
  · rw [holdsT_6, decide_eq_true_eq] at h; exact h.2.length_le
  · rw [holdsT_7, decide_eq_true_eq] at h; exact h.2.length_le

/-- Whether two texts are one, as a condition looks at them. -/
def oneF (fold : Bool) (t u : List UInt8) : Bool := decide (nF fold t = nF fold u)
/-- What implies what, as the program tells it. -/
def implF (op : Int) (t : List UInt8) (fold : Bool) (op' : Int) (t' : List UInt8) (fold' : Bool) : Bool :=
  if neverF op t fold = true ∨ op' = 1 then true
  else if fold = true ∧ fold' = false then false
  else if op = 4 ∧ op' = 4 then oneF fold' t t'
  else if op = 2 ∨ op = op' ∨ (op' = 7 ∧ (op = 3 ∨ op = 5 ∨ op = 6)) then holdsF op' t' fold' t
  else false
/-- What implies what, by the document's rule. -/
def rimplF (op : Int) (t : List UInt8) (fold : Bool) (op' : Int) (t' : List UInt8) (fold' : Bool) : Bool :=
  if neverF op t fold = true ∨ op' = 1 then true
  else if fold = true ∧ fold' = false then false
  else if op = 2 then holdsF op' t' fold' t
  else if op = op' ∧ (op = 3 ∨ op = 4) then oneF fold' t t'
  else if op = op' ∧ 5 ≤ op ∧ op ≤ 7 then holdsF op' t' fold' t
  else decide (op = 3 ∨ op = 5 ∨ op = 6) && (decide (op' = 7) && holdsF op' t' fold' t)
theorem nF_up {op : Int} {t v : List UInt8} {fold fold' : Bool} (hf : ¬ (fold = true ∧ fold' = false)) (h : holdsT op (nF fold t) (nF fold v) = true) : holdsT op (nF fold' t) (nF fold' v) = true := by
  cases fold <;> cases fold'
  · exact h
  · exact holdsT_map h
  · simp at hf
  · exact h
theorem never_out {op : Int} {t : List UInt8} {fold : Bool} (h : ¬ neverF op t fold = true) : holdsT op (nF fold t) (nF fold t) = true := by
  unfold neverF at h
  rw [holdsF_n] at h
  cases hh : holdsT op (nF fold t) (nF fold t)
  · rw [hh] at h; simp at h
  · rfl
theorem impl_same (op : Int) (t : List UInt8) (fold : Bool) (op' : Int) (t' : List UInt8) (fold' : Bool) : implF op t fold op' t' fold' = rimplF op t fold op' t' fold' := by
  unfold implF rimplF
  by_cases h1 : neverF op t fold = true ∨ op' = 1
  · rw [if_pos h1, if_pos h1]
  rw [if_neg h1, if_neg h1]
  by_cases h2 : fold = true ∧ fold' = false
  · rw [if_pos h2, if_pos h2]
  rw [if_neg h2, if_neg h2]
  obtain ⟨hn, hop1⟩ := not_or.1 h1
  have hs := never_out hn
  by_cases h3 : op = 2
  · subst h3
    rw [if_neg (by omega), if_pos (by omega), if_pos rfl]
  rw [if_neg h3]
  by_cases h4 : op = op'
  · subst h4
    rcases holdsT_cases hs with rfl | rfl | rfl | rfl | rfl | rfl | rfl
    · exact absurd rfl hop1
    · exact absurd rfl h3
    · rw [if_neg (by omega), if_pos (by omega), if_pos (by omega)]
      have hu := nF_up (fold' := fold') h2 hs
      rw [holdsT_3, decide_eq_true_eq] at hu
      obtain ⟨w1, _, w3⟩ := words_mem hu
      rw [holdsF_n, holdsT_3, words_self w1 w3]
      unfold oneF
      rw [Bool.eq_iff_iff, decide_eq_true_eq, decide_eq_true_eq, List.mem_singleton]
      exact ⟨fun e => e.symm, fun e => e.symm⟩
    · rw [if_pos (by omega), if_pos (by omega)]
    all_goals rw [if_neg (by omega), if_pos (by omega), if_neg (by omega), if_pos (by omega)]
  · rw [if_neg (show ¬ (op = 4 ∧ op' = 4) by omega), if_neg (show ¬ (op = op' ∧ (op = 3 ∨ op = 4)) from fun h => h4 h.1), if_neg (show ¬ (op = op' ∧ 5 ≤ op ∧ op ≤ 7) from fun h => h4 h.1)]
    by_cases h5 : op' = 7
    · by_cases h6 : op = 3 ∨ op = 5 ∨ op = 6
      · rw [if_pos (by omega)]; simp [h5, h6]
      · rw [if_neg (by omega)]; simp [h6]
    · rw [if_neg (by omega)]; simp [h5]
/-- Where the rule tells it, it is so. -/
theorem impl_sound {op : Int} {t : List UInt8} {fold : Bool} {op' : Int} {t' : List UInt8} {fold' : Bool} (h : implF op t fold op' t' fold' = true) {v : List UInt8} (hv : holdsF op t fold v = true) : holdsF op' t' fold' v = true := by
  unfold implF at h
  have hnn := never_not hv
  by_cases h1 : neverF op t fold = true ∨ op' = 1
  · rcases h1 with h1 | rfl
    · rw [hnn] at h1; cases h1
    · rw [holdsF_n]; rfl
  rw [if_neg h1] at h
  by_cases h2 : fold = true ∧ fold' = false
  · rw [if_pos h2] at h; cases h
  rw [if_neg h2] at h
  rw [holdsF_n] at hv ⊢
  have hu := nF_up (fold' := fold') h2 hv
  by_cases h3 : op = 4 ∧ op' = 4
  · obtain ⟨rfl, rfl⟩ := h3
    rw [if_pos ⟨rfl, rfl⟩] at h
    unfold oneF at h
    rw [decide_eq_true_eq] at h
    rw [← h]; exact hu
  rw [if_neg h3] at h
  by_cases h4 : op = 2 ∨ op = op' ∨ (op' = 7 ∧ (op = 3 ∨ op = 5 ∨ op = 6))
  · rw [if_pos h4, holdsF_n] at h
    rcases h4 with rfl | rfl | ⟨rfl, h4⟩
    · rw [holdsT_2, decide_eq_true_eq] at hu; rw [hu]; exact h
    · rcases holdsT_cases hu with rfl | rfl | rfl | rfl | rfl | rfl | rfl
      · rfl
      · rw [holdsT_2, decide_eq_true_eq] at hu; rw [hu]; exact h
      · rw [holdsT_3, decide_eq_true_eq] at hu h ⊢
        obtain ⟨w1, _, w3⟩ := words_mem hu
        rw [words_self w1 w3, List.mem_singleton] at h
        rw [h]; exact hu
      · exact absurd ⟨rfl, rfl⟩ h3
      · rw [holdsT_5, decide_eq_true_eq] at hu h ⊢; exact ⟨h.1, h.2.trans hu.2⟩
      · rw [holdsT_6, decide_eq_true_eq] at hu h ⊢; exact ⟨h.1, h.2.trans hu.2⟩
      · rw [holdsT_7, decide_eq_true_eq] at hu h ⊢; exact ⟨h.1, h.2.trans hu.2⟩
    · rw [holdsT_7, decide_eq_true_eq] at h ⊢
      refine ⟨h.1, h.2.trans ?_⟩
      rcases h4 with rfl | rfl | rfl
      · rw [holdsT_3, decide_eq_true_eq] at hu; exact (words_mem hu).2.1
      · rw [holdsT_5, decide_eq_true_eq] at hu; exact hu.2.isInfix
      · rw [holdsT_6, decide_eq_true_eq] at hu; exact hu.2.isInfix
  · rw [if_neg h4] at h; cases h

/-- Does a text stand at a place of another one? -/
def atB (v : List UInt8) (i : Nat) (t : List UInt8) : Bool := decide (i + t.length ≤ v.length) && decide ((v.drop i).take t.length = t)
theorem atB_iff (v : List UInt8) (i : Nat) (t : List UInt8) (hi : i ≤ v.length) : atB v i t = true ↔ t <+: v.drop i := by
  unfold atB
  rw [Bool.and_eq_true, decide_eq_true_eq, decide_eq_true_eq]
  constructor
  · rintro ⟨_, h⟩
    rw [← h]; exact List.take_prefix _ _
  · intro h
    have hl := h.length_le
    rw [List.length_drop] at hl
    refine ⟨by omega, ?_⟩
    exact (List.prefix_iff_eq_take.1 h).symm
theorem at_begin (t v : List UInt8) (h0 : t ≠ []) : holdsT 5 t v = atB v 0 t := by
  rw [holdsT_5, Bool.eq_iff_iff, decide_eq_true_eq, atB_iff _ _ _ (Nat.zero_le _)]
  exact ⟨fun h => h.2, fun h => ⟨h0, h⟩⟩
theorem at_dash (t v : List UInt8) : holdsT 4 t v = (decide (t = v) || atB v 0 (t ++ [45])) := by
  rw [holdsT_4, Bool.eq_iff_iff, decide_eq_true_eq, Bool.or_eq_true, decide_eq_true_eq, atB_iff _ _ _ (Nat.zero_le _)]
  rfl
theorem at_end (t v : List UInt8) (h0 : t ≠ []) : holdsT 6 t v = (decide (t.length ≤ v.length) && atB v (v.length - t.length) t) := by
  rw [holdsT_6, Bool.eq_iff_iff, decide_eq_true_eq, Bool.and_eq_true, decide_eq_true_eq, atB_iff _ _ _ (by omega)]
  constructor
  · rintro ⟨_, h⟩
    have e := List.suffix_iff_eq_drop.1 h
    exact ⟨h.length_le, by rw [← e]; exact List.prefix_refl _⟩
  · rintro ⟨hl, h⟩
    refine ⟨h0, ?_⟩
    have e : t = v.drop (v.length - t.length) := h.eq_of_length (by rw [List.length_drop]; omega)
    exact List.suffix_iff_eq_drop.2 e
/-- Whether a text stands at one of the first k places. -/
def someAt (v t : List UInt8) (k : Nat) : Bool := (List.range k).any fun i => atB v i t
theorem someAt_succ (v t : List UInt8) (k : Nat) : someAt v t (k + 1) = (someAt v t k || atB v k t) := by unfold someAt; rw [List.range_succ, List.any_append]; simp
theorem at_part (t v : List UInt8) (h0 : t ≠ []) : holdsT 7 t v = someAt v t v.length := by
  rw [holdsT_7, Bool.eq_iff_iff, decide_eq_true_eq]
  unfold someAt
  rw [List.any_eq_true]
  constructor
  · rintro ⟨_, a, b, rfl⟩
    have hl : 0 < t.length := List.length_pos_iff.2 h0
    refine ⟨a.length, by rw [List.mem_range]; simp <;> omega, ?_⟩
    rw [atB_iff _ _ _ (by simp)]
    rw [List.append_assoc, List.drop_left]
    exact List.prefix_append _ _
  · rintro ⟨i, hi, h⟩
    rw [List.mem_range] at hi
    rw [atB_iff _ _ _ (by omega)] at h
    exact ⟨h0, h.isInfix.trans (List.drop_suffix _ _).isInfix⟩
theorem at_word (t v : List UInt8) (hb : t.any blankB = true ∨ t = []) : holdsT 3 t v = false := by
  rw [holdsT_3, decide_eq_false_iff_not]
  intro h
  obtain ⟨h1, _, h3⟩ := words_mem h
  rcases hb with hb | hb
  · rw [List.any_eq_true] at hb
    obtain ⟨b, h5, h6⟩ := hb
    rw [h3 b h5] at h6; cases h6
  · exact h1 hb
end Go.Proofs.YtdopmkiogmejaaaDoor
