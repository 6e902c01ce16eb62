/- DecodeSizes: plain facts and the law's walk. -/
import Derived.Test.YtmcboiopglpbkaaBack2
namespace Go.Proofs.Ytmcboiopglpbkaa
open Go.RowKit

theorem rawF_len : ∀ (n : Nat) (ys : List Int), ys.length ≤ n → (rawF ys).length ≤ ys.length
  | 0, ys, h => by rw [List.length_eq_zero_iff.1 (Nat.le_zero.1 h)]; simp [rawF_nil]
  | n + 1, ys, h => by
    by_cases h0 : ys = []
    · subst h0; simp [rawF_nil]
    · have hs := size_pos ys h0
      have hl := List.length_pos_iff.2 h0
      rw [rawF_step ys h0, List.length_cons]
      have := rawF_len n (ys.drop (sizeF ys)) (by rw [List.length_drop]; omega)
      rw [List.length_drop] at this
      omega
theorem dropMark_sub (l : List Int) : (dropMark l).length ≤ l.length ∧ ∀ z ∈ dropMark l, z ∈ l := by
  match l with
  | [] => exact ⟨Nat.le_refl _, fun z hz => hz⟩
  | c :: r =>
    by_cases h : c = 65279
    · rw [dropMark, if_pos h]; exact ⟨by simp, fun z hz => by simp [hz]⟩
    · rw [dropMark, if_neg h]; exact ⟨Nat.le_refl _, fun z hz => hz⟩
theorem charsF_len (ys : List Int) : (charsF ys).length ≤ ys.length := by
  rw [charsF_raw]
  exact Nat.le_trans (dropMark_sub _).1 (rawF_len _ ys (Nat.le_refl _))

/-- Bytes that are their own characters. -/
theorem rawF_plain : ∀ (ys : List Int), (∀ z ∈ ys, 0 ≤ z ∧ z < 128) → rawF ys = ys
  | [], _ => rfl
  | c :: ys, h => by
    have hc := h c (by simp)
    have e : readF (c :: ys) = (c, 1, true) := by unfold readF; dsimp only; rw [show (c :: ys)[0]?.getD 0 = c from rfl, if_pos hc.2]
    rw [rawF_step _ (by simp), show charF (c :: ys) = c from by unfold charF; rw [e]; rfl, show sizeF (c :: ys) = 1 from by unfold sizeF; rw [e]]
    rw [show (c :: ys).drop 1 = ys from rfl, rawF_plain ys (fun z hz => h z (by simp [hz]))]
theorem charsF_plain (ys : List Int) (h : ∀ z ∈ ys, 0 ≤ z ∧ z < 128) : charsF ys = ys := by
  rw [charsF_raw, rawF_plain ys h]
  cases ys with
  | nil => rfl
  | cons c r => rw [dropMark, if_neg]; have := h c (by simp); omega

theorem right_all : ∀ (n : Nat) (ys : List Int) (k : Nat), ys.length - k ≤ n → (∃ cs : List Int, (∀ c ∈ cs, rightB c = true ∧ c ≠ 0) ∧ ys.drop k = cs.flatMap putF) → rightFrom ys k = true
  | n, ys, k, h, ⟨cs, hcs, he⟩ => by
    match cs, hcs, he with
    | [], _, he =>
      exact rightFrom_end ys k (by have := congrArg List.length he; rw [List.length_drop] at this; simp at this; omega)
    | c :: cs, hcs, he =>
      have hc := hcs c (by simp)
      have hp := putF_pos c
      rw [List.flatMap_cons] at he
      have hlen := congrArg List.length he
      rw [List.length_drop, List.length_append] at hlen
      have hu : U8 (cs.flatMap putF) := fun z hm => by
        obtain ⟨d, hd, hd2⟩ := List.mem_flatMap.1 hm
        exact putF_u8 d (hcs d (by simp [hd])).1 z hd2
      obtain ⟨h1, h2, h3⟩ := read_put c hc.1 _ hu
      rw [← he] at h1 h2 h3
      have hr1 : (readF (ys.drop k)).1 = c := by unfold charF at h1; rw [if_pos h3] at h1; exact h1
      rw [rightFrom_step ys k (by omega), if_pos ⟨h3, by rw [hr1]; exact hc.2⟩, h2]
      match n, h with
      | 0, h => omega
      | n + 1, h =>
        refine right_all n ys _ (by omega) ⟨cs, fun d hd => hcs d (by simp [hd]), ?_⟩
        rw [← List.drop_drop, he]; simp
theorem right_text (ys : List Int) (h : ∀ z ∈ ys, rightB z = true ∧ z ≠ 0) : rightF (textF ys) = true := by
  refine right_all _ _ 0 (Nat.le_refl _) ⟨ys, h, ?_⟩
  rw [List.drop_zero]; unfold textF
  have : ∀ l : List Int, (∀ z ∈ l, rightB z = true ∧ z ≠ 0) → l.flatMap (fun c => putF (charOf c)) = l.flatMap putF := by
    intro l
    induction l with
    | nil => intro _; rfl
    | cons z l ih =>
      intro hl
      rw [List.flatMap_cons, List.flatMap_cons, ih (fun d hd => hl d (by simp [hd]))]
      congr 2
      unfold charOf; rw [if_pos (hl z (by simp)).1]
  exact this ys h
theorem right_plain (ys : List Int) (h : ∀ z ∈ ys, 0 < z ∧ z < 128) : rightF ys = true := by
  refine right_all _ _ 0 (Nat.le_refl _) ⟨ys, fun z hz => ?_, ?_⟩
  · have := h z hz
    exact ⟨by unfold rightB; rw [decide_eq_true_iff]; omega, by omega⟩
  · rw [List.drop_zero]
    induction ys with
    | nil => rfl
    | cons z ys ih =>
      rw [List.flatMap_cons, ← ih (fun d hd => h d (by simp [hd]))]
      unfold putF; rw [if_pos (h z (by simp)).2]; rfl
theorem clean_text (zs : List Int) : rightF (textF (prepF zs)) = true :=
  right_text _ fun z hz => ⟨(prepF_clean zs z hz).2.2.2, (prepF_clean zs z hz).1⟩
theorem rawF_i64 : ∀ (n : Nat) (ys : List Int), ys.length ≤ n → U8 ys → I64 (rawF ys)
  | 0, ys, h, _ => by rw [List.length_eq_zero_iff.1 (Nat.le_zero.1 h)]; intro z hz; simp [rawF_nil] at hz
  | n + 1, ys, h, hu => by
    by_cases h0 : ys = []
    · subst h0; intro z hz; simp [rawF_nil] at hz
    · have hs := size_pos ys h0
      have hl := List.length_pos_iff.2 h0
      rw [rawF_step ys h0]
      intro z hz
      rcases List.mem_cons.1 hz with rfl | hz
      · have := charF_bd ys hu; omega
      · exact rawF_i64 n _ (by rw [List.length_drop]; omega) (hu.drop _) z hz
theorem charsF_i64 (ys : List Int) (hu : U8 ys) : I64 (charsF ys) := by
  rw [charsF_raw]
  exact fun z hz => rawF_i64 _ ys (Nat.le_refl _) hu z ((dropMark_sub _).2 z hz)
end Go.Proofs.Ytmcboiopglpbkaa
