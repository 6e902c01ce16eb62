/- DecodeJoins: plain facts and the law's walk. -/
import Derived.Test.YtmcboiopglpbkaaSizes
namespace Go.Proofs.Ytmcboiopglpbkaa
open Go.RowKit

/-- Right bytes are characters' bytes. -/
theorem right_list : ∀ (n : Nat) (ys : List Int) (k : Nat), ys.length - k ≤ n → U8 ys → rightFrom ys k = true → ∃ cs : List Int, (∀ c ∈ cs, rightB c = true) ∧ ys.drop k = cs.flatMap putF
  | n, ys, k, h, hu, hr => by
    by_cases hl : ys.length ≤ k
    · exact ⟨[], by simp, by rw [List.drop_eq_nil_of_le hl]; rfl⟩
    · rw [rightFrom_step ys k (by omega)] at hr
      by_cases hc : (readF (ys.drop k)).2.2 = true ∧ (readF (ys.drop k)).1 ≠ 0
      · rw [if_pos hc] at hr
        have hl1 : 1 ≤ (ys.drop k).length := by rw [List.length_drop]; omega
        obtain ⟨g1, g4, gl, g⟩ := read_spec (ys.drop k) (hu.drop k) hl1
        rcases g with ⟨_, gw, gc⟩ | ⟨go, _⟩
        · have hs : 1 ≤ sizeF (ys.drop k) := g1
          match n, h with
          | 0, h => omega
          | n + 1, h =>
            obtain ⟨cs, h1, h2⟩ := right_list n ys (k + sizeF (ys.drop k)) (by omega) hu hr
            unfold wholeF at gw
            rw [Bool.and_eq_true, decide_eq_true_iff, ← gc] at gw
            refine ⟨(readF (ys.drop k)).1 :: cs, fun c hm => ?_, ?_⟩
            · rcases List.mem_cons.1 hm with rfl | hm
              · exact gw.1
              · exact h1 c hm
            · rw [List.flatMap_cons, gw.2, ← h2, ← List.drop_drop]
              exact (List.take_append_drop _ _).symm
        · rw [hc.1] at go; cases go
      · rw [if_neg hc] at hr; cases hr

theorem joins (a b : List Int) (ha : U8 a) (hb : U8 b) (h0 : a ≠ []) (hr : rightF a = true) : charsF (a ++ b) = charsF a ++ (charsF (120 :: b)).drop 1 := by
  obtain ⟨cs, h1, h2⟩ := right_list _ a 0 (Nat.le_refl _) ha hr
  rw [List.drop_zero] at h2
  have hx : charsF (120 :: b) = 120 :: rawF b := by
    rw [charsF_raw, show (120 :: b) = putF 120 ++ b from rfl, rawF_put 120 (by decide) b hb, dropMark, if_neg (by omega)]
  have hrab : rawF (a ++ b) = cs ++ rawF b := by rw [h2]; exact rawF_all cs h1 b hb
  have hra : rawF a = cs := by
    have := rawF_all cs h1 [] (by intro z hz; simp at hz)
    rw [List.append_nil, rawF_nil, List.append_nil, ← h2] at this; exact this
  rw [hx, charsF_raw, charsF_raw, hrab, hra]
  match cs, h2 with
  | [], h2 => exact absurd h2 h0
  | c :: cs, _ =>
    rw [List.cons_append, dropMark, dropMark]
    split <;> rfl
end Go.Proofs.Ytmcboiopglpbkaa
