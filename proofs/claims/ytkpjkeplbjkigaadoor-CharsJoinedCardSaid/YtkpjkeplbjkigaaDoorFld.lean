/- The parts that the library's FieldsFunc tells are the words of a text. -/
import Derived.Test.YtkpjkeplbjkigaaDoorVh
import Derived.Lib.FieldsP
import Derived.Lib.RuneCountTail
namespace Go.Proofs.YtkpjkeplbjkigaaDoor
open Go.RowKit

theorem rune_dec (s : ByteArray) (k : Nat) (hk : k < s.size) : ∃ R K : Nat, Utf8.decode s k = (R, K) ∧ 1 ≤ K ∧ k + K ≤ s.size ∧ Ch (R : Int) ∧
    (blankR R = true → ∀ cur, wordsGo cur ((strB s).drop k) = (if cur = [] then [] else [cur]) ++ wordsGo [] ((strB s).drop (k + K))) ∧
    (blankR R = false → ∀ cur, wordsGo cur ((strB s).drop k) = wordsGo (cur ++ ((strB s).drop k).take K) ((strB s).drop (k + K))) := by
  obtain ⟨R, K, hd, rest⟩ := rune_at s k hk
  refine ⟨R, K, ?_, rest⟩
  have hz : (s.extract k s.size).size ≠ 0 := by rw [ByteArray.size_extract]; omega
  rw [← hd]
  unfold Lib.decodeGo
  rw [if_neg hz]
  exact (Lib.tail_decode s k 0).symm

/-- Which characters part words, as a predicate on numbers. -/
def partP (n : Nat) : Bool := blankR (n : Int)

def spanB (s : ByteArray) (x : Nat × Nat) : List UInt8 := strB (s.extract x.1 x.2)
theorem spanB_open (s : ByteArray) (a k : Nat) : spanB s (a, k) = openP (strB s) (some a) k := strB_extract s a k

theorem spansP_words (s : ByteArray) : ∀ (f pos : Nat) (st : Option Nat) (acc : List (Nat × Nat)), s.size - pos ≤ f → pos ≤ s.size → (∀ a, st = some a → a < pos) →
    (Lib.closeSpans s (Lib.spansFromP partP s f pos st acc)).map (spanB s) = acc.map (spanB s) ++ wordsGo (openP (strB s) st pos) ((strB s).drop pos) := by
  intro f
  induction f with
  | zero =>
    intro pos st acc hf hp hst
    obtain rfl : pos = s.size := by omega
    rw [Lib.spansFromP_end _ _ _ _ _ _ (by omega), List.drop_eq_nil_of_le (by rw [strB_len]; exact Nat.le_refl _)]
    cases st with
    | none => show List.map _ acc = _; unfold openP wordsGo; simp
    | some a =>
      have hne := openP_ne (strB s) a s.size (hst a rfl) (by rw [strB_len]; exact Nat.le_refl _)
      show List.map _ (acc ++ [(a, s.size)]) = _
      rw [List.map_append, wordsGo, if_neg hne, ← spanB_open]; rfl
  | succ f ih =>
    intro pos st acc hf hp hst
    by_cases h : pos < s.size
    · obtain ⟨R, K, hd, hK1, hK2, hC, hbl, hnb⟩ := rune_dec s pos h
      have d1 : (Utf8.decode s pos).1 = R := by rw [hd]
      have d2 : (Utf8.decode s pos).2 = K := by rw [hd]
      unfold Lib.spansFromP
      rw [if_pos h, d1, d2]
      cases hb : blankR (R : Int) with
      | true =>
        rw [if_pos (show partP R = true from hb), hbl hb]
        cases st with
        | none =>
          rw [ih _ _ _ (by omega) hK2 (fun a ha => by cases ha)]
          show _ = _ ++ ((if ([] : List UInt8) = [] then _ else _) ++ _)
          rw [if_pos rfl]; rfl
        | some a =>
          have hne := openP_ne (strB s) a pos (hst a rfl) (by rw [strB_len]; exact hp)
          rw [ih _ _ _ (by omega) hK2 (fun a ha => by cases ha), List.map_append, if_neg hne, ← spanB_open, List.append_assoc]; rfl
      | false =>
        rw [if_neg (show ¬ partP R = true from by unfold partP; rw [hb]; simp), hnb hb]
        cases st with
        | none =>
          rw [ih _ _ _ (by omega) hK2 (fun a ha => by cases ha; omega)]
          show _ = _ ++ wordsGo ([] ++ _) _
          rw [List.nil_append, openP_new]
        | some a =>
          have := hst a rfl
          rw [ih _ _ _ (by omega) hK2 (fun b hb => by cases hb; omega), openP_grow _ _ _ _ (by omega)]
    · obtain rfl : pos = s.size := by omega
      rw [Lib.spansFromP_end _ _ _ _ _ _ (by omega), List.drop_eq_nil_of_le (by rw [strB_len]; exact Nat.le_refl _)]
      cases st with
      | none => show List.map _ acc = _; unfold openP wordsGo; simp
      | some a =>
        have hne := openP_ne (strB s) a s.size (hst a rfl) (by rw [strB_len]; exact Nat.le_refl _)
        show List.map _ (acc ++ [(a, s.size)]) = _
        rw [List.map_append, wordsGo, if_neg hne, ← spanB_open]; rfl

/-- The parts are the words. -/
theorem fieldsP_words (s : ByteArray) : (Lib.goFieldsP partP s).map strB = words (strB s) := by
  unfold Lib.goFieldsP Lib.spansOfP
  rw [List.map_map]
  show List.map (spanB s) _ = _
  rw [spansP_words s s.size 0 none [] (by omega) (Nat.zero_le _) (fun a h => by cases h)]
  rfl
end Go.Proofs.YtkpjkeplbjkigaaDoor
