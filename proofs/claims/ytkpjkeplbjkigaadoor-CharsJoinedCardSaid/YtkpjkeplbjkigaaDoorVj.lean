/- Whether a condition holds of a value: the program's answer, of any condition and value; the document's examples. -/
import Derived.Test.YtkpjkeplbjkigaaDoorVi
namespace Go.Proofs.YtkpjkeplbjkigaaDoor
open Go.RowKit

theorem holdsT_none (op : Int) (t v : List UInt8) (h : op < 1 ∨ 7 < op) : holdsT op t v = false := by
  unfold holdsT
  rw [if_neg (by omega), if_neg (by omega), if_neg (by omega), if_neg (by omega), if_neg (by omega), if_neg (by omega), if_neg (by omega)]
theorem list_beq (x y : ByteArray) : (x.toList == y.toList) = decide (strB x = strB y) := by
  rw [ByteArray.toList_eq, ByteArray.toList_eq, Bool.eq_iff_iff, beq_iff_eq, decide_eq_true_eq]; rfl
theorem dash_eq (R : ByteArray) (h : 0 < R.size) : (((((R[0]'h).toNat : Nat) : Int) == 45) = true) ↔ (strB R)[0]? = some 45 := by
  have e : (strB R)[0]? = some (R[0]'h) := by
    unfold strB
    rw [Array.getElem?_toList, Array.getElem?_eq_getElem (by exact h)]; rfl
  rw [e, beq_iff_eq, Option.some.injEq]
  constructor
  · intro hh
    have h2 : (R[0]'h).toNat = 45 := by omega
    exact UInt8.toNat_inj.1 h2
  · intro hh; rw [hh]; rfl

theorem holds_any (op : Int) (fold : Bool) (t v : ByteArray) (w : World) (ht : t.size ≤ 1000000) (hv : v.size ≤ 1000000) (hL : LibW w) :
    Calls Tryd.prog 21 #[.agg #[.int .i64 op, .string t, .bool fold], .string v] w (Told (.bool (holdsF op (strB t) fold (strB v))) w) := by
  rw [holdsF_n, ← nS_bytes, ← nS_bytes]
  have hV : (nS fold v).size ≤ 1000000 := by rw [nS_size]; exact hv
  generalize eT : nS fold t = T at *
  generalize eV : nS fold v = V at *
  rcases (show op = 1 ∨ op = 2 ∨ op = 3 ∨ op = 4 ∨ op = 5 ∨ op = 6 ∨ op = 7 ∨ (op < 1 ∨ 7 < op) by omega) with rfl | rfl | rfl | rfl | rfl | rfl | rfl | h
  · exact holds_has fold t v T V w eT eV ht hv hL
  · rw [holdsT_2, ← list_beq]
    cases hq : (V.toList == T.toList)
    · exact holds_is_n fold t v T V w eT eV ht hv hq hL
    · exact holds_is_y fold t v T V w eT eV ht hv hq hL
  · exact holds_word fold t v T V w eT eV ht hv hV hL
  · rw [holdsT_4]
    obtain ⟨R, hR⟩ : ∃ R, (⟨(Lib.trimPrefix (strB V) (strB T)).toArray⟩ : ByteArray) = R := ⟨_, rfl⟩
    cases hp : Lib.hasPrefix (strB V) (strB T)
    · rw [decide_eq_false (show ¬ (strB T = strB V ∨ strB T ++ [45] <+: strB V) by
        rw [isPrefix_dec, decide_eq_false_iff_not] at hp
        rintro (h | h)
        · exact hp (h ▸ List.prefix_refl _)
        · exact hp ((List.prefix_append _ _).trans h))]
      exact holds_dash_no fold t v T V w eT eV ht hv R hR hp hL
    · have hp' := hp
      rw [isPrefix_dec, decide_eq_true_eq] at hp'
      obtain ⟨rest, hrest⟩ := hp'
      have hRb : strB R = rest := by
        rw [← hR]
        unfold strB at hp hrest ⊢
        unfold Lib.trimPrefix
        rw [if_pos hp]
        show (List.drop _ _) = rest
        rw [← hrest, List.drop_left]
      rcases Nat.eq_zero_or_pos R.size with h0 | h0
      · have hre : rest = [] := by rw [← hRb]; exact List.length_eq_zero_iff.1 (by rw [strB_len]; exact h0)
        rw [decide_eq_true (show strB T = strB V ∨ strB T ++ [45] <+: strB V by left; rw [← hrest, hre, List.append_nil])]
        exact holds_dash_all fold t v T V w eT eV ht hv R hR hp (str_empty R (by rw [hRb, hre])) hL
      · have hne : strB T ≠ strB V := by
          intro e
          rw [← hrest] at e
          have := congrArg List.length e
          rw [List.length_append, ← hRb, strB_len R] at this
          omega
        have hiff : (strB T = strB V ∨ strB T ++ [45] <+: strB V) ↔ ((((R[0]'h0).toNat : Nat) : Int) == 45) = true := by
          rw [dash_eq, hRb, ← hrest]
          constructor
          · rintro (h | h)
            · rw [hrest] at h; exact absurd h hne
            · rw [List.prefix_append_right_inj] at h
              obtain ⟨q, rfl⟩ := h
              rfl
          · intro h
            right
            rw [List.prefix_append_right_inj]
            cases rest with
            | nil => simp at h
            | cons x xs => simp at h; subst h; exact ⟨xs, rfl⟩
        cases h1 : ((((R[0]'h0).toNat : Nat) : Int) == 45)
        · rw [decide_eq_false (by rw [hiff, h1]; simp)]
          exact holds_dash_false fold t v T V w eT eV ht hv R hR hp h0 h1 hL
        · rw [decide_eq_true (by rw [hiff, h1])]
          exact holds_dash_true fold t v T V w eT eV ht hv R hR hp h0 h1 hL
  · rw [holdsT_5]
    by_cases h0 : strB T = []
    · rw [decide_eq_false (by simp [h0])]
      exact holds_begin_0 fold t v T V w eT eV ht hv (str_empty T h0) hL
    · rw [show decide (strB T ≠ [] ∧ strB T <+: strB V) = Lib.hasPrefix (strB V) (strB T) by rw [isPrefix_dec]; simp [h0]]
      exact holds_begin fold t v T V w eT eV ht hv h0 hV hL
  · rw [holdsT_6]
    by_cases h0 : strB T = []
    · rw [decide_eq_false (by simp [h0])]
      exact holds_end_0 fold t v T V w eT eV ht hv (str_empty T h0) hL
    · rw [show decide (strB T ≠ [] ∧ strB T <:+ strB V) = Lib.hasSuffix (strB V) (strB T) by rw [isSuffix_dec]; simp [h0]]
      exact holds_end fold t v T V w eT eV ht hv h0 hV hL
  · rw [holdsT_7]
    by_cases h0 : strB T = []
    · rw [decide_eq_false (by simp [h0])]
      exact holds_part_0 fold t v T V w eT eV ht hv (str_empty T h0) hL
    · rw [show decide (strB T ≠ [] ∧ strB T <:+: strB V) = Lib.contains (strB V) (strB T) by rw [contains_dec]; simp [h0]]
      exact holds_part fold t v T V w eT eV ht hv h0 hV hL
  · rw [holdsT_none op _ _ h]
    exact holds_none op fold t v T V w eT eV h ht hv hL
end Go.Proofs.YtkpjkeplbjkigaaDoor
