/- Whether a condition holds of a value, by the document: any condition and value. -/
import Derived.Test.YtpccakalkcgdeaaDoorVq
import Derived.Test.YtpccakalkcgdeaaDoorVr
import Derived.Test.YtpccakalkcgdeaaDoorVs
namespace Go.Proofs.YtpccakalkcgdeaaDoor
open Go.RowKit

theorem strB_ne {T : ByteArray} (h : ¬ strB T = []) : strB T ≠ [] := h
theorem rholds_any (op : Int) (fold : Bool) (t v : ByteArray) (w : World) (ht : t.size ≤ 999999) (hv : v.size ≤ 999999) :
    Calls Tryd.prog 22 #[.agg #[.int .i64 op, .string t, .bool fold], .string v] w (Told (.bool (holdsF op (strB t) fold (strB v))) w) := by
  rw [holdsF_n, ← nS_bytes, ← nS_bytes]
  have hV : (nS fold v).size ≤ 1000000 := by rw [nS_size]; omega
  have hT' : (nS fold t).size ≤ 999999 := by rw [nS_size]; exact ht
  have hT : (nS fold t).size ≤ 1000000 := by omega
  have ht2 : t.size ≤ 1000000 := by omega
  have hv2 : v.size ≤ 1000000 := by omega
  generalize eT : nS fold t = T at *
  generalize eV : nS fold v = V at *
  by_cases h1 : op = 1
  · subst h1; exact rholds_has fold t v T V w eT eV ht2 hv2 hT hV
  by_cases h2 : op = 2
  · subst h2
    rw [holdsT_2, show decide (strB V = strB T) = (T.toList == V.toList) by rw [list_beq, Bool.eq_iff_iff, decide_eq_true_eq, decide_eq_true_eq]; exact ⟨fun h => h.symm, fun h => h.symm⟩]
    cases hq : (T.toList == V.toList)
    · exact rholds_is_n fold t v T V w eT eV ht2 hv2 hT hV hq
    · exact rholds_is_y fold t v T V w eT eV ht2 hv2 hT hV hq
  by_cases h4 : op = 4
  · subst h4
    rw [at_dash, ← list_beq T V]
    cases hq : (T.toList == V.toList)
    · rw [Bool.false_or, show strB T ++ [45] = strB (T ++ ⟨#[45]⟩) by rw [strB_app]; rfl]
      exact rholds_dash_n fold t v T V w eT eV ht2 hv2 hT' hV hq
    · rw [Bool.true_or]
      exact rholds_dash_y fold t v T V w eT eV ht2 hv2 hT hV hq
  by_cases h0 : strB T = []
  · have hT0 := str_empty T h0
    have hz : holdsT op (strB T) (strB V) = false := by
      by_cases h3 : op = 3
      · subst h3; exact at_word _ _ (.inr h0)
      by_cases h5 : op = 5
      · subst h5; rw [holdsT_5, h0]; simp
      by_cases h6 : op = 6
      · subst h6; rw [holdsT_6, h0]; simp
      by_cases h7 : op = 7
      · subst h7; rw [holdsT_7, h0]; simp
      exact holdsT_none op _ _ (by omega)
    rw [hz]
    exact rholds_empty op fold t v T V w eT eV ⟨h1, h2, h4⟩ ht2 hv2 hT hV hT0
  by_cases h3 : op = 3
  · subst h3
    cases hb : (strB T).any blankB
    · rw [holdsT_3]
      exact rholds_word fold t v T V w eT eV ht2 hv2 hT hV h0 hb
    · rw [at_word _ _ (.inl hb)]
      exact rholds_word_no fold t v T V w eT eV ht2 hv2 hT hV h0 hb
  by_cases h5 : op = 5
  · subst h5
    rw [at_begin _ _ h0]
    exact rholds_begin fold t v T V w eT eV ht2 hv2 hT hV h0
  by_cases h6 : op = 6
  · subst h6
    rw [at_end _ _ h0, strB_len, strB_len]
    by_cases hl : T.size ≤ V.size
    · rw [decide_eq_true hl, Bool.true_and]
      exact rholds_end fold t v T V w eT eV ht2 hv2 hT hV h0 (V.size - T.size) (by omega)
    · rw [decide_eq_false hl, Bool.false_and]
      exact rholds_end_no fold t v T V w eT eV ht2 hv2 hT hV h0 (by omega)
  by_cases h7 : op = 7
  · subst h7
    rw [at_part _ _ h0, strB_len]
    exact rholds_part fold t v T V w eT eV ht2 hv2 hT hV h0
  · rw [holdsT_none op _ _ (by omega)]
    exact rholds_none op fold t v T V w eT eV (by omega) ht2 hv2 hT hV h0
end Go.Proofs.YtpccakalkcgdeaaDoor
