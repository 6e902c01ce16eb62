/- Texts of mine in one: Sl9. -/
import Derived.Test.YtcfhggdiccilaaaGreatQ01
namespace Go.Proofs.YtcfhggdiccilaaaGreat
section
open Go.RowKit
set_option linter.unusedVariables false
def countB (deep : Nat) : Nat := (43 - deep) * 1001 + 140737488351232
def Shal : (d : Nat) → Lx d → Prop
  | 0, _ => True
  | d + 1, x => ∀ s ∈ simplesL x, deepF d s.2 ≤ 42
theorem deep_bound {d : Nat} (f : Lx d → Int) (M : Int) (hM : 0 ≤ M) : ∀ (ys : List (Flat × Lx d)) (t : Int), 0 ≤ t → t ≤ M → (∀ s ∈ ys, f s.2 ≤ M) → 0 ≤ ys.foldl (deepS f) t ∧ ys.foldl (deepS f) t ≤ M
  | [], t, h0, h1, _ => ⟨h0, h1⟩
  | s :: ys, t, h0, h1, h => by
    refine deep_bound f M hM ys _ ?_ ?_ (fun s hs => h s (List.mem_cons_of_mem _ hs))
    · unfold deepS; split <;> omega
    · have := h s (List.mem_cons_self ..)
      unfold deepS; split <;> omega
theorem deepF_bound {d : Nat} {x : List (List (Int × List (Flat × Lx d)))} {deep : Nat} (hd : deep ≤ 41) (h : ∀ s ∈ simplesL x, deepF d s.2 + deep ≤ 42) : deepF (d + 1) x + deep ≤ 43 := by
  have hb := deep_bound (deepF d) (42 - deep) (by omega) (simplesL x) 0 (Int.le_refl _) (by omega) (fun s hs => by have := h s hs; omega)
  show wrap64 (1 + (simplesL x).foldl (deepS (deepF d)) 0) + deep ≤ 43
  unfold wrap64
  omega
end
end Go.Proofs.YtcfhggdiccilaaaGreat
