/- A right document with one element more: mathematics. -/
import Derived.Test.YtknggcbhfkbelaaDoorDq5Z
import Derived.Test.YtknggcbhfkbelaaDoorDo8Z
namespace Go.Proofs.YtknggcbhfkbelaaDoor
open Go.RowKit
set_option linter.unusedVariables false
set_option linter.unusedSimpArgs false

theorem hit_lt {xs : List Nd} {p : Int} {k : Nat} (h : hit xs p k = true) : k < xs.length := by
  obtain ⟨x, hx, _⟩ := hit_elim h
  exact (List.getElem?_eq_some_iff.1 hx).1
theorem roots_mono (xs : List Nd) : ∀ m k, k ≤ m → rootsTo xs k ≤ rootsTo xs m
  | 0, k, h => by rw [show k = 0 by omega]; exact Nat.le_refl _
  | m + 1, k, h => by
    by_cases he : k = m + 1
    · rw [he]; exact Nat.le_refl _
    · have := roots_mono xs m k (by omega)
      show _ ≤ rootsTo xs m + _
      omega
theorem roots_succ (xs : List Nd) (k : Nat) : rootsTo xs (k + 1) = rootsTo xs k + (if hit xs (-1) k = true then 1 else 0) := rfl
theorem rightP_of {xs : List Nd} (h : RightD xs) : RightP xs := by
  refine ⟨fun k x hx => ?_, fun j k hj hk => ?_⟩
  · have hk := (List.getElem?_eq_some_iff.1 hx).1
    have := h.1 k hk
    unfold nodeK at this
    rw [hx] at this
    rcases nodeB_par this with h1 | ⟨h1, h2, _⟩
    · exact .inl h1
    · exact .inr ⟨h1, by rw [List.length_take] at h2; omega⟩
  · have key : ∀ a b : Nat, a < b → hit xs (-1) a = true → hit xs (-1) b = true → False := fun a b hab ha hb => by
      have h1 := roots_mono xs b (a + 1) (by omega)
      have h2 := roots_mono xs xs.length (b + 1) (hit_lt hb)
      rw [roots_succ, if_pos ha] at h1
      rw [roots_succ, if_pos hb] at h2
      have := h.2
      omega
    rcases Nat.lt_trichotomy j k with h1 | h1 | h1
    · exact (key j k h1 hj hk).elim
    · exact h1
    · exact (key k j h1 hk hj).elim
theorem snoc_lt {xs : List Nd} {y : Nd} {k : Nat} (h : k < xs.length) : (xs ++ [y])[k]? = xs[k]? := List.getElem?_append_left h
theorem snoc_at {xs : List Nd} {y : Nd} : (xs ++ [y])[xs.length]? = some y := by rw [List.getElem?_append_right (Nat.le_refl _)]; simp
theorem hit_snoc {xs : List Nd} {y : Nd} {p : Int} {k : Nat} (h : k < xs.length) : hit (xs ++ [y]) p k = hit xs p k := by unfold hit; rw [snoc_lt h]
theorem desc_snoc {xs : List Nd} {y : Nd} {p : Int} : ∀ k, k ≤ xs.length → desc (xs ++ [y]) p k = desc xs p k
  | 0, _ => rfl
  | k + 1, h => by rw [desc_succ, desc_succ, hit_snoc (by omega), desc_snoc k (by omega)]
theorem roots_snoc {xs : List Nd} {y : Nd} : ∀ k, k ≤ xs.length → rootsTo (xs ++ [y]) k = rootsTo xs k
  | 0, _ => rfl
  | k + 1, h => by rw [roots_succ, roots_succ, hit_snoc (by omega), roots_snoc k (by omega)]
theorem nodeK_snoc {xs : List Nd} {y : Nd} {k : Nat} (h : k < xs.length) : nodeK (xs ++ [y]) k = nodeK xs k := by
  unfold nodeK
  rw [snoc_lt h, List.take_append_of_le_length (by omega)]
theorem rightD_snoc {xs : List Nd} {y : Nd} (h : RightD xs) (hy : nodeB xs y = true) (hp : 0 ≤ y.par) : RightD (xs ++ [y]) := by
  refine ⟨fun k hk => ?_, ?_⟩
  · rw [List.length_append] at hk
    by_cases he : k < xs.length
    · rw [nodeK_snoc he]; exact h.1 k he
    · obtain rfl : k = xs.length := by simp at hk; omega
      unfold nodeK
      rw [snoc_at]
      simp only
      rw [List.take_append_of_le_length (Nat.le_refl _), List.take_of_length_le (Nat.le_refl _)]
      exact hy
  · rw [List.length_append]
    show rootsTo (xs ++ [y]) (xs.length + 1) = 1
    rw [roots_succ, roots_snoc _ (Nat.le_refl _), h.2, if_neg]
    intro hh
    obtain ⟨x, hx, _, h2⟩ := hit_elim hh
    rw [snoc_at] at hx
    cases hx
    omega
/-- What is told of the new element. -/
theorem grown_tells {xs : List Nd} {y : Nd} (h : RightD (xs ++ [y])) (hk : y.kind = 1) (hp : y.par ≠ -1) :
    parI (xs ++ [y]) (xs.length : Int) = y.par ∧ elemB (xs ++ [y]) (xs.length : Int) = true ∧
    ((aheadI (xs ++ [y]) (xs.length : Int) = -1 ∧ rowI (xs ++ [y]) (xs.length : Int) = [xs.length]) ∨
     (∃ (j : Nat) (zs : List Nat), j < xs.length ∧ aheadI (xs ++ [y]) (xs.length : Int) = (j : Int) ∧ rowI (xs ++ [y]) (j : Int) = zs ++ [j] ∧ rowI (xs ++ [y]) (xs.length : Int) = zs ++ [j] ++ [xs.length])) := by
  have hE : elemB (xs ++ [y]) (xs.length : Int) = true := by unfold elemB; rw [atI_nat, snoc_at]; exact decide_eq_true hk
  refine ⟨by unfold parI; rw [atI_nat, snoc_at]; simp only; rw [if_pos hk], hE, ?_⟩
  have hA : aheadI (xs ++ [y]) (xs.length : Int) = aheadF (xs ++ [y]) xs.length := by unfold aheadI; rw [hE, if_pos rfl, Int.toNat_natCast]
  have hRow : rowI (xs ++ [y]) (xs.length : Int) = (desc (xs ++ [y]) y.par xs.length).reverse ++ [xs.length] := by
    unfold rowI
    rw [hE, if_pos rfl, Int.toNat_natCast]
    unfold rowF
    rw [snoc_at]
    simp only
    rw [if_pos hk, desc_succ, if_pos (hit_of snoc_at hk), List.reverse_cons]
  rw [hA, hRow]
  rcases ahead_step (rightP_of h) (snoc_at (xs := xs) (y := y)) hk with ⟨h1, h2⟩ | ⟨j, z, hj, h1, h2, h3, h4, h5⟩
  · exact .inl ⟨h1, by rw [h2]; rfl⟩
  · have hh : hit (xs ++ [y]) y.par j = true := by rw [← h4]; exact hit_of h2 h3
    have hd : (desc (xs ++ [y]) y.par (j + 1)).reverse = (desc (xs ++ [y]) y.par j).reverse ++ [j] := by rw [desc_succ, if_pos hh, List.reverse_cons]
    refine .inr ⟨j, (desc (xs ++ [y]) y.par j).reverse, hj, h1, ?_, by rw [h5, hd]⟩
    have hEj : elemB (xs ++ [y]) (j : Int) = true := by unfold elemB; rw [atI_nat, h2]; exact decide_eq_true h3
    unfold rowI
    rw [hEj, if_pos rfl, Int.toNat_natCast]
    unfold rowF
    rw [h2]
    simp only
    rw [if_pos h3, h4, hd]
end Go.Proofs.YtknggcbhfkbelaaDoor
