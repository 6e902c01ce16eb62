/- The row of an element beneath its parent: mathematics. -/
import Derived.Test.YtfgnepbpfglepaaDm0
namespace Go.Proofs.Ytfgnepbpfglepaa
open Go.RowKit
set_option linter.unusedVariables false
set_option linter.unusedSimpArgs false

/-- Is there, at a place, an element with a parent? -/
def hit (xs : List Nd) (p : Int) (k : Nat) : Bool := match xs[k]? with
  | some x => decide (x.kind = 1) && decide (x.par = p)
  | none => false
/-- The elements with a parent ahead of a place, the last one first. -/
def desc (xs : List Nd) (p : Int) : Nat → List Nat
  | 0 => []
  | k + 1 => if hit xs p k = true then k :: desc xs p k else desc xs p k
/-- The last of them, or none. -/
def lastB (xs : List Nd) (p : Int) : Nat → Int
  | 0 => -1
  | k + 1 => if hit xs p k = true then (k : Int) else lastB xs p k
/-- The one right ahead of an element, or none. -/
def aheadF (xs : List Nd) (n : Nat) : Int := match xs[n]? with
  | some x => if x.kind = 1 ∧ x.par ≠ -1 then lastB xs x.par n else -1
  | none => -1
theorem desc_succ (xs : List Nd) (p : Int) (k : Nat) : desc xs p (k + 1) = if hit xs p k = true then k :: desc xs p k else desc xs p k := rfl
theorem lastB_succ (xs : List Nd) (p : Int) (k : Nat) : lastB xs p (k + 1) = if hit xs p k = true then (k : Int) else lastB xs p k := rfl
theorem lastB_desc (xs : List Nd) (p : Int) : ∀ k, (lastB xs p k = -1 ∧ desc xs p k = []) ∨ (∃ j, j < k ∧ lastB xs p k = (j : Int) ∧ hit xs p j = true ∧ desc xs p k = j :: desc xs p j)
  | 0 => .inl ⟨rfl, rfl⟩
  | k + 1 => by
    rw [lastB_succ, desc_succ]
    by_cases h : hit xs p k = true
    · rw [if_pos h, if_pos h]
      exact .inr ⟨k, by omega, rfl, h, rfl⟩
    · rw [if_neg h, if_neg h]
      rcases lastB_desc xs p k with h1 | ⟨j, hj, h1⟩
      · exact .inl h1
      · exact .inr ⟨j, by omega, h1⟩
theorem desc_up (xs : List Nd) (p : Int) : ∀ k, (desc xs p k).reverse = (List.range k).filter (hit xs p)
  | 0 => rfl
  | k + 1 => by
    unfold desc
    rw [List.range_succ, List.filter_append]
    by_cases h : hit xs p k = true
    · rw [if_pos h, List.reverse_cons, desc_up xs p k]
      simp [h]
    · rw [if_neg h, desc_up xs p k]
      simp [h]
theorem desc_nil (xs : List Nd) (p : Int) (k : Nat) (h : ∀ j, j < k → hit xs p j = false) : desc xs p k = [] := by
  induction k with
  | zero => rfl
  | succ k ih =>
    unfold desc
    rw [if_neg (by rw [h k (by omega)]; decide)]
    exact ih (fun j hj => h j (by omega))
theorem desc_lt (xs : List Nd) (p : Int) : ∀ k j, j ∈ desc xs p k → j < k ∧ hit xs p j = true
  | 0, j, h => by cases h
  | k + 1, j, h => by
    unfold desc at h
    by_cases hh : hit xs p k = true
    · rw [if_pos hh] at h
      rcases List.mem_cons.1 h with rfl | h
      · exact ⟨by omega, hh⟩
      · have := desc_lt xs p k j h; exact ⟨by omega, this.2⟩
    · rw [if_neg hh] at h
      have := desc_lt xs p k j h; exact ⟨by omega, this.2⟩
theorem desc_len (xs : List Nd) (p : Int) : ∀ k, (desc xs p k).length ≤ k
  | 0 => Nat.le_refl _
  | k + 1 => by
    unfold desc
    have := desc_len xs p k
    split
    · rw [List.length_cons]; omega
    · omega
/-- The row of a place: what is told of it. -/
def rowF (xs : List Nd) (n : Nat) : List Nat := match xs[n]? with
  | some x => if x.kind = 1 then (desc xs x.par (n + 1)).reverse else []
  | none => []
/-- Places of parents are right, and just one element has none. -/
structure RightP (xs : List Nd) : Prop where
  par : ∀ (k : Nat) (x : Nd), xs[k]? = some x → x.par = -1 ∨ (0 ≤ x.par ∧ x.par < k)
  one : ∀ (j k : Nat), hit xs (-1) j = true → hit xs (-1) k = true → j = k
theorem hit_of {xs : List Nd} {n : Nat} {x : Nd} (hx : xs[n]? = some x) (hk : x.kind = 1) : hit xs x.par n = true := by
  unfold hit; rw [hx]; simp [hk]
theorem hit_elim {xs : List Nd} {p : Int} {n : Nat} (h : hit xs p n = true) : ∃ x, xs[n]? = some x ∧ x.kind = 1 ∧ x.par = p := by
  unfold hit at h
  cases hx : xs[n]? with
  | none => rw [hx] at h; simp at h
  | some x =>
    rw [hx] at h
    simp at h
    exact ⟨x, rfl, h.1, h.2⟩
/-- From an element to the ones ahead of it: either none, or the next one of the row. -/
theorem ahead_step {xs : List Nd} (hR : RightP xs) {n : Nat} {x : Nd} (hx : xs[n]? = some x) (hk : x.kind = 1) :
    (aheadF xs n = -1 ∧ desc xs x.par n = []) ∨ (∃ j y, j < n ∧ aheadF xs n = (j : Int) ∧ xs[j]? = some y ∧ y.kind = 1 ∧ y.par = x.par ∧ desc xs x.par n = desc xs x.par (j + 1)) := by
  by_cases hp : x.par = -1
  · refine .inl ⟨by unfold aheadF; rw [hx]; simp [hk, hp], ?_⟩
    rw [hp]
    refine desc_nil xs _ _ (fun j hj => ?_)
    cases hh : hit xs (-1) j with
    | false => rfl
    | true =>
      have := hR.one j n hh (by rw [← hp]; exact hit_of hx hk)
      omega
  · have ha : aheadF xs n = lastB xs x.par n := by unfold aheadF; rw [hx]; simp [hk, hp]
    rw [ha]
    rcases lastB_desc xs x.par n with h | ⟨j, hj, h1, h2, h3⟩
    · exact .inl h
    · obtain ⟨y, hy, hyk, hyp⟩ := hit_elim h2
      refine .inr ⟨j, y, hj, h1, hy, hyk, hyp, ?_⟩
      rw [h3]
      rw [desc_succ, if_pos h2]
end Go.Proofs.Ytfgnepbpfglepaa
