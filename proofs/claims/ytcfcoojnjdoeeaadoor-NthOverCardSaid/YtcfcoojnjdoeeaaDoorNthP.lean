/- Sets of numbers that come round: plain mathematics. -/
import Derived.Test.YtcfcoojnjdoeeaaDoorHas
namespace Go.Proofs.YtcfcoojnjdoeeaaDoor

/-- A set of numbers from 1 on has these parts: the least round, and the least head for it. -/
structure LeastP (S : Nat → Bool) (h p : Nat) : Prop where
  pos : 1 ≤ p
  per : ∀ n, h < n → S (n + p) = S n
  head : h = 0 ∨ S h ≠ S (h + p)
  least : ∀ q, 1 ≤ q → (∃ k, ∀ n, k < n → S (n + q) = S n) → p ≤ q

theorem per_mul {S : Nat → Bool} {h p : Nat} (per : ∀ n, h < n → S (n + p) = S n) (n k : Nat) (hn : h < n) : S (n + p * k) = S n := by
  induction k with
  | zero => rfl
  | succ k ih => rw [Nat.mul_succ, ← Nat.add_assoc, per _ (by omega), ih]

def foldN (h p n : Nat) : Nat := if n ≤ h then n else h + 1 + (n - h - 1) % p
theorem foldN_of {S : Nat → Bool} {h p : Nat} (per : ∀ n, h < n → S (n + p) = S n) (n : Nat) : S (foldN h p n) = S n := by
  unfold foldN
  split
  · rfl
  · have e := Nat.div_add_mod (n - h - 1) p
    have := per_mul per (h + 1 + (n - h - 1) % p) ((n - h - 1) / p) (by omega)
    rw [← this]
    congr 1
    omega
theorem foldN_lt {h p : Nat} (hp : 1 ≤ p) {n : Nat} (hn : 1 ≤ n) : 1 ≤ foldN h p n ∧ foldN h p n ≤ h + p := by
  unfold foldN
  split
  · omega
  · have := Nat.mod_lt (n - h - 1) hp
    omega

/-- An eventual round serves from the head on. -/
theorem per_down {S : Nat → Bool} {h p q k : Nat} (hp : 1 ≤ p) (per : ∀ n, h < n → S (n + p) = S n) (hq : ∀ n, k < n → S (n + q) = S n) : ∀ n, h < n → S (n + q) = S n := by
  intro n hn
  have h1 := per_mul per (n + q) (k + 1) (by omega)
  have h2 := per_mul per n (k + 1) hn
  have hle : k + 1 ≤ p * (k + 1) := Nat.le_mul_of_pos_left _ hp
  have h3 := hq (n + p * (k + 1)) (by omega)
  rw [← h1, ← h2, ← h3]
  congr 1
  omega

theorem LeastP.uniq {S : Nat → Bool} {h p h' p' : Nat} (L : LeastP S h p) (M : LeastP S h' p') : h = h' ∧ p = p' := by
  have e : p = p' := Nat.le_antisymm (L.least p' M.pos ⟨h', M.per⟩) (M.least p L.pos ⟨h, L.per⟩)
  subst e
  refine ⟨?_, rfl⟩
  rcases Nat.lt_trichotomy h h' with hh | hh | hh
  · rcases M.head with m | m
    · omega
    · exact absurd (L.per h' hh).symm m
  · exact hh
  · rcases L.head with m | m
    · omega
    · exact absurd (M.per h hh).symm m

theorem LeastP.congr {S T : Nat → Bool} {h p : Nat} (L : LeastP S h p) (e : ∀ n, 1 ≤ n → S n = T n) : LeastP T h p where
  pos := L.pos
  per := fun n hn => by rw [← e n (by omega), ← e (n + p) (by omega)]; exact L.per n hn
  head := by
    rcases L.head with m | m
    · exact .inl m
    · rcases Nat.eq_zero_or_pos h with z | z
      · exact .inl z
      · rw [e h z, e (h + p) (by omega)] at m; exact .inr m
  least := fun q hq ⟨k, hk⟩ => L.least q hq ⟨k, fun n hn => by rw [e n (by omega), e (n + q) (by omega)]; exact hk n hn⟩

theorem LeastP.not {S : Nat → Bool} {h p : Nat} (L : LeastP S h p) : LeastP (fun n => !S n) h p where
  pos := L.pos
  per := fun n hn => by show (!S (n + p)) = !S n; rw [L.per n hn]
  head := by
    rcases L.head with m | m
    · exact .inl m
    · exact .inr (fun x => m (by simpa using x))
  least := fun q hq ⟨k, hk⟩ => L.least q hq ⟨k, fun n hn => by simpa using hk n hn⟩

/-- The truths of the numbers from 1 on. -/
def rowOf (S : Nat → Bool) (n : Nat) : List Bool := (List.range n).map fun i => S (i + 1)
theorem rowOf_len (S : Nat → Bool) (n : Nat) : (rowOf S n).length = n := by unfold rowOf; simp
theorem rowOf_at (S : Nat → Bool) {n i : Nat} (h : i < n) : (rowOf S n)[i]? = some (S (i + 1)) := by
  unfold rowOf; rw [List.getElem?_map, List.getElem?_range h]; rfl
theorem rowOf_snoc (S : Nat → Bool) (n : Nat) : rowOf S (n + 1) = rowOf S n ++ [S (n + 1)] := by
  unfold rowOf; rw [List.range_succ, List.map_append]; rfl
theorem rowOf_congr {S T : Nat → Bool} {n : Nat} (e : ∀ i, 1 ≤ i → i ≤ n → S i = T i) : rowOf S n = rowOf T n := by
  unfold rowOf
  exact List.map_congr_left fun i hi => e (i + 1) (by omega) (by have := List.mem_range.1 hi; omega)

/-- Two sets are one just if their parts and the truths of these are. -/
theorem same_iff {S T : Nat → Bool} {h p k q : Nat} (L : LeastP S h p) (M : LeastP T k q) : (h = k ∧ rowOf S (h + p) = rowOf T (k + q)) ↔ ∀ n, 1 ≤ n → S n = T n := by
  constructor
  · rintro ⟨rfl, e⟩ n hn
    have hl : h + p = h + q := by have := congrArg List.length e; rwa [rowOf_len, rowOf_len] at this
    obtain rfl : p = q := by omega
    have hf := foldN_lt (h := h) L.pos hn
    have a := rowOf_at S (n := h + p) (i := foldN h p n - 1) (by omega)
    have b := rowOf_at T (n := h + p) (i := foldN h p n - 1) (by omega)
    rw [e, b] at a
    have a' := Option.some.inj a
    rw [Nat.sub_add_cancel hf.1, foldN_of L.per, foldN_of M.per] at a'
    exact a'.symm
  · intro e
    obtain ⟨rfl, rfl⟩ := (L.congr e).uniq M
    exact ⟨rfl, rowOf_congr fun i hi _ => e i hi⟩

/-- Sets that agree for long agree. -/
theorem agree_far {S T : Nat → Bool} {h p k q N : Nat} (L : LeastP S h p) (M : LeastP T k q) (hN : max h k + p * q ≤ N) (e : ∀ n, 1 ≤ n → n ≤ N → S n = T n) : ∀ n, 1 ≤ n → S n = T n := by
  intro n hn
  have hpq : 1 ≤ p * q := Nat.mul_pos L.pos M.pos
  have pS : ∀ n, max h k < n → S (n + p * q) = S n := fun n hn => per_mul L.per n q (by omega)
  have pT : ∀ n, max h k < n → T (n + p * q) = T n := fun n hn => by rw [Nat.mul_comm]; exact per_mul M.per n p (by omega)
  have hf := foldN_lt (h := max h k) hpq hn
  rw [← foldN_of pS n, ← foldN_of pT n]
  exact e _ hf.1 (by omega)

/-- Where a round's head is: counted down from a number. -/
def descend (S : Nat → Bool) (p : Nat) : Nat → Nat
  | 0 => 0
  | h + 1 => if S (h + 1) = S (h + 1 + p) then descend S p h else h + 1
theorem descend_le (S : Nat → Bool) (p m : Nat) : descend S p m ≤ m := by
  induction m with
  | zero => exact Nat.le_refl _
  | succ m ih => unfold descend; split <;> omega
theorem descend_per (S : Nat → Bool) (p m : Nat) : ∀ i, descend S p m < i → i ≤ m → S (i + p) = S i := by
  induction m with
  | zero => intro i _ hi; simp [descend] at *; omega
  | succ m ih =>
    intro i h1 h2
    unfold descend at h1
    split at h1
    · rename_i he
      rcases Nat.lt_or_ge m i with hm | hm
      · obtain rfl : i = m + 1 := by omega
        exact he.symm
      · exact ih i h1 hm
    · omega
theorem descend_stop (S : Nat → Bool) (p m : Nat) : descend S p m = 0 ∨ S (descend S p m) ≠ S (descend S p m + p) := by
  induction m with
  | zero => exact .inl rfl
  | succ m ih =>
    unfold descend
    split
    · exact ih
    · rename_i he; exact .inr he

theorem least_of_descend {S : Nat → Bool} {p m : Nat} (hp : 1 ≤ p) (per : ∀ n, m < n → S (n + p) = S n) (least : ∀ q, 1 ≤ q → (∃ k, ∀ n, k < n → S (n + q) = S n) → p ≤ q) : LeastP S (descend S p m) p where
  pos := hp
  per := fun n hn => by
    rcases Nat.lt_or_ge m n with h | h
    · exact per n h
    · exact descend_per S p m n hn h
  head := descend_stop S p m
  least := least

/-- The document's search for parts finds them: its head at the least round is the head. -/
theorem descend_head {S : Nat → Bool} {h p m : Nat} (L : LeastP S h p) (hm : h ≤ m) : descend S p m = h := by
  have := least_of_descend (m := m) L.pos (fun n hn => L.per n (by omega)) L.least
  exact (this.uniq L).1
/-- At lesser rounds it finds none. -/
theorem descend_none {S : Nat → Bool} {h p q : Nat} (L : LeastP S h p) (hs : h + p ≤ 200) (hq : 1 ≤ q) (hqp : q < p) : ¬ descend S q (400 - q) + q ≤ 200 := by
  intro hc
  have hd := descend_per S q (400 - q)
  generalize descend S q (400 - q) = d at *
  have key : ∀ n, max h d < n → S (n + q) = S n := by
    intro n hn
    have hper : ∀ n, max h d < n → S (n + p) = S n := fun n hn => L.per n (by omega)
    have hper2 : ∀ n, max h d < n → S (n + q + p) = S (n + q) := fun n hn => L.per _ (by omega)
    have e := foldN_of hper n
    have e2 := foldN_of (S := fun n => S (n + q)) (h := max h d) (p := p) (fun n hn => by
      show S (n + p + q) = S (n + q)
      rw [Nat.add_right_comm]; exact hper2 n hn) n
    have hf : foldN (max h d) p n = max h d + 1 + (n - max h d - 1) % p := by unfold foldN; rw [if_neg (by omega)]
    have hlt := Nat.mod_lt (n - max h d - 1) L.pos
    rw [← e, ← e2]
    exact hd _ (by omega) (by omega)
  exact absurd (L.least q hq ⟨_, key⟩) (by omega)
end Go.Proofs.YtcfcoojnjdoeeaaDoor
