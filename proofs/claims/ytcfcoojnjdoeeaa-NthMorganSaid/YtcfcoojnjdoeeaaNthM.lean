/- What is in both of two sets that come round: plain mathematics. -/
import Derived.Test.YtcfcoojnjdoeeaaNthP
namespace Go.Proofs.Ytcfcoojnjdoeeaa

def Per (f : Nat → Bool) (a : Nat) : Prop := ∀ n, f (n + a) = f n
theorem Per.mul {f : Nat → Bool} {a : Nat} (h : Per f a) (k n : Nat) : f (n + a * k) = f n := by
  induction k with
  | zero => rfl
  | succ k ih => rw [Nat.mul_succ, ← Nat.add_assoc, h, ih]
theorem Per.mod {f : Nat → Bool} {a b : Nat} (ha : Per f a) (hb : Per f b) : Per f (b % a) := fun n => by
  have e := Nat.div_add_mod b a
  rw [← ha.mul (b / a) (n + b % a), ← hb n]
  congr 1
  omega
theorem Per.gcd {f : Nat → Bool} (a b : Nat) : Per f a → Per f b → Per f (Nat.gcd a b) := by
  induction a, b using Nat.gcd.induction with
  | H0 n => intro _ h; rw [Nat.gcd_zero_left]; exact h
  | H1 m n _ ih => intro hm hn; rw [Nat.gcd_rec]; exact ih (hm.mod hn) hm
theorem Per.of_mod {f : Nat → Bool} {a : Nat} (h : Per f a) (n : Nat) : f (n % a) = f n := by
  have e := Nat.div_add_mod n a
  rw [← h.mul (n / a) (n % a)]
  congr 1
  omega
theorem Per.congr_mod {f : Nat → Bool} {a : Nat} (h : Per f a) {m n : Nat} (e : m % a = n % a) : f m = f n := by
  rw [← h.of_mod m, ← h.of_mod n, e]

/-- The least round of a ring of P truths: of those that divide P. -/
structure LeastDiv (f : Nat → Bool) (P q : Nat) : Prop where
  pos : 1 ≤ q
  dvd : q ∣ P
  per : Per f q
  least : ∀ d, 1 ≤ d → d ∣ P → Per f d → q ≤ d
theorem LeastDiv.dvd_of {f : Nat → Bool} {P q r : Nat} (L : LeastDiv f P q) (hr : Per f r) : q ∣ r := by
  have hg : 0 < Nat.gcd q r := Nat.gcd_pos_of_pos_left _ L.pos
  have h1 := L.least (Nat.gcd q r) hg (Nat.dvd_trans (Nat.gcd_dvd_left q r) L.dvd) (Per.gcd q r L.per hr)
  have h2 : Nat.gcd q r ≤ q := Nat.le_of_dvd L.pos (Nat.gcd_dvd_left q r)
  have e : Nat.gcd q r = q := by omega
  rw [← e]
  exact Nat.gcd_dvd_right q r

theorem bezout (a b : Nat) : ∃ u v : Int, ((Nat.gcd a b : Nat) : Int) = a * u + b * v := by
  induction a, b using Nat.gcd.induction with
  | H0 n => exact ⟨0, 1, by simp⟩
  | H1 m n _ ih =>
    obtain ⟨u, v, e⟩ := ih
    refine ⟨v - (n / m : Nat) * u, u, ?_⟩
    rw [Nat.gcd_rec, e]
    have h : (n : Int) = m * (n / m : Nat) + (n % m : Nat) := by exact_mod_cast (Nat.div_add_mod n m).symm
    generalize ((n / m : Nat) : Int) = d at *
    generalize ((n % m : Nat) : Int) = r at *
    rw [h]
    grind

theorem crt {p q x j : Nat} (hp : 1 ≤ p) (hq : 1 ≤ q) (h : j % Nat.gcd p q = x % Nat.gcd p q) : ∃ n, n % p = x % p ∧ n % q = j % q := by
  obtain ⟨u, v, e⟩ := bezout p q
  obtain ⟨t, ht⟩ : ∃ t : Int, (j : Int) - x = (Nat.gcd p q : Nat) * t := by
    have h' : (j : Int) % (Nat.gcd p q : Nat) = (x : Int) % (Nat.gcd p q : Nat) := by exact_mod_cast h
    exact Int.dvd_of_emod_eq_zero (Int.emod_eq_emod_iff_emod_sub_eq_zero.1 h')
  have hpq : (1 : Int) ≤ (p : Int) * q := by
    have := Nat.mul_pos hp hq
    exact_mod_cast this
  have hM : ((x : Int) + p * (u * t)).natAbs ≤ (p : Int) * q * ((x : Int) + p * (u * t)).natAbs := by
    have := Int.mul_le_mul_of_nonneg_right hpq (show (0 : Int) ≤ ((x : Int) + p * (u * t)).natAbs by omega)
    omega
  generalize hA : ((x : Int) + p * (u * t)).natAbs = M at *
  have h0 : 0 ≤ (x : Int) + p * (u * t) + (p : Int) * q * M := by omega
  obtain ⟨n, hn⟩ : ∃ n : Nat, (n : Int) = (x : Int) + p * (u * t) + (p : Int) * q * M := ⟨_, Int.toNat_of_nonneg h0⟩
  refine ⟨n, ?_, ?_⟩
  · have : (n : Int) % p = (x : Int) % p := by
      rw [hn, show (x : Int) + p * (u * t) + (p : Int) * q * M = x + p * (u * t + q * M) by grind, Int.add_mul_emod_self_left]
    exact_mod_cast this
  · have : (n : Int) % q = (j : Int) % q := by
      rw [hn, show (x : Int) + p * (u * t) + (p : Int) * q * M = j + q * (p * M - v * t) by
        have e2 : (j : Int) = x + (p * u + q * v) * t := by rw [← e]; omega
        rw [e2]; grind, Int.add_mul_emod_self_left]
    exact_mod_cast this

/-- Whether a place of another ring with this remainder is true. -/
def metB (b : Nat → Bool) (Q g r : Nat) : Bool := (List.range Q).any fun j => j % g == r && b j
theorem metB_true (b : Nat → Bool) (Q g r : Nat) : metB b Q g r = true ↔ ∃ j, j < Q ∧ j % g = r ∧ b j = true := by
  unfold metB
  rw [List.any_eq_true]
  constructor
  · rintro ⟨j, hj, h⟩
    simp only [Bool.and_eq_true, beq_iff_eq] at h
    exact ⟨j, List.mem_range.1 hj, h.1, h.2⟩
  · rintro ⟨j, hj, h1, h2⟩
    exact ⟨j, List.mem_range.2 hj, by simp [h1, h2]⟩
/-- A ring without what meets nothing in another one. -/
def meet (a b : Nat → Bool) (Q g i : Nat) : Bool := a i && metB b Q g (i % g)

theorem per_of_fwd {f : Nat → Bool} {P r : Nat} (hP : 1 ≤ P) (h : Per f P) (fwd : ∀ x, f x = true → f (x + r) = true) : Per f r := by
  have many : ∀ k x, f x = true → f (x + r * k) = true := fun k => by
    induction k with
    | zero => intro x hx; exact hx
    | succ k ih => intro x hx; rw [Nat.mul_succ, ← Nat.add_assoc]; exact fwd _ (ih x hx)
  intro x
  cases hx : f x
  · cases hy : f (x + r)
    · rfl
    · have := many (P - 1) (x + r) hy
      rw [show x + r + r * (P - 1) = x + P * r by
        obtain ⟨k, rfl⟩ : ∃ k, P = k + 1 := ⟨P - 1, by omega⟩
        simp [Nat.succ_mul, Nat.mul_comm]; omega, h.mul] at this
      rw [hx] at this; cases this
  · exact fwd x hx

theorem meet_per {a b : Nat → Bool} {p q : Nat} (ha : Per a p) : Per (meet a b q (Nat.gcd p q)) p := fun n => by
  unfold meet
  rw [ha n, Nat.add_mod, Nat.mod_eq_zero_of_dvd (Nat.gcd_dvd_left p q), Nat.add_zero, Nat.mod_mod]

theorem meet_round {a b : Nat → Bool} {p q r : Nat} (hp : 1 ≤ p) (hq : 1 ≤ q) (ha : Per a p) (hb : Per b q) (hr : Per (fun i => a i && b i) r) : Per (meet a b q (Nat.gcd p q)) r := by
  refine per_of_fwd hp (meet_per ha) fun x hx => ?_
  unfold meet at hx ⊢
  simp only [Bool.and_eq_true] at hx ⊢
  obtain ⟨h1, h2⟩ := hx
  obtain ⟨j, hj, hjm, hbj⟩ := (metB_true _ _ _ _).1 h2
  obtain ⟨n, n1, n2⟩ := crt hp hq hjm
  have c : (a n && b n) = true := by rw [ha.congr_mod n1, hb.congr_mod n2, h1, hbj]; rfl
  have c2 := hr n
  simp only [c] at c2
  simp only [Bool.and_eq_true] at c2
  refine ⟨?_, (metB_true _ _ _ _).2 ⟨(n + r) % q, Nat.mod_lt _ hq, ?_, ?_⟩⟩
  · rw [← c2.1]
    exact ha.congr_mod (by rw [Nat.add_mod, ← n1, ← Nat.add_mod])
  · rw [Nat.mod_mod_of_dvd _ (Nat.gcd_dvd_right p q)]
    have hg : n % Nat.gcd p q = x % Nat.gcd p q := by
      rw [← Nat.mod_mod_of_dvd n (Nat.gcd_dvd_left p q), n1, Nat.mod_mod_of_dvd _ (Nat.gcd_dvd_left p q)]
    rw [Nat.add_mod, hg, ← Nat.add_mod]
  · rw [hb.of_mod]; exact c2.2

theorem meet_both {a b : Nat → Bool} {p q : Nat} (hp : 1 ≤ p) (hq : 1 ≤ q) (ha : Per a p) (hb : Per b q) (i : Nat) :
    (a i && b i) = (meet a b q (Nat.gcd p q) i && meet b a p (Nat.gcd p q) i) := by
  unfold meet
  cases h1 : a i
  · rfl
  · cases h2 : b i
    · simp
    · have m1 : metB b q (Nat.gcd p q) (i % Nat.gcd p q) = true := (metB_true _ _ _ _).2 ⟨i % q, Nat.mod_lt _ hq, Nat.mod_mod_of_dvd _ (Nat.gcd_dvd_right p q), by rw [hb.of_mod]; exact h2⟩
      have m2 : metB a p (Nat.gcd p q) (i % Nat.gcd p q) = true := (metB_true _ _ _ _).2 ⟨i % p, Nat.mod_lt _ hp, Nat.mod_mod_of_dvd _ (Nat.gcd_dvd_left p q), by rw [ha.of_mod]; exact h1⟩
      rw [m1, m2]; rfl

/-- The round of what is in both. -/
theorem inter_round {S T : Nat → Bool} {h p k q m q1 q2 : Nat} (LS : LeastP S h p) (LT : LeastP T k q) (hm : h ≤ m) (km : k ≤ m)
    (D1 : LeastDiv (meet (fun i => S (m + 1 + i)) (fun i => T (m + 1 + i)) q (Nat.gcd p q)) p q1)
    (D2 : LeastDiv (meet (fun i => T (m + 1 + i)) (fun i => S (m + 1 + i)) p (Nat.gcd p q)) q q2) :
    (∀ n, m < n → (S (n + Nat.lcm q1 q2) && T (n + Nat.lcm q1 q2)) = (S n && T n)) ∧
    ∀ r, 1 ≤ r → (∃ K, ∀ n, K < n → (S (n + r) && T (n + r)) = (S n && T n)) → Nat.lcm q1 q2 ≤ r := by
  have pa : Per (fun i => S (m + 1 + i)) p := fun n => by
    show S (m + 1 + (n + p)) = S (m + 1 + n)
    rw [← Nat.add_assoc]; exact LS.per _ (by omega)
  have pb : Per (fun i => T (m + 1 + i)) q := fun n => by
    show T (m + 1 + (n + q)) = T (m + 1 + n)
    rw [← Nat.add_assoc]; exact LT.per _ (by omega)
  have hb := meet_both LS.pos LT.pos pa pb
  constructor
  · intro n hn
    obtain ⟨i, rfl⟩ : ∃ i, n = m + 1 + i := ⟨n - (m + 1), by omega⟩
    obtain ⟨c1, hc1⟩ := Nat.dvd_lcm_left q1 q2
    obtain ⟨c2, hc2⟩ := Nat.dvd_lcm_right q1 q2
    have e1 := hb (i + Nat.lcm q1 q2)
    have e2 := hb i
    simp only [← Nat.add_assoc] at e1
    rw [e1, e2]
    congr 1
    · rw [hc1]; exact D1.per.mul c1 i
    · rw [hc2]; exact D2.per.mul c2 i
  · rintro r hr ⟨K, hK⟩
    have pr : Per (fun i => (fun i => S (m + 1 + i)) i && (fun i => T (m + 1 + i)) i) r := fun n => by
      show (S (m + 1 + (n + r)) && T (m + 1 + (n + r))) = (S (m + 1 + n) && T (m + 1 + n))
      have hpq : K + 1 ≤ p * q * (K + 1) := Nat.le_mul_of_pos_left _ (Nat.mul_pos LS.pos LT.pos)
      have s1 : ∀ x, m < x → S (x + p * q * (K + 1)) = S x := fun x hx => by rw [Nat.mul_assoc]; exact per_mul LS.per x _ (by omega)
      have t1 : ∀ x, m < x → T (x + p * q * (K + 1)) = T x := fun x hx => by rw [Nat.mul_comm p q, Nat.mul_assoc]; exact per_mul LT.per x _ (by omega)
      have := hK (m + 1 + n + p * q * (K + 1)) (by omega)
      rw [s1 _ (by omega), t1 _ (by omega), show m + 1 + n + p * q * (K + 1) + r = m + 1 + (n + r) + p * q * (K + 1) by omega, s1 _ (by omega), t1 _ (by omega)] at this
      exact this
    have pr2 : Per (fun i => (fun i => T (m + 1 + i)) i && (fun i => S (m + 1 + i)) i) r := fun n => by
      have := pr n
      show (T _ && S _) = (T _ && S _)
      rw [Bool.and_comm (T _), Bool.and_comm (T _)]; exact this
    have d1 := D1.dvd_of (meet_round LS.pos LT.pos pa pb pr)
    have d2 := D2.dvd_of (by rw [Nat.gcd_comm]; exact meet_round LT.pos LS.pos pb pa pr2)
    exact Nat.le_of_dvd hr (Nat.lcm_dvd d1 d2)

/-- When a ring that comes round by a number is told by a comparison of its parts. -/
theorem per_of_parts {f : Nat → Bool} {P q : Nat} (hP : 1 ≤ P) (hf : Per f P) (hq : 1 ≤ q) (hd : q ∣ P) : Per f q ↔ ∀ i, i < P - q → f (q + i) = f i := by
  constructor
  · intro h i _; rw [Nat.add_comm]; exact h i
  · intro h
    have base : ∀ n, n < P → f (n % q) = f n := fun n => by
      induction n using Nat.strongRecOn with
      | ind n ih =>
        intro hn
        rcases Nat.lt_or_ge n q with c | c
        · rw [Nat.mod_eq_of_lt c]
        · have e : n % q = (n - q) % q := Nat.mod_eq_sub_mod c
          rw [e, ih (n - q) (by omega) (by omega), ← h (n - q) (by omega)]
          congr 1
          omega
    intro n
    have h1 := base ((n + q) % P) (Nat.mod_lt _ hP)
    have h2 := base (n % P) (Nat.mod_lt _ hP)
    rw [Nat.mod_mod_of_dvd _ hd, hf.of_mod] at h1 h2
    rw [← h1, ← h2, Nat.add_mod_right]
end Go.Proofs.Ytcfcoojnjdoeeaa
