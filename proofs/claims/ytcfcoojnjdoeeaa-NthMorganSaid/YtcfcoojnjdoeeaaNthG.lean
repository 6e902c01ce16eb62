/- Greatest common divisors, least common multiples: walks. -/
import Derived.Test.YtcfcoojnjdoeeaaNthO
namespace Go.Proofs.Ytcfcoojnjdoeeaa
open Go.RowKit

set_option maxRecDepth 100000 in
set_option maxHeartbeats 1000000 in
theorem divisor_any (a b : Nat) (w : World) (ha : a ≤ 4611686018427387904) (hb : b ≤ 4611686018427387904) :
    Calls Try.prog 43 #[.int .i64 a, .int .i64 b] w (ToldB (.int .i64 (Nat.gcd a b : Nat)) w) := by
  obtain ⟨g, hg⟩ : ∃ g, Nat.gcd a b = g := ⟨_, rfl⟩
  have HG := Lib.hid hg
  rw [hg]
  clear hg
  go_enter Try.func43, Try.ntmps43
  go_wp2
  go_loopw [0, 1] (fun u v wr => ∃ x y : Nat, u = .int .i64 x ∧ v = .int .i64 y ∧ Hid (Nat.gcd x y = g) ∧ x ≤ 4611686018427387904 ∧ y ≤ 4611686018427387904 ∧ Below w.heap.size w wr) (fun _ v _ => (intOf v).toNat)
  case atStart => exact ⟨a, b, rfl, rfl, HG, ha, hb, Below.refl _ _⟩
  case round =>
    obtain ⟨x, y, rfl, rfl, hg, hx, hy, hbl⟩ := hrel
    by_cases hy0 : 0 < y
    · have hlt : x % y < y := Nat.mod_lt _ hy0
      have hne : ((y : Int) == 0) = false := beq_eq_false_iff_ne.2 (by omega)
      have hG := Lib.hid (show Nat.gcd y (x % y) = g by rw [← hg.out, Nat.gcd_comm x y, Nat.gcd_rec y x, Nat.gcd_comm])
      have hE : (x : Int) % (y : Int) = ((x % y : Nat) : Int) := by simp
      have hb1 : (0 : Int) ≤ (x : Int) % (y : Int) ∧ (x : Int) % (y : Int) < y := by rw [hE]; omega
      obtain ⟨m1, m2⟩ := hb1
      have HE := Lib.hid hE
      clear hE hg
      go_wp2_with fail
      go_quiet (fail)
      go_wp2
      go_roundw
      case rel => exact ⟨y, x % y, rfl, by rw [HE.out], hG, hy, by omega, below_drewN hbl _⟩
      case measure => simp [intOf]; omega
    · obtain rfl : y = 0 := by omega
      obtain rfl : x = g := by have := hg.out; simpa using this
      clear hg HG
      go_wp2
      go_ret
      exact ⟨rfl, hbl⟩

/-- The least common multiple, no greater than 2^62. -/
def mulF (a b : Nat) : Nat := if 4611686018427387904 / b < a / Nat.gcd a b then 4611686018427387904 else a / Nat.gcd a b * b
theorem mulF_le (a b : Nat) (_hb : 1 ≤ b) : mulF a b ≤ 4611686018427387904 := by
  unfold mulF
  split
  · omega
  · rename_i h
    have h1 : a / Nat.gcd a b ≤ 4611686018427387904 / b := by omega
    exact Nat.le_trans (Nat.mul_le_mul_right b h1) (Nat.div_mul_le_self _ _)
theorem mulF_pos (a b : Nat) (ha : 1 ≤ a) (hb : 1 ≤ b) : 1 ≤ mulF a b := by
  unfold mulF
  split
  · omega
  · have : 0 < a / Nat.gcd a b := Nat.div_pos (Nat.gcd_le_left _ (by omega)) (Nat.gcd_pos_of_pos_left _ (by omega))
    exact Nat.mul_pos this hb
theorem mulF_lcm (a b : Nat) (hb : 1 ≤ b) (h : a * b ≤ 4611686018427387904) : mulF a b = Nat.lcm a b := by
  unfold mulF
  have e : a / Nat.gcd a b * b = Nat.lcm a b := by
    unfold Nat.lcm
    rw [Nat.mul_div_right_comm (Nat.gcd_dvd_left a b)]
  rw [if_neg, e]
  have h1 : a / Nat.gcd a b ≤ a := Nat.div_le_self _ _
  have h2 : a ≤ 4611686018427387904 / b := (Nat.le_div_iff_mul_le hb).2 h
  omega

set_option maxRecDepth 100000 in
set_option maxHeartbeats 1000000 in
theorem multiple_any (a b : Nat) (w : World) (ha : 1 ≤ a ∧ a ≤ 4611686018427387904) (hb : 1 ≤ b ∧ b ≤ 4611686018427387904) :
    Calls Try.prog 38 #[.int .i64 a, .int .i64 b] w (ToldB (.int .i64 (mulF a b : Nat)) w) := by
  obtain ⟨a1, a2⟩ := ha
  obtain ⟨b1, b2⟩ := hb
  have hD := fun w => divisor_any a b w a2 b2
  have hg : 0 < Nat.gcd a b := Nat.gcd_pos_of_pos_left _ (by omega)
  have hM : mulF a b = if 4611686018427387904 / b < a / Nat.gcd a b then 4611686018427387904 else a / Nat.gcd a b * b := rfl
  have hle := mulF_le a b b1
  have ht : a / Nat.gcd a b ≤ a := Nat.div_le_self _ _
  generalize mulF a b = M at *
  generalize Nat.gcd a b = g at *
  have hdiv : (a : Int) / (g : Int) = ((a / g : Nat) : Int) := by simp
  have hdiv2 : (4611686018427387904 : Int) / (b : Int) = ((4611686018427387904 / b : Nat) : Int) := by simp
  have hq : 4611686018427387904 / b ≤ 4611686018427387904 := Nat.div_le_self _ _
  generalize a / g = t at *
  generalize hqq : 4611686018427387904 / b = q at *
  have nb : ((b : Int) == 0) = false := beq_eq_false_iff_ne.2 (by omega)
  have ng : ((g : Int) == 0) = false := beq_eq_false_iff_ne.2 (by omega)
  clear hqq
  by_cases hc : q < t
  · rw [if_pos hc] at hM
    subst hM
    have hc' : (q : Int) < (t : Int) := by omega
    go_enter Try.func38, Try.ntmps38
    go_wp2_with (go_at_call 43; refine (hD _).mono ?_; rintro e w1 ⟨rfl, hb1⟩)
    go_ret
    exact ⟨rfl, hb1⟩
  · rw [if_neg hc] at hM
    have hm : (t : Int) * (b : Int) = ((M : Nat) : Int) := by rw [hM]; simp
    have hc' : ¬ (q : Int) < (t : Int) := by omega
    have hmw : wrap64 ((t : Int) * (b : Int)) = M := by rw [hm]; unfold wrap64; omega
    have HM := Lib.hid hM
    clear hM hm
    go_enter Try.func38, Try.ntmps38
    go_wp2_with (go_at_call 43; refine (hD _).mono ?_; rintro e w1 ⟨rfl, hb1⟩)
    go_ret
    exact ⟨ret_int hmw, hb1⟩

theorem mulF_ref (p b : Nat) (hp : 1 ≤ p) (hb : 1 ≤ b) : mulF p b = if 4611686018427387904 / (b / Nat.gcd p b) < p then 4611686018427387904 else p * (b / Nat.gcd p b) := by
  unfold mulF
  have hg : 0 < Nat.gcd p b := Nat.gcd_pos_of_pos_left _ (by omega)
  have e : p / Nat.gcd p b * b = p * (b / Nat.gcd p b) := by
    rw [← Nat.mul_div_right_comm (Nat.gcd_dvd_left p b), Nat.mul_div_assoc _ (Nat.gcd_dvd_right p b)]
  have hn : 0 < b / Nat.gcd p b := Nat.div_pos (Nat.gcd_le_right _ (by omega)) hg
  have i1 : 4611686018427387904 / b < p / Nat.gcd p b ↔ 4611686018427387904 < p / Nat.gcd p b * b := Nat.div_lt_iff_lt_mul (by omega)
  have i2 : 4611686018427387904 / (b / Nat.gcd p b) < p ↔ 4611686018427387904 < p * (b / Nat.gcd p b) := Nat.div_lt_iff_lt_mul hn
  rw [← e] at i2
  by_cases h : 4611686018427387904 < p / Nat.gcd p b * b
  · rw [if_pos (i1.2 h), if_pos (i2.2 h)]
  · rw [if_neg (fun x => h (i1.1 x)), if_neg (fun x => h (i2.1 x)), e]

set_option maxRecDepth 100000 in
set_option maxHeartbeats 1000000 in
theorem rdivisor_any (a b : Nat) (w : World) (ha : a ≤ 4611686018427387904) (hb : b ≤ 4611686018427387904) :
    Calls Try.prog 40 #[.int .i64 a, .int .i64 b] w (ToldB (.int .i64 (Nat.gcd a b : Nat)) w) := by
  obtain ⟨g, hg⟩ : ∃ g, Nat.gcd a b = g := ⟨_, rfl⟩
  have HG := Lib.hid hg
  rw [hg]
  clear hg
  go_enter Try.func40, Try.ntmps40
  go_wp2
  go_loop [0, 1, 5] (fun u v _ => ∃ x y : Nat, u = .int .i64 x ∧ v = .int .i64 y ∧ Hid (Nat.gcd x y = g) ∧ x ≤ 4611686018427387904 ∧ y ≤ 4611686018427387904) (fun _ v _ => (intOf v).toNat)
  case atStart => exact ⟨a, b, rfl, rfl, HG, ha, hb⟩
  case round =>
    obtain ⟨x, y, rfl, rfl, hg, hx, hy⟩ := hrel
    by_cases hy0 : 0 < y
    · have hlt : x % y < y := Nat.mod_lt _ hy0
      have hne : ((y : Int) == 0) = false := beq_eq_false_iff_ne.2 (by omega)
      have hne2 : ((y : Int) != 0) = true := by rw [bne, hne]; rfl
      have hG := Lib.hid (show Nat.gcd y (x % y) = g by rw [← hg.out, Nat.gcd_comm x y, Nat.gcd_rec y x, Nat.gcd_comm])
      have hE : (x : Int) % (y : Int) = ((x % y : Nat) : Int) := by simp
      have hb1 : (0 : Int) ≤ (x : Int) % (y : Int) ∧ (x : Int) % (y : Int) < y := by rw [hE]; omega
      obtain ⟨m1, m2⟩ := hb1
      have HE := Lib.hid hE
      clear hE hg
      go_wp2
      go_round
      case rel => exact ⟨y, x % y, rfl, by rw [HE.out], hG, hy, by omega⟩
      case measure => simp [intOf]; omega
    · obtain rfl : y = 0 := by omega
      obtain rfl : x = g := by have := hg.out; simpa using this
      clear hg HG
      go_wp2
      go_ret
      exact ⟨rfl, Below.refl _ _⟩
theorem wrap64_small (n : Nat) (h : n ≤ 1099511627776) : wrap64 (n : Int) = n := by unfold wrap64; omega
theorem fold_step (h p m : Nat) (p1 : 1 ≤ p) (hc : h + p < m) (hm : m ≤ 1099511627776) : ∃ q pq : Nat, ((m : Int) - h - 1).tdiv (p : Int) = q ∧ wrap64 ((p : Int) * (q : Int)) = pq ∧ wrap64 ((m : Int) - (pq : Int)) = ((m - pq : Nat) : Int) ∧
    foldN h p (m - pq) = foldN h p m ∧ 1 ≤ pq ∧ pq ≤ m ∧ q ≤ 1099511627776 := by
  have hdp : 0 < (m - h - 1) / p := Nat.div_pos (by omega) p1
  have hqq : (m - h - 1) / p ≤ m - h - 1 := Nat.div_le_self _ _
  have hle : p * ((m - h - 1) / p) ≤ m - h - 1 := Nat.mul_div_le _ _
  have hpos : p ≤ p * ((m - h - 1) / p) := Nat.le_mul_of_pos_right _ hdp
  refine ⟨(m - h - 1) / p, p * ((m - h - 1) / p), ?_, ?_, ?_, ?_, by omega, by omega, by omega⟩
  · rw [Int.tdiv_eq_ediv_of_nonneg (by omega), show (m : Int) - h - 1 = ((m - h - 1 : Nat) : Int) by omega]
    simp
  · rw [← Int.natCast_mul]
    exact wrap64_small _ (by omega)
  · rw [show (m : Int) - ((p * ((m - h - 1) / p) : Nat) : Int) = ((m - p * ((m - h - 1) / p) : Nat) : Int) by omega]
    exact wrap64_small _ (by omega)
  · have hlt := Nat.mod_lt (m - h - 1) p1
    have hdm := Nat.div_add_mod (m - h - 1) p
    unfold foldN
    rw [if_neg (by omega), if_neg (by omega)]
    rw [show m - p * ((m - h - 1) / p) - h - 1 = (m - h - 1) % p by omega, Nat.mod_eq_of_lt hlt]

set_option maxRecDepth 100000 in
set_option maxHeartbeats 1000000 in
theorem rfold_any (h p n : Nat) (w : World) (hh : h ≤ 1099511627776) (hp : 1 ≤ p ∧ p ≤ 4611686018427387904) (hn : n ≤ 1099511627776) :
    Calls Try.prog 19 #[.int .i64 h, .int .i64 p, .int .i64 n] w (ToldB (.int .i64 (foldN h p n : Nat)) w) := by
  obtain ⟨p1, p2⟩ := hp
  obtain ⟨r, hr⟩ : ∃ r, foldN h p n = r := ⟨_, rfl⟩
  have HR := Lib.hid hr
  rw [hr]
  clear hr
  go_enter Try.func19, Try.ntmps19
  go_wp2
  go_loop [2] (fun v => ∃ m : Nat, v = .int .i64 m ∧ Hid (foldN h p m = r) ∧ m ≤ 1099511627776) (fun v => (intOf v).toNat)
  case atStart => exact ⟨n, rfl, HR, hn⟩
  case round =>
    obtain ⟨m, rfl, hm, hml⟩ := hrel
    clear HR
    by_cases hc : h + p < m
    · obtain ⟨q, pq, hwd, hwm, hws, hfo, hp0, hp3, hq⟩ := fold_step h p m p1 hc hml
      have HN := Lib.hid (hfo.trans hm.out)
      have HWS := Lib.hid hws
      have np : ((p : Int) == 0) = false := beq_eq_false_iff_ne.2 (by omega)
      have p1' : (1 : Int) ≤ (p : Int) := by omega
      have hc' : (h : Int) + (p : Int) < (m : Int) := by omega
      have HP0 := Lib.hid hp0
      have HP3 := Lib.hid hp3
      clear hws hfo hm hp3 hp0
      go_wp2
      go_round
      case rel => exact ⟨m - pq, by rw [HWS.out], HN, by have := HP3.out; omega⟩
      case measure => have h0 := HP0.out; have h3 := HP3.out; rw [HWS.out]; simp only [intOf]; clear HWS HN hwd hwm; omega
    · have e : foldN h p m = m := by
        unfold foldN
        split
        · rfl
        · rw [Nat.mod_eq_of_lt (by omega)]; omega
      obtain rfl : m = r := by rw [← hm.out, e]
      have p1' : (1 : Int) ≤ (p : Int) := by omega
      have hc' : ¬ ((h : Int) + (p : Int) < (m : Int)) := by omega
      clear hm e
      go_wp2
      go_ret
      exact ⟨rfl, Below.refl _ _⟩
end Go.Proofs.Ytcfcoojnjdoeeaa
