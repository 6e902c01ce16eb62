/- Span of a list of An+B, by the document: walks. -/
import Derived.Test.YtcfcoojnjdoeeaaNthSp
namespace Go.Proofs.Ytcfcoojnjdoeeaa
open Go.RowKit

theorem spanH_pos {a b : Int} (h : Nat) (ha : 0 < a) : ((max h (spanH a b) : Nat) : Int) = max (h : Int) (b - 1) := by
  unfold spanH; rw [if_pos ha]; omega
theorem spanH_neg {a b : Int} (h : Nat) (ha : ¬ 0 < a) : ((max h (spanH a b) : Nat) : Int) = max (h : Int) b := by
  unfold spanH; rw [if_neg ha]; omega
/-- What a round of the document's Span does to the round. -/
theorem rspan_mul (p A : Nat) (hp : 1 ≤ p) (hA : 1 ≤ A) : ∃ g n, Nat.gcd p A = g ∧ 1 ≤ g ∧ A / g = n ∧ 1 ≤ n ∧ n ≤ A ∧ ((4611686018427387904 / n < p ∧ mulF p A = 4611686018427387904) ∨ (¬ 4611686018427387904 / n < p ∧ mulF p A = p * n)) := by
  have hg : 0 < Nat.gcd p A := Nat.gcd_pos_of_pos_left _ (by omega)
  refine ⟨_, _, rfl, hg, rfl, Nat.div_pos (Nat.gcd_le_right _ (by omega)) hg, Nat.div_le_self _ _, ?_⟩
  rw [mulF_ref p A hp hA]
  by_cases h : 4611686018427387904 / (A / Nat.gcd p A) < p
  · exact .inl ⟨h, if_pos h⟩
  · exact .inr ⟨h, if_neg h⟩
theorem spanR_pos (A : Nat) (hA : 1 ≤ A) : spanR (A : Int) = A := by unfold spanR; omega
theorem spanR_neg (A : Nat) (hA : 1 ≤ A) : spanR (-(A : Int)) = A := by unfold spanR; omega
theorem spanR_zero : spanR 0 = 1 := rfl
theorem mulF_one (p : Nat) (hp : p ≤ 4611686018427387904) : mulF p 1 = p := by
  unfold mulF; rw [Nat.gcd_one_right]; simp; omega

theorem wrap64_nat (n : Nat) (h : n ≤ 4611686018427387904) : wrap64 (n : Int) = n := by unfold wrap64; omega

set_option maxRecDepth 100000 in
set_option maxHeartbeats 4000000 in
theorem rspan_any (a : Option Addr) (n cap : Nat) (xs : List (Int × Int)) (hn : xs.length = n) (hcap : n ≤ 1000) (w : World) (hr : RdP w a xs) (hx : Fits xs) :
    Calls Try.prog 17 #[.slice a n cap] w (ToldB (.tuple #[.int .i64 ((spanF xs).1 : Nat), .int .i64 ((spanF xs).2 : Nat)]) w) := by
  have HN := Lib.hid hn
  have HR := Lib.hid hr
  have HX := Lib.hid hx
  clear hn hr hx
  obtain ⟨F, hF⟩ : ∃ F, spanF xs = F := ⟨_, rfl⟩
  have HF := Lib.hid hF
  rw [hF]
  clear hF
  go_enter Try.func17, Try.ntmps17
  go_wp2
  go_loopw [4, 5, 6, 7, 8, 9] (fun hv pv i _ _ _ wr => ∃ k : Nat, k ≤ n ∧ i = .int .i64 k ∧ (∃ h p : Nat, hv = .int .i64 h ∧ pv = .int .i64 p ∧ Hid (spanF (xs.take k) = (h, p))) ∧ Below w.heap.size w wr) (fun _ _ i _ _ _ _ => n - (intOf i).toNat)
  case atStart => exact ⟨0, by omega, rfl, ⟨0, 1, rfl, rfl, Lib.hid rfl⟩, Below.refl _ _⟩
  case round =>
    obtain ⟨k, hk, rfl, ⟨h, p, rfl, rfl, hs⟩, hbl⟩ := hrel
    by_cases hlt : k < n
    · obtain ⟨x, hxk⟩ : ∃ x, xs[k]? = some x := ⟨_, List.getElem?_eq_getElem (by rw [HN.out]; exact hlt)⟩
      have hfx := HX.out x (List.mem_of_getElem? hxk)
      have hbd := spanF_bd (xs.take k) (fun y hy => HX.out y (List.mem_of_mem_take hy))
      rw [hs.out] at hbd
      obtain ⟨hb1, hb2, hb3⟩ := hbd
      have hsn := spanF_snoc (xs.take k) x
      rw [← take_snocP hxk, hs.out] at hsn
      rcases HR.out.later hbl with h0 | ⟨b, off, rfl, hlt2, hc⟩
      · rw [h0] at hxk; cases hxk
      obtain ⟨c0, c1⟩ := hc k x hxk
      clear hc hs
      obtain ⟨x1, x2⟩ := x
      simp only at c0 c1 hfx
      obtain ⟨⟨f1, f2⟩, f3, f4⟩ := hfx
      have hst : spanStep (h, p) (x1, x2) = (max h (spanH x1 x2), mulF p (spanR x1)) := rfl
      rw [hst] at hsn
      have HS := Lib.hid hsn
      clear hst hsn
      have hkI : (0 : Int) ≤ (k : Int) := by omega
      have hkI2 : (k : Int) < (n : Int) := by omega
      rcases Int.lt_trichotomy x1 0 with h1 | h1 | h1
      · obtain ⟨A, rfl⟩ : ∃ A : Nat, x1 = -(A : Int) := ⟨x1.natAbs, by omega⟩
        have hA : 1 ≤ A := by omega
        have hmax := Lib.hid (spanH_neg (b := x2) h (show ¬ 0 < -(A : Int) by omega))
        rw [spanR_neg A hA] at HS
        have hng : - -(A : Int) = A := by omega
        have hwn : wrap64 (- -(A : Int)) = A := by unfold wrap64; omega
        obtain ⟨g, q, hg, hg1, hq, hq1, hqA, hor⟩ := rspan_mul p A hb2 hA
        have cD := fun w => rdivisor_any p A w hb3 (by omega)
        rw [hg] at cD
        have gA : ((A : Int) == 0) = false := beq_eq_false_iff_ne.2 (by omega)
        have gA2 : (((A : Nat) : Int) == 0) = false := gA
        have gg : ((g : Int) == 0) = false := beq_eq_false_iff_ne.2 (by omega)
        have gq : ((q : Int) == 0) = false := beq_eq_false_iff_ne.2 (by omega)
        have hdq : (A : Int) / (g : Int) = q := by rw [← hq]; simp
        have hle := mulF_le p A hA
        generalize mulF p A = M at *
        have h62 : (4611686018427387904 : Int) / (q : Int) = ((4611686018427387904 / q : Nat) : Int) := by simp
        generalize hB : 4611686018427387904 / q = B at *
        clear hg hq hB
        rcases hor with ⟨ho, rfl⟩ | ⟨ho, hM⟩
        · have ho' : (B : Int) < (p : Int) := by omega
          by_cases hmx : (h : Int) < x2
          all_goals
            have hm2 := hmax.out
            first | rw [Int.max_eq_right (by omega)] at hm2 | rw [Int.max_eq_left (by omega)] at hm2
            have HM2 := Lib.hid hm2
            clear hm2 hmax
            go_wp2
            go_quiet (fail)
            go_wp2_with (go_at_call 40; refine (cD _).mono ?_; rintro e w2 ⟨rfl, hb⟩)
            have B2 := (below_drewN hbl _).trans (hb.mono hbl.size)
            go_roundw
            case rel => exact ⟨k + 1, by omega, by go_num, ⟨_, _, by rw [HM2.out], rfl, HS⟩, B2⟩
            case measure => simp [intOf]; omega
        · have hmw : wrap64 ((p : Int) * (q : Int)) = M := by rw [← Int.natCast_mul, ← hM]; exact wrap64_nat _ (by omega)
          have HMW := Lib.hid hmw
          have ho' : ¬ (B : Int) < (p : Int) := by omega
          clear hmw hM
          by_cases hmx : (h : Int) < x2
          all_goals
            have hm2 := hmax.out
            first | rw [Int.max_eq_right (by omega)] at hm2 | rw [Int.max_eq_left (by omega)] at hm2
            have HM2 := Lib.hid hm2
            clear hm2 hmax
            go_wp2
            go_quiet (fail)
            go_wp2_with (go_at_call 40; refine (cD _).mono ?_; rintro e w2 ⟨rfl, hb⟩)
            have B2 := (below_drewN hbl _).trans (hb.mono hbl.size)
            go_roundw
            case rel => exact ⟨k + 1, by omega, by go_num, ⟨_, _, by rw [HM2.out], by rw [HMW.out], HS⟩, B2⟩
            case measure => simp [intOf]; omega
      · subst h1
        have hmax := Lib.hid (spanH_neg (a := 0) (b := x2) h (by omega))
        rw [spanR_zero, mulF_one p hb3] at HS
        by_cases hmx : (h : Int) < x2
        all_goals
          have hm2 := hmax.out
          first | rw [Int.max_eq_right (by omega)] at hm2 | rw [Int.max_eq_left (by omega)] at hm2
          have HM2 := Lib.hid hm2
          clear hm2 hmax
          go_wp2
          go_quiet (fail)
          go_wp2
          go_roundw
          case rel => exact ⟨k + 1, by omega, by go_num, ⟨_, _, by rw [HM2.out], rfl, HS⟩, below_drewN hbl _⟩
          case measure => simp [intOf]; omega
      · obtain ⟨A, rfl⟩ : ∃ A : Nat, x1 = (A : Int) := ⟨x1.natAbs, by omega⟩
        have hA : 1 ≤ A := by omega
        have hmax := Lib.hid (spanH_pos (b := x2) h h1)
        rw [spanR_pos A hA] at HS
        obtain ⟨g, q, hg, hg1, hq, hq1, hqA, hor⟩ := rspan_mul p A hb2 hA
        have cD := fun w => rdivisor_any p A w hb3 (by omega)
        rw [hg] at cD
        have gA : ((A : Int) == 0) = false := beq_eq_false_iff_ne.2 (by omega)
        have gA2 : (((A : Nat) : Int) == 0) = false := gA
        have gg : ((g : Int) == 0) = false := beq_eq_false_iff_ne.2 (by omega)
        have gq : ((q : Int) == 0) = false := beq_eq_false_iff_ne.2 (by omega)
        have hdq : (A : Int) / (g : Int) = q := by rw [← hq]; simp
        have hle := mulF_le p A hA
        generalize mulF p A = M at *
        have h62 : (4611686018427387904 : Int) / (q : Int) = ((4611686018427387904 / q : Nat) : Int) := by simp
        generalize hB : 4611686018427387904 / q = B at *
        clear hg hq hB
        rcases hor with ⟨ho, rfl⟩ | ⟨ho, hM⟩
        · have ho' : (B : Int) < (p : Int) := by omega
          by_cases hmx : (h : Int) < x2 - 1
          all_goals
            have hm2 := hmax.out
            first | rw [Int.max_eq_right (by omega)] at hm2 | rw [Int.max_eq_left (by omega)] at hm2
            have HM2 := Lib.hid hm2
            clear hm2 hmax
            go_wp2
            go_quiet (fail)
            go_wp2_with (go_at_call 40; refine (cD _).mono ?_; rintro e w2 ⟨rfl, hb⟩)
            have B2 := (below_drewN hbl _).trans (hb.mono hbl.size)
            go_roundw
            case rel => exact ⟨k + 1, by omega, by go_num, ⟨_, _, by rw [HM2.out], rfl, HS⟩, B2⟩
            case measure => simp [intOf]; omega
        · have hmw : wrap64 ((p : Int) * (q : Int)) = M := by rw [← Int.natCast_mul, ← hM]; exact wrap64_nat _ (by omega)
          have HMW := Lib.hid hmw
          have ho' : ¬ (B : Int) < (p : Int) := by omega
          clear hmw hM
          by_cases hmx : (h : Int) < x2 - 1
          all_goals
            have hm2 := hmax.out
            first | rw [Int.max_eq_right (by omega)] at hm2 | rw [Int.max_eq_left (by omega)] at hm2
            have HM2 := Lib.hid hm2
            clear hm2 hmax
            go_wp2
            go_quiet (fail)
            go_wp2_with (go_at_call 40; refine (cD _).mono ?_; rintro e w2 ⟨rfl, hb⟩)
            have B2 := (below_drewN hbl _).trans (hb.mono hbl.size)
            go_roundw
            case rel => exact ⟨k + 1, by omega, by go_num, ⟨_, _, by rw [HM2.out], by rw [HMW.out], HS⟩, B2⟩
            case measure => simp [intOf]; omega
    · obtain rfl : k = n := by omega
      have he : xs.take k = xs := List.take_of_length_le (by rw [HN.out]; omega)
      rw [he] at hs
      obtain rfl : F = (h, p) := HF.out.symm.trans hs.out
      clear hs he HF HN
      go_wp2
      go_ret2
      exact ⟨rfl, hbl⟩
end Go.Proofs.Ytcfcoojnjdoeeaa
