/- Rings: the least round of one, what meets another one: walks. -/
import Derived.Test.YtcfcoojnjdoeeaaNthM
import Derived.Test.YtcfcoojnjdoeeaaNthG
import Derived.Test.YtcfcoojnjdoeeaaNthE
import Derived.Lib.SlBytesConst
import Derived.Deep.RegionLaw
import Derived.Deep.RegionHeld3
namespace Go.Proofs.Ytcfcoojnjdoeeaa
open Go.RowKit

/-- What leastRound gives. -/
def ToldRound (f : Nat → Bool) (P : Nat) (w : World) (e : Ending) (w' : World) : Prop := ∃ q : Nat, e = .returned (.int .i64 q) ∧ LeastDiv f P q ∧ Below w.heap.size w w'

theorem rdB_drop {w : World} {a : Option Addr} {n cap : Nat} {f : Nat → Bool} (h : RdB w a n cap f) (k : Nat) (hk : k ≤ n) : ∀ b off, a = some ⟨b, off, none⟩ → RdB w (some ⟨b, off + k, none⟩) (n - k) (cap - k) (fun i => f (k + i)) := by
  rintro b off rfl
  obtain ⟨h1, h2, h3⟩ := h
  refine ⟨by omega, by omega, ?_⟩
  rcases h3 with h3 | ⟨b', off', e, hlt, hc⟩
  · exact .inl (by omega)
  · injection e with e
    injection e with e1 e2
    subst e1 e2
    exact .inr ⟨_, _, rfl, hlt, fun i hi => by rw [Nat.add_assoc]; exact hc (k + i) (by omega)⟩
theorem rdB_take {w : World} {a : Option Addr} {n cap : Nat} {f : Nat → Bool} (h : RdB w a n cap f) (k : Nat) (hk : k ≤ n) : RdB w a k cap f := by
  obtain ⟨h1, h2, h3⟩ := h
  refine ⟨by omega, h2, ?_⟩
  rcases h3 with h3 | ⟨b', off', e, hlt, hc⟩
  · exact .inl (by omega)
  · exact .inr ⟨b', off', e, hlt, fun i hi => hc i (by omega)⟩

set_option maxRecDepth 100000 in
set_option maxHeartbeats 4000000 in
theorem leastRound_any (b off P cap : Nat) (f : Nat → Bool) (w : World) (hP : 1 ≤ P ∧ P ≤ 4096) (hf : Per f P) (hr : RdB w (some ⟨b, off, none⟩) P cap f) :
    Calls Try.prog 44 #[.slice (some ⟨b, off, none⟩) P cap] w (ToldRound f P w) := by
  obtain ⟨p1, p2⟩ := hP
  have HR := Lib.hid hr
  have HF := Lib.hid hf
  have hcap : P ≤ cap ∧ cap ≤ 9223372036854775807 := by have := hr.1; have := hr.2.1; unfold maxLen at this; omega
  obtain ⟨hc1, hc2⟩ := hcap
  clear hr hf
  go_enter Try.func44, Try.ntmps44
  go_wp2
  go_loopw [3] (fun i wr => ∃ q : Nat, 1 ≤ q ∧ q ≤ P ∧ i = .int .i64 q ∧ Hid (∀ d, 1 ≤ d → d < q → d ∣ P → ¬ Per f d) ∧ Below w.heap.size w wr) (fun i _ => P - (intOf i).toNat)
  case atStart => exact ⟨1, by omega, by omega, rfl, Lib.hid (fun d h1 h2 => by omega), Below.refl _ _⟩
  case round =>
    obtain ⟨q, hq1, hq2, rfl, hno, hbl⟩ := hrel
    have nq : ((q : Int) == 0) = false := beq_eq_false_iff_ne.2 (by omega)
    by_cases hlt : q < P
    · have hlt' : (q : Int) < (P : Int) := by omega
      have hmod : (P : Int) % (q : Int) = ((P % q : Nat) : Int) := by simp
      by_cases hd : q ∣ P
      · have hz : P % q = 0 := Nat.mod_eq_zero_of_dvd hd
        have m1 : ((P : Int) % (q : Int) == 0) = true := by rw [hmod, hz]; rfl
        have hi := per_of_parts p1 HF.out hq1 hd
        have hRD := rdB_drop (HR.out.later hbl) q (by omega) b off rfl
        have hRT := rdB_take (HR.out.later hbl) (P - q) (by omega)
        have cE := fun n => equal_q _ _ _ _ _ _ _ _ (wr.drewN n) hRD hRT
        have hS : decide (P - q = P - q ∧ ∀ i, i < P - q → f (q + i) = f i) = decide (∀ i, i < P - q → f (q + i) = f i) := by simp
        rw [hS] at cE
        obtain ⟨r, hr⟩ : ∃ r, decide (∀ i, i < P - q → f (q + i) = f i) = r := ⟨_, rfl⟩
        rw [hr] at cE
        have HRR := Lib.hid hr
        have HI := Lib.hid hi
        clear hr hS hi hRD hRT hmod hz
        have w1 : wrap64 ((P : Int) - (q : Int)) = ((P - q : Nat) : Int) := by unfold wrap64; omega
        have wm : IntKind.i64.wrap ((P : Int).tmod (q : Int)) = 0 := by
          rw [Int.tmod_eq_emod_of_nonneg (by omega), show (P : Int) % (q : Int) = 0 by exact_mod_cast Nat.mod_eq_zero_of_dvd hd, IntWalk.i64_in _ (by omega)]
        have wm' : IntKind.i64.wrap ((P : Int) % (q : Int)) = 0 := by
          rw [show (P : Int) % (q : Int) = 0 by exact_mod_cast Nat.mod_eq_zero_of_dvd hd, IntWalk.i64_in _ (by omega)]
        have i0 : (1 : Int) ≤ (q : Int) := by omega
        have w2 : IntKind.i64.wrap ((P : Int) - (q : Int)) = ((P - q : Nat) : Int) := by rw [IntWalk.i64_in _ (by omega)]; omega
        have i1 : (0 : Int) ≤ (q : Int) := by omega
        have i2 : (q : Int) ≤ (P : Int) := by omega
        have i3 : (P : Int) ≤ (cap : Int) := by omega
        have i4 : (0 : Int) ≤ ((P - q : Nat) : Int) := by omega
        have i5 : ((P - q : Nat) : Int) ≤ (cap : Int) := by omega
        have i6 : ¬ cap = q := by omega
        have i7 : ¬ cap - q = 0 := by omega
        cases r
        · go_wp2_with fail
          go_quiet ((go_at_call 32; exact Calls.quiet_of (cE _)))
          have HN := Lib.hid (show ∀ d, 1 ≤ d → d < q + 1 → d ∣ P → ¬ Per f d from fun d h1 h2 h3 h4 => by
            rcases Nat.lt_or_ge d q with c | c
            · exact hno.out d h1 c h3 h4
            · obtain rfl : d = q := by omega
              exact absurd (decide_eq_true (HI.out.1 h4)) (by rw [HRR.out]; simp))
          clear hno HI HRR hd
          go_wp2
          go_roundw
          case rel => exact ⟨q + 1, by omega, by omega, by go_num, HN, below_drewN hbl _⟩
          case measure => simp [intOf]; omega
        · have HL := Lib.hid (show LeastDiv f P q from ⟨hq1, hd, HI.out.2 (of_decide_eq_true HRR.out), fun d h1 h2 h3 => by
            rcases Nat.lt_or_ge d q with c | c
            · exact absurd h3 (hno.out d h1 c h2)
            · exact c⟩)
          clear hno HI HRR hd
          go_wp2_with fail
          go_quiet ((go_at_call 32; exact Calls.quiet_of (cE _)))
          go_wp2
          go_ret
          exact ⟨q, rfl, HL.out, below_drewN hbl _⟩
      · have HN := Lib.hid (show ∀ d, 1 ≤ d → d < q + 1 → d ∣ P → ¬ Per f d from fun d h1 h2 h3 h4 => by
          rcases Nat.lt_or_ge d q with c | c
          · exact hno.out d h1 c h3 h4
          · obtain rfl : d = q := by omega
            exact hd h3)
        have hz : P % q ≠ 0 := fun h => hd (Nat.dvd_of_mod_eq_zero h)
        have hlt2 := Nat.mod_lt P hq1
        generalize P % q = r at *
        have m1 : ((P : Int) % (q : Int) == 0) = false := by rw [hmod]; exact beq_eq_false_iff_ne.2 (by omega)
        have HM := Lib.hid hmod
        have i1 : (1 : Int) ≤ (q : Int) := by omega
        clear hno hd hmod
        go_wp2_with fail
        go_quiet (fail)
        go_wp2
        go_roundw
        case rel => exact ⟨q + 1, by omega, by omega, by go_num, HN, below_drewN hbl _⟩
        case measure => simp [intOf]; omega
    · obtain rfl : q = P := by omega
      have HL := Lib.hid (show LeastDiv f q q from ⟨hq1, Nat.dvd_refl _, HF.out, fun d h1 h2 h3 => by
        rcases Nat.lt_or_ge d q with c | c
        · exact absurd h3 (hno.out d h1 c h2)
        · exact c⟩)
      clear hno
      go_wp2
      go_ret
      exact ⟨q, rfl, HL.out, hbl⟩
end Go.Proofs.Ytcfcoojnjdoeeaa
