/- Several texts of mine in one. -/
import Derived.Test.YtickcbmfboajiaaGreatDoorFC
namespace Go.Proofs.YtickcbmfboajiaaGreatDoor
section
open Go.RowKit

set_option maxRecDepth 100000 in
set_option maxHeartbeats 1000000 in
theorem ris_any {a : Option Addr} {n cap : Nat} {l : List Int} {w : World} (i : Int) (k : Nat) (c : Int) (h : Src w a n cap l) (hi : i = (k : Int)) (hc : c ≠ 0) :
    Calls Tryz.prog 76 #[.slice a n cap, .int .i64 i, .int .i64 c] w (Tells (.bool (isB l k c)) w) := by
  subst hi
  obtain ⟨hcap1, hcap2⟩ := h.cap
  by_cases hk : k < n
  · obtain ⟨b, off, rfl, hcell⟩ := h.cell k hk
    have q : (chA l k == c) = isB l k c := by unfold isB; rfl
    have hlt : (k : Int) < (n : Int) := by omega
    clear h hk hc
    generalize chA l k = v at *
    generalize isB l k c = r at *
    go_enter Tryz.func76, Tryz.ntmps76
    go_wp2
    go_ret
    exact ⟨rfl, rfl⟩
  · have q : isB l k c = false := decide_eq_false (by rw [chA_end l k (by rw [h.len]; omega)]; exact fun e => hc e.symm)
    rw [q]
    have hlt : ¬ (k : Int) < (n : Int) := by omega
    clear h hk hc q
    go_enter Tryz.func76, Tryz.ntmps76
    go_wp2
    go_ret
    exact ⟨rfl, rfl⟩

set_option maxRecDepth 100000 in
set_option maxHeartbeats 1000000 in
theorem rspaceAt {a : Option Addr} {n cap : Nat} {l : List Int} {w : World} (i : Int) (k : Nat) (h : Src w a n cap l) (hi : i = (k : Int)) :
    Calls Tryz.prog 72 #[.slice a n cap, .int .i64 i] w (Tells (.bool (spB l k)) w) := by
  subst hi
  obtain ⟨hcap1, hcap2⟩ := h.cap
  by_cases hk : k < n
  · obtain ⟨b, off, rfl, hcell⟩ := h.cell k hk
    have hs := fun w => rspace_any (chA l k) w (chA_ch h.pre k)
    have q : spaceB (chA l k) = spB l k := rfl
    have hlt : (k : Int) < (n : Int) := by omega
    clear h hk
    rw [q] at hs
    clear q
    generalize chA l k = v at *
    generalize spB l k = r at *
    go_enter Tryz.func72, Tryz.ntmps72
    go_wp2_with (go_at_call 71; refine (hs _).mono ?_; rintro e w1 ⟨rfl, rfl⟩)
    go_ret
    exact ⟨rfl, rfl⟩
  · have q : spB l k = false := by
      rcases hq : spB l k with _ | _
      · rfl
      · exact absurd (lt_of_spB hq) (by rw [h.len]; exact hk)
    rw [q]
    have hlt : ¬ (k : Int) < (n : Int) := by omega
    clear h hk q
    go_enter Tryz.func72, Tryz.ntmps72
    go_wp2
    go_ret
    exact ⟨rfl, rfl⟩

set_option maxRecDepth 100000 in
set_option maxHeartbeats 1000000 in
theorem rdigitAt {a : Option Addr} {n cap : Nat} {l : List Int} {w : World} (i : Int) (k : Nat) (h : Src w a n cap l) (hi : i = (k : Int)) :
    Calls Tryz.prog 112 #[.slice a n cap, .int .i64 i] w (Tells (.bool (dgB l k)) w) := by
  subst hi
  obtain ⟨hcap1, hcap2⟩ := h.cap
  by_cases hk : k < n
  · obtain ⟨b, off, rfl, hcell⟩ := h.cell k hk
    have hs := fun w => rdigit_any (chA l k) w (chA_ch h.pre k)
    have q : digitB (chA l k) = dgB l k := rfl
    have hlt : (k : Int) < (n : Int) := by omega
    clear h hk
    rw [q] at hs
    clear q
    generalize chA l k = v at *
    generalize dgB l k = r at *
    go_enter Tryz.func112, Tryz.ntmps112
    go_wp2_with (go_at_call 61; refine (hs _).mono ?_; rintro e w1 ⟨rfl, rfl⟩)
    go_ret
    exact ⟨rfl, rfl⟩
  · have q : dgB l k = false := by
      rcases hq : dgB l k with _ | _
      · rfl
      · exact absurd (lt_of_dgB hq) (by rw [h.len]; exact hk)
    rw [q]
    have hlt : ¬ (k : Int) < (n : Int) := by omega
    clear h hk q
    go_enter Tryz.func112, Tryz.ntmps112
    go_wp2
    go_ret
    exact ⟨rfl, rfl⟩

set_option maxRecDepth 100000 in
set_option maxHeartbeats 1000000 in
theorem rstartAt {a : Option Addr} {n cap : Nat} {l : List Int} {w : World} (i : Int) (k : Nat) (h : Src w a n cap l) (hi : i = (k : Int)) :
    Calls Tryz.prog 114 #[.slice a n cap, .int .i64 i] w (Tells (.bool (stB l k)) w) := by
  subst hi
  obtain ⟨hcap1, hcap2⟩ := h.cap
  by_cases hk : k < n
  · obtain ⟨b, off, rfl, hcell⟩ := h.cell k hk
    have hs := fun w => rstart_any (chA l k) w (chA_ch h.pre k)
    have q : startB (chA l k) = stB l k := rfl
    have hlt : (k : Int) < (n : Int) := by omega
    clear h hk
    rw [q] at hs
    clear q
    generalize chA l k = v at *
    generalize stB l k = r at *
    go_enter Tryz.func114, Tryz.ntmps114
    go_wp2_with (go_at_call 142; refine (hs _).mono ?_; rintro e w1 ⟨rfl, rfl⟩)
    go_ret
    exact ⟨rfl, rfl⟩
  · have q : stB l k = false := by
      rcases hq : stB l k with _ | _
      · rfl
      · exact absurd (lt_of_stB hq) (by rw [h.len]; exact hk)
    rw [q]
    have hlt : ¬ (k : Int) < (n : Int) := by omega
    clear h hk q
    go_enter Tryz.func114, Tryz.ntmps114
    go_wp2
    go_ret
    exact ⟨rfl, rfl⟩

set_option maxRecDepth 100000 in
set_option maxHeartbeats 1000000 in
theorem rinnerAt {a : Option Addr} {n cap : Nat} {l : List Int} {w : World} (i : Int) (k : Nat) (h : Src w a n cap l) (hi : i = (k : Int)) :
    Calls Tryz.prog 80 #[.slice a n cap, .int .i64 i] w (Tells (.bool (nmB l k)) w) := by
  subst hi
  obtain ⟨hcap1, hcap2⟩ := h.cap
  by_cases hk : k < n
  · obtain ⟨b, off, rfl, hcell⟩ := h.cell k hk
    have hs := fun w => rname_any (chA l k) w (chA_ch h.pre k)
    have q : nameB (chA l k) = nmB l k := rfl
    have hlt : (k : Int) < (n : Int) := by omega
    clear h hk
    rw [q] at hs
    clear q
    generalize chA l k = v at *
    generalize nmB l k = r at *
    go_enter Tryz.func80, Tryz.ntmps80
    go_wp2_with (go_at_call 116; refine (hs _).mono ?_; rintro e w1 ⟨rfl, rfl⟩)
    go_ret
    exact ⟨rfl, rfl⟩
  · have q : nmB l k = false := by
      rcases hq : nmB l k with _ | _
      · rfl
      · exact absurd (lt_of_nmB hq) (by rw [h.len]; exact hk)
    rw [q]
    have hlt : ¬ (k : Int) < (n : Int) := by omega
    clear h hk q
    go_enter Tryz.func80, Tryz.ntmps80
    go_wp2
    go_ret
    exact ⟨rfl, rfl⟩
end

section
open Go.RowKit

set_option maxRecDepth 100000 in
set_option maxHeartbeats 1000000 in
theorem resc_any {a : Option Addr} {n cap : Nat} {l : List Int} {w : World} (i : Int) (k : Nat) (h : Src w a n cap l) (hi : i = (k : Int)) (hk : k ≤ 2000000) :
    Calls Tryz.prog 81 #[.slice a n cap, .int .i64 i] w (Tells (.bool (escB l k)) w) := by
  subst hi
  have f0 := ris_any (k : Int) k 92 h rfl (by decide)
  have f1 := ris_any ((k : Int) + 1) (k + 1) 10 h (by omega) (by decide)
  clear h
  unfold escB
  generalize isB l k 92 = r0 at *
  generalize isB l (k + 1) 10 = r1 at *
  cases r0 <;> cases r1
  all_goals
    go_enter Tryz.func81, Tryz.ntmps81
    go_wp2_with ((first | (go_at_call 76; with_reducible refine f0.mono ?_) | (go_at_call 76; with_reducible refine f1.mono ?_)); rintro e w1 ⟨rfl, rfl⟩)
    go_ret
    exact ⟨rfl, rfl⟩

set_option maxRecDepth 100000 in
set_option maxHeartbeats 1000000 in
theorem rnameAt_any {a : Option Addr} {n cap : Nat} {l : List Int} {w : World} (i : Int) (k : Nat) (h : Src w a n cap l) (hi : i = (k : Int)) (hk : k ≤ 1000000) :
    Calls Tryz.prog 77 #[.slice a n cap, .int .i64 i] w (Tells (.bool (nameAt l k)) w) := by
  subst hi
  have f0 := ris_any (k : Int) k 45 h rfl (by decide)
  have f1 := ris_any ((k : Int) + 1) (k + 1) 45 h (by omega) (by decide)
  have f2 := rstartAt ((k : Int) + 1) (k + 1) h (by omega)
  have f3 := rstartAt (k : Int) k h rfl
  have f4 := resc_any ((k : Int) + 1) (k + 1) h (by omega) (by omega)
  have f5 := resc_any (k : Int) k h rfl (by omega)
  clear h
  unfold nameAt
  generalize isB l k 45 = r0 at *
  generalize isB l (k + 1) 45 = r1 at *
  generalize stB l (k + 1) = r2 at *
  generalize stB l k = r3 at *
  generalize escB l (k + 1) = r4 at *
  generalize escB l k = r5 at *
  cases r0
  · cases r3 <;> cases r5
    all_goals rw [if_neg (by decide)]
    all_goals
      go_enter Tryz.func77, Tryz.ntmps77
      go_wp2_with ((first | (go_at_call 76; with_reducible refine f0.mono ?_) | (go_at_call 76; with_reducible refine f1.mono ?_) | (go_at_call 114; with_reducible refine f2.mono ?_) | (go_at_call 114; with_reducible refine f3.mono ?_) | (go_at_call 81; with_reducible refine f4.mono ?_) | (go_at_call 81; with_reducible refine f5.mono ?_)); rintro e w1 ⟨rfl, rfl⟩)
      go_ret
      exact ⟨rfl, rfl⟩
  · cases r1 <;> cases r2 <;> cases r4
    all_goals rw [if_pos rfl]
    all_goals
      go_enter Tryz.func77, Tryz.ntmps77
      go_wp2_with ((first | (go_at_call 76; with_reducible refine f0.mono ?_) | (go_at_call 76; with_reducible refine f1.mono ?_) | (go_at_call 114; with_reducible refine f2.mono ?_) | (go_at_call 114; with_reducible refine f3.mono ?_) | (go_at_call 81; with_reducible refine f4.mono ?_) | (go_at_call 81; with_reducible refine f5.mono ?_)); rintro e w1 ⟨rfl, rfl⟩)
      go_ret
      exact ⟨rfl, rfl⟩

set_option maxRecDepth 100000 in
set_option maxHeartbeats 1000000 in
theorem rsign_any {a : Option Addr} {n cap : Nat} {l : List Int} {w : World} (i : Int) (k : Nat) (h : Src w a n cap l) (hi : i = (k : Int)) (hk : k ≤ 1000000) (hp : isB l k 43 = true ∨ (isB l k 43 = false ∧ isB l k 45 = true)) :
    Calls Tryz.prog 74 #[.slice a n cap, .int .i64 i] w (Tells (.bool (numAt l k)) w) := by
  subst hi
  have es : signAt l k = k + 1 := by unfold signAt; rcases hp with hp | ⟨_, hp⟩ <;> simp [hp]
  unfold numAt fracAt
  rw [es]
  have f0 := ris_any (k : Int) k 43 h rfl (by decide)
  have f1 := ris_any (k : Int) k 45 h rfl (by decide)
  have f2 := rdigitAt ((k : Int) + 1) (k + 1) h (by omega)
  have f3 := ris_any ((k : Int) + 1) (k + 1) 46 h (by omega) (by decide)
  have f4 := rdigitAt ((k : Int) + 1 + 1) (k + 1 + 1) h (by omega)
  clear h es
  generalize isB l k 43 = r0 at *
  generalize isB l k 45 = r1 at *
  generalize dgB l (k + 1) = r2 at *
  generalize isB l (k + 1) 46 = r3 at *
  generalize dgB l (k + 1 + 1) = r4 at *
  rcases hp with rfl | ⟨rfl, rfl⟩
  all_goals cases r2 <;> cases r3 <;> cases r4
  all_goals
    go_enter Tryz.func74, Tryz.ntmps74
    go_wp2_with ((first | (go_at_call 76; with_reducible refine f0.mono ?_) | (go_at_call 76; with_reducible refine f1.mono ?_) | (go_at_call 112; with_reducible refine f2.mono ?_) | (go_at_call 76; with_reducible refine f3.mono ?_) | (go_at_call 112; with_reducible refine f4.mono ?_)); rintro e w1 ⟨rfl, rfl⟩)
    go_ret
    exact ⟨rfl, rfl⟩

set_option maxRecDepth 100000 in
set_option maxHeartbeats 1000000 in
theorem rnumAt_any {a : Option Addr} {n cap : Nat} {l : List Int} {w : World} (i : Int) (k : Nat) (h : Src w a n cap l) (hi : i = (k : Int)) (hk : k ≤ 1000000) :
    Calls Tryz.prog 74 #[.slice a n cap, .int .i64 i] w (Tells (.bool (numAt l k)) w) := by
  rcases h1 : isB l k 43 with _ | _
  · rcases h2 : isB l k 45 with _ | _
    · subst hi
      have es : signAt l k = k := by unfold signAt; simp [h1, h2]
      unfold numAt fracAt
      rw [es]
      have f0 := ris_any (k : Int) k 43 h rfl (by decide)
      have f1 := ris_any (k : Int) k 45 h rfl (by decide)
      have f2 := rdigitAt (k : Int) k h rfl
      have f3 := ris_any (k : Int) k 46 h rfl (by decide)
      have f4 := rdigitAt ((k : Int) + 1) (k + 1) h (by omega)
      rw [h1] at f0
      rw [h2] at f1
      clear h es h1 h2
      generalize dgB l k = r2 at *
      generalize isB l k 46 = r3 at *
      generalize dgB l (k + 1) = r4 at *
      cases r2 <;> cases r3 <;> cases r4
      all_goals
        go_enter Tryz.func74, Tryz.ntmps74
        go_wp2_with ((first | (go_at_call 76; with_reducible refine f0.mono ?_) | (go_at_call 76; with_reducible refine f1.mono ?_) | (go_at_call 112; with_reducible refine f2.mono ?_) | (go_at_call 76; with_reducible refine f3.mono ?_) | (go_at_call 112; with_reducible refine f4.mono ?_)); rintro e w1 ⟨rfl, rfl⟩)
        go_ret
        exact ⟨rfl, rfl⟩
    · exact rsign_any i k h hi hk (.inr ⟨h1, h2⟩)
  · exact rsign_any i k h hi hk (.inl h1)

set_option maxRecDepth 100000 in
set_option maxHeartbeats 1000000 in
theorem rhidden_any (c : Int) (w : World) (hc : Ch c) : Calls Tryz.prog 143 #[.int .i64 c] w (Tells (.bool (hiddenB c)) w) := by
  obtain ⟨h0, h1⟩ := hc
  rcases (show c ≤ 8 ∨ (¬ c ≤ 8 ∧ c = 11) ∨ (¬ c ≤ 8 ∧ c ≠ 11 ∧ 14 ≤ c ∧ c ≤ 31) ∨ (¬ c ≤ 8 ∧ c ≠ 11 ∧ ¬ 14 ≤ c) ∨ (¬ c ≤ 8 ∧ c ≠ 11 ∧ 14 ≤ c ∧ ¬ c ≤ 31 ∧ c = 127) ∨ (¬ c ≤ 8 ∧ c ≠ 11 ∧ 14 ≤ c ∧ ¬ c ≤ 31 ∧ c ≠ 127) from by omega) with q0 | ⟨q0, rfl⟩ | ⟨q0, q1, q2, q3⟩ | ⟨q0, q1, q2⟩ | ⟨q0, q1, q2, q3, rfl⟩ | ⟨q0, q1, q2, q3, q4⟩
  · rw [show hiddenB c = true from decide_eq_true (by omega)]
    go_enter Tryz.func143, Tryz.ntmps143
    go_wp2
    go_ret
    exact ⟨rfl, rfl⟩
  · rw [show hiddenB 11 = true from decide_eq_true (by omega)]
    go_enter Tryz.func143, Tryz.ntmps143
    go_wp2
    go_ret
    exact ⟨rfl, rfl⟩
  · rw [show hiddenB c = true from decide_eq_true (by omega)]
    have n11 : (c == 11) = false := beq_eq_false_iff_ne.2 q1
    go_enter Tryz.func143, Tryz.ntmps143
    go_wp2
    go_ret
    exact ⟨rfl, rfl⟩
  · rw [show hiddenB c = false from decide_eq_false (by omega)]
    have n11 : (c == 11) = false := beq_eq_false_iff_ne.2 q1
    have n127 : (c == 127) = false := beq_eq_false_iff_ne.2 (by omega)
    go_enter Tryz.func143, Tryz.ntmps143
    go_wp2
    go_ret
    exact ⟨rfl, rfl⟩
  · rw [show hiddenB 127 = true from decide_eq_true (by omega)]
    go_enter Tryz.func143, Tryz.ntmps143
    go_wp2
    go_ret
    exact ⟨rfl, rfl⟩
  · rw [show hiddenB c = false from decide_eq_false (by omega)]
    have n11 : (c == 11) = false := beq_eq_false_iff_ne.2 q1
    have n127 : (c == 127) = false := beq_eq_false_iff_ne.2 q4
    go_enter Tryz.func143, Tryz.ntmps143
    go_wp2
    go_ret
    exact ⟨rfl, rfl⟩
end

section
open Go.RowKit

def hexDg (k : Nat) : Int := if k < 10 then 48 + (k : Int) else 87 + (k : Int)
theorem hexV_of {c : Int} {k : Nat} (hk : k < 16) (h : hexDg k = smallF c) : hexV c = k := by
  unfold hexDg smallF at h
  unfold hexV
  split at h <;> split at h
  all_goals
    first
    | (rw [if_pos (by omega)]; omega)
    | (rw [if_neg (by omega), if_pos (by unfold smallF; split <;> omega)]; unfold smallF; split <;> omega)
theorem hexV_none {c : Int} (h : ∀ j : Nat, j < 16 → hexDg j ≠ smallF c) : hexV c = -1 := by
  have q : ∀ j : Nat, j < 10 → 48 + (j : Int) ≠ smallF c := fun j hj => by have := h j (by omega); unfold hexDg at this; rwa [if_pos hj] at this
  have r : ∀ j : Nat, j < 6 → 97 + (j : Int) ≠ smallF c := fun j hj => by have := h (j + 10) (by omega); unfold hexDg at this; rw [if_neg (by omega)] at this; omega
  have q' : ¬ (48 ≤ c ∧ c ≤ 57) := fun ⟨x, y⟩ => q (c - 48).toNat (by omega) (by rw [smallF, if_neg (by omega)]; omega)
  have r' : ¬ (97 ≤ smallF c ∧ smallF c ≤ 102) := fun ⟨x, y⟩ => r (smallF c - 97).toNat (by omega) (by omega)
  unfold hexV
  rw [if_neg q', if_neg r']

set_option maxRecDepth 100000 in
set_option maxHeartbeats 4000000 in
theorem rhex_any (c : Int) (w : World) (hc : Ch c) : Calls Tryz.prog 141 #[.int .i64 c] w (Told (.int .i64 (hexV c)) w) := by
  have hsm : ∀ w, Calls Tryz.prog 107 #[.int .i64 c] w fun e w' => e = .returned (.int .i64 (smallF c)) ∧ w' = w := fun w => rsmall_any c w hc
  have HV : Hid (∀ k : Nat, k < 16 → hexDg k = smallF c → hexV c = k) := Lib.hid fun k => hexV_of
  have HN : Hid ((∀ j : Nat, j < 16 → hexDg j ≠ smallF c) → hexV c = -1) := Lib.hid hexV_none
  clear hc
  generalize hexV c = v at *
  generalize smallF c = s at *
  go_enter Tryz.func141, Tryz.ntmps141
  go_wp2_with fail
  go_loopw [4] (fun i wr => ∃ k : Nat, k ≤ 16 ∧ i = .int .i64 k ∧ Hid (∀ j : Nat, j < k → hexDg j ≠ s) ∧ Below w.heap.size w wr) (fun i _ => 16 - (intOf i).toNat)
  case atStart => exact ⟨0, by omega, rfl, Lib.hid (fun j hj => by omega), Below.refl _ _⟩
  case round =>
    obtain ⟨k, hk, rfl, hj, hbl⟩ := hrel
    rcases Nat.lt_or_ge k 16 with hlt | hge
    · have key : k = 0 ∨ k = 1 ∨ k = 2 ∨ k = 3 ∨ k = 4 ∨ k = 5 ∨ k = 6 ∨ k = 7 ∨ k = 8 ∨ k = 9 ∨ k = 10 ∨ k = 11 ∨ k = 12 ∨ k = 13 ∨ k = 14 ∨ k = 15 := by omega
      rcases key with rfl | rfl | rfl | rfl | rfl | rfl | rfl | rfl | rfl | rfl | rfl | rfl | rfl | rfl | rfl | rfl
      · by_cases e : (48 : Int) = s
        · have hv := HV.out 0 (by decide) e
          have n0 : ((48 : Int) == s) = true := beq_iff_eq.2 e
          have q0 : wrap64 ((({ data := #[48, 49, 50, 51, 52, 53, 54, 55, 56, 57, 97, 98, 99, 100, 101, 102] } : ByteArray)[0]'(by decide)).toNat : Int) = 48 := by decide +kernel
          clear e
          go_wp2_with fail
          go_quiet ((go_at_call 107; exact Calls.quiet_of_same (hsm _)))
          go_wp2
          go_ret
          exact ⟨by rw [hv]; rfl, below_drewN hbl _⟩
        · have n0 : ((48 : Int) == s) = false := beq_eq_false_iff_ne.2 e
          have hj' : Hid (∀ j : Nat, j < 0 + 1 → hexDg j ≠ s) := Lib.hid fun j hjj => by
            rcases Nat.lt_succ_iff_lt_or_eq.1 hjj with h | h
            · exact hj.out j h
            · rw [h]; exact e
          have q0 : wrap64 ((({ data := #[48, 49, 50, 51, 52, 53, 54, 55, 56, 57, 97, 98, 99, 100, 101, 102] } : ByteArray)[0]'(by decide)).toNat : Int) = 48 := by decide +kernel
          clear e hj
          go_wp2_with fail
          go_quiet ((go_at_call 107; exact Calls.quiet_of_same (hsm _)))
          go_wp2
          go_roundw
          case rel => exact ⟨1, by omega, by go_num, hj', below_drewN hbl _⟩
          case measure => simp [intOf]
      · by_cases e : (49 : Int) = s
        · have hv := HV.out 1 (by decide) e
          have n0 : ((49 : Int) == s) = true := beq_iff_eq.2 e
          have q0 : wrap64 ((({ data := #[48, 49, 50, 51, 52, 53, 54, 55, 56, 57, 97, 98, 99, 100, 101, 102] } : ByteArray)[1]'(by decide)).toNat : Int) = 49 := by decide +kernel
          clear e
          go_wp2_with fail
          go_quiet ((go_at_call 107; exact Calls.quiet_of_same (hsm _)))
          go_wp2
          go_ret
          exact ⟨by rw [hv]; rfl, below_drewN hbl _⟩
        · have n0 : ((49 : Int) == s) = false := beq_eq_false_iff_ne.2 e
          have hj' : Hid (∀ j : Nat, j < 1 + 1 → hexDg j ≠ s) := Lib.hid fun j hjj => by
            rcases Nat.lt_succ_iff_lt_or_eq.1 hjj with h | h
            · exact hj.out j h
            · rw [h]; exact e
          have q0 : wrap64 ((({ data := #[48, 49, 50, 51, 52, 53, 54, 55, 56, 57, 97, 98, 99, 100, 101, 102] } : ByteArray)[1]'(by decide)).toNat : Int) = 49 := by decide +kernel
          clear e hj
          go_wp2_with fail
          go_quiet ((go_at_call 107; exact Calls.quiet_of_same (hsm _)))
          go_wp2
          go_roundw
          case rel => exact ⟨1 + 1, by omega, by go_num, hj', below_drewN hbl _⟩
          case measure => simp [intOf]
      · by_cases e : (50 : Int) = s
        · have hv := HV.out 2 (by decide) e
          have n0 : ((50 : Int) == s) = true := beq_iff_eq.2 e
          have q0 : wrap64 ((({ data := #[48, 49, 50, 51, 52, 53, 54, 55, 56, 57, 97, 98, 99, 100, 101, 102] } : ByteArray)[2]'(by decide)).toNat : Int) = 50 := by decide +kernel
          clear e
          go_wp2_with fail
          go_quiet ((go_at_call 107; exact Calls.quiet_of_same (hsm _)))
          go_wp2
          go_ret
          exact ⟨by rw [hv]; rfl, below_drewN hbl _⟩
        · have n0 : ((50 : Int) == s) = false := beq_eq_false_iff_ne.2 e
          have hj' : Hid (∀ j : Nat, j < 2 + 1 → hexDg j ≠ s) := Lib.hid fun j hjj => by
            rcases Nat.lt_succ_iff_lt_or_eq.1 hjj with h | h
            · exact hj.out j h
            · rw [h]; exact e
          have q0 : wrap64 ((({ data := #[48, 49, 50, 51, 52, 53, 54, 55, 56, 57, 97, 98, 99, 100, 101, 102] } : ByteArray)[2]'(by decide)).toNat : Int) = 50 := by decide +kernel
          clear e hj
          go_wp2_with fail
          go_quiet ((go_at_call 107; exact Calls.quiet_of_same (hsm _)))
          go_wp2
          go_roundw
          case rel => exact ⟨2 + 1, by omega, by go_num, hj', below_drewN hbl _⟩
          case measure => simp [intOf]
      · by_cases e : (51 : Int) = s
        · have hv := HV.out 3 (by decide) e
          have n0 : ((51 : Int) == s) = true := beq_iff_eq.2 e
          have q0 : wrap64 ((({ data := #[48, 49, 50, 51, 52, 53, 54, 55, 56, 57, 97, 98, 99, 100, 101, 102] } : ByteArray)[3]'(by decide)).toNat : Int) = 51 := by decide +kernel
          clear e
          go_wp2_with fail
          go_quiet ((go_at_call 107; exact Calls.quiet_of_same (hsm _)))
          go_wp2
          go_ret
          exact ⟨by rw [hv]; rfl, below_drewN hbl _⟩
        · have n0 : ((51 : Int) == s) = false := beq_eq_false_iff_ne.2 e
          have hj' : Hid (∀ j : Nat, j < 3 + 1 → hexDg j ≠ s) := Lib.hid fun j hjj => by
            rcases Nat.lt_succ_iff_lt_or_eq.1 hjj with h | h
            · exact hj.out j h
            · rw [h]; exact e
          have q0 : wrap64 ((({ data := #[48, 49, 50, 51, 52, 53, 54, 55, 56, 57, 97, 98, 99, 100, 101, 102] } : ByteArray)[3]'(by decide)).toNat : Int) = 51 := by decide +kernel
          clear e hj
          go_wp2_with fail
          go_quiet ((go_at_call 107; exact Calls.quiet_of_same (hsm _)))
          go_wp2
          go_roundw
          case rel => exact ⟨3 + 1, by omega, by go_num, hj', below_drewN hbl _⟩
          case measure => simp [intOf]
      · by_cases e : (52 : Int) = s
        · have hv := HV.out 4 (by decide) e
          have n0 : ((52 : Int) == s) = true := beq_iff_eq.2 e
          have q0 : wrap64 ((({ data := #[48, 49, 50, 51, 52, 53, 54, 55, 56, 57, 97, 98, 99, 100, 101, 102] } : ByteArray)[4]'(by decide)).toNat : Int) = 52 := by decide +kernel
          clear e
          go_wp2_with fail
          go_quiet ((go_at_call 107; exact Calls.quiet_of_same (hsm _)))
          go_wp2
          go_ret
          exact ⟨by rw [hv]; rfl, below_drewN hbl _⟩
        · have n0 : ((52 : Int) == s) = false := beq_eq_false_iff_ne.2 e
          have hj' : Hid (∀ j : Nat, j < 4 + 1 → hexDg j ≠ s) := Lib.hid fun j hjj => by
            rcases Nat.lt_succ_iff_lt_or_eq.1 hjj with h | h
            · exact hj.out j h
            · rw [h]; exact e
          have q0 : wrap64 ((({ data := #[48, 49, 50, 51, 52, 53, 54, 55, 56, 57, 97, 98, 99, 100, 101, 102] } : ByteArray)[4]'(by decide)).toNat : Int) = 52 := by decide +kernel
          clear e hj
          go_wp2_with fail
          go_quiet ((go_at_call 107; exact Calls.quiet_of_same (hsm _)))
          go_wp2
          go_roundw
          case rel => exact ⟨4 + 1, by omega, by go_num, hj', below_drewN hbl _⟩
          case measure => simp [intOf]
      · by_cases e : (53 : Int) = s
        · have hv := HV.out 5 (by decide) e
          have n0 : ((53 : Int) == s) = true := beq_iff_eq.2 e
          have q0 : wrap64 ((({ data := #[48, 49, 50, 51, 52, 53, 54, 55, 56, 57, 97, 98, 99, 100, 101, 102] } : ByteArray)[5]'(by decide)).toNat : Int) = 53 := by decide +kernel
          clear e
          go_wp2_with fail
          go_quiet ((go_at_call 107; exact Calls.quiet_of_same (hsm _)))
          go_wp2
          go_ret
          exact ⟨by rw [hv]; rfl, below_drewN hbl _⟩
        · have n0 : ((53 : Int) == s) = false := beq_eq_false_iff_ne.2 e
          have hj' : Hid (∀ j : Nat, j < 5 + 1 → hexDg j ≠ s) := Lib.hid fun j hjj => by
            rcases Nat.lt_succ_iff_lt_or_eq.1 hjj with h | h
            · exact hj.out j h
            · rw [h]; exact e
          have q0 : wrap64 ((({ data := #[48, 49, 50, 51, 52, 53, 54, 55, 56, 57, 97, 98, 99, 100, 101, 102] } : ByteArray)[5]'(by decide)).toNat : Int) = 53 := by decide +kernel
          clear e hj
          go_wp2_with fail
          go_quiet ((go_at_call 107; exact Calls.quiet_of_same (hsm _)))
          go_wp2
          go_roundw
          case rel => exact ⟨5 + 1, by omega, by go_num, hj', below_drewN hbl _⟩
          case measure => simp [intOf]
      · by_cases e : (54 : Int) = s
        · have hv := HV.out 6 (by decide) e
          have n0 : ((54 : Int) == s) = true := beq_iff_eq.2 e
          have q0 : wrap64 ((({ data := #[48, 49, 50, 51, 52, 53, 54, 55, 56, 57, 97, 98, 99, 100, 101, 102] } : ByteArray)[6]'(by decide)).toNat : Int) = 54 := by decide +kernel
          clear e
          go_wp2_with fail
          go_quiet ((go_at_call 107; exact Calls.quiet_of_same (hsm _)))
          go_wp2
          go_ret
          exact ⟨by rw [hv]; rfl, below_drewN hbl _⟩
        · have n0 : ((54 : Int) == s) = false := beq_eq_false_iff_ne.2 e
          have hj' : Hid (∀ j : Nat, j < 6 + 1 → hexDg j ≠ s) := Lib.hid fun j hjj => by
            rcases Nat.lt_succ_iff_lt_or_eq.1 hjj with h | h
            · exact hj.out j h
            · rw [h]; exact e
          have q0 : wrap64 ((({ data := #[48, 49, 50, 51, 52, 53, 54, 55, 56, 57, 97, 98, 99, 100, 101, 102] } : ByteArray)[6]'(by decide)).toNat : Int) = 54 := by decide +kernel
          clear e hj
          go_wp2_with fail
          go_quiet ((go_at_call 107; exact Calls.quiet_of_same (hsm _)))
          go_wp2
          go_roundw
          case rel => exact ⟨6 + 1, by omega, by go_num, hj', below_drewN hbl _⟩
          case measure => simp [intOf]
      · by_cases e : (55 : Int) = s
        · have hv := HV.out 7 (by decide) e
          have n0 : ((55 : Int) == s) = true := beq_iff_eq.2 e
          have q0 : wrap64 ((({ data := #[48, 49, 50, 51, 52, 53, 54, 55, 56, 57, 97, 98, 99, 100, 101, 102] } : ByteArray)[7]'(by decide)).toNat : Int) = 55 := by decide +kernel
          clear e
          go_wp2_with fail
          go_quiet ((go_at_call 107; exact Calls.quiet_of_same (hsm _)))
          go_wp2
          go_ret
          exact ⟨by rw [hv]; rfl, below_drewN hbl _⟩
        · have n0 : ((55 : Int) == s) = false := beq_eq_false_iff_ne.2 e
          have hj' : Hid (∀ j : Nat, j < 7 + 1 → hexDg j ≠ s) := Lib.hid fun j hjj => by
            rcases Nat.lt_succ_iff_lt_or_eq.1 hjj with h | h
            · exact hj.out j h
            · rw [h]; exact e
          have q0 : wrap64 ((({ data := #[48, 49, 50, 51, 52, 53, 54, 55, 56, 57, 97, 98, 99, 100, 101, 102] } : ByteArray)[7]'(by decide)).toNat : Int) = 55 := by decide +kernel
          clear e hj
          go_wp2_with fail
          go_quiet ((go_at_call 107; exact Calls.quiet_of_same (hsm _)))
          go_wp2
          go_roundw
          case rel => exact ⟨7 + 1, by omega, by go_num, hj', below_drewN hbl _⟩
          case measure => simp [intOf]
      · by_cases e : (56 : Int) = s
        · have hv := HV.out 8 (by decide) e
          have n0 : ((56 : Int) == s) = true := beq_iff_eq.2 e
          have q0 : wrap64 ((({ data := #[48, 49, 50, 51, 52, 53, 54, 55, 56, 57, 97, 98, 99, 100, 101, 102] } : ByteArray)[8]'(by decide)).toNat : Int) = 56 := by decide +kernel
          clear e
          go_wp2_with fail
          go_quiet ((go_at_call 107; exact Calls.quiet_of_same (hsm _)))
          go_wp2
          go_ret
          exact ⟨by rw [hv]; rfl, below_drewN hbl _⟩
        · have n0 : ((56 : Int) == s) = false := beq_eq_false_iff_ne.2 e
          have hj' : Hid (∀ j : Nat, j < 8 + 1 → hexDg j ≠ s) := Lib.hid fun j hjj => by
            rcases Nat.lt_succ_iff_lt_or_eq.1 hjj with h | h
            · exact hj.out j h
            · rw [h]; exact e
          have q0 : wrap64 ((({ data := #[48, 49, 50, 51, 52, 53, 54, 55, 56, 57, 97, 98, 99, 100, 101, 102] } : ByteArray)[8]'(by decide)).toNat : Int) = 56 := by decide +kernel
          clear e hj
          go_wp2_with fail
          go_quiet ((go_at_call 107; exact Calls.quiet_of_same (hsm _)))
          go_wp2
          go_roundw
          case rel => exact ⟨8 + 1, by omega, by go_num, hj', below_drewN hbl _⟩
          case measure => simp [intOf]
      · by_cases e : (57 : Int) = s
        · have hv := HV.out 9 (by decide) e
          have n0 : ((57 : Int) == s) = true := beq_iff_eq.2 e
          have q0 : wrap64 ((({ data := #[48, 49, 50, 51, 52, 53, 54, 55, 56, 57, 97, 98, 99, 100, 101, 102] } : ByteArray)[9]'(by decide)).toNat : Int) = 57 := by decide +kernel
          clear e
          go_wp2_with fail
          go_quiet ((go_at_call 107; exact Calls.quiet_of_same (hsm _)))
          go_wp2
          go_ret
          exact ⟨by rw [hv]; rfl, below_drewN hbl _⟩
        · have n0 : ((57 : Int) == s) = false := beq_eq_false_iff_ne.2 e
          have hj' : Hid (∀ j : Nat, j < 9 + 1 → hexDg j ≠ s) := Lib.hid fun j hjj => by
            rcases Nat.lt_succ_iff_lt_or_eq.1 hjj with h | h
            · exact hj.out j h
            · rw [h]; exact e
          have q0 : wrap64 ((({ data := #[48, 49, 50, 51, 52, 53, 54, 55, 56, 57, 97, 98, 99, 100, 101, 102] } : ByteArray)[9]'(by decide)).toNat : Int) = 57 := by decide +kernel
          clear e hj
          go_wp2_with fail
          go_quiet ((go_at_call 107; exact Calls.quiet_of_same (hsm _)))
          go_wp2
          go_roundw
          case rel => exact ⟨9 + 1, by omega, by go_num, hj', below_drewN hbl _⟩
          case measure => simp [intOf]
      · by_cases e : (97 : Int) = s
        · have hv := HV.out 10 (by decide) e
          have n0 : ((97 : Int) == s) = true := beq_iff_eq.2 e
          have q0 : wrap64 ((({ data := #[48, 49, 50, 51, 52, 53, 54, 55, 56, 57, 97, 98, 99, 100, 101, 102] } : ByteArray)[10]'(by decide)).toNat : Int) = 97 := by decide +kernel
          clear e
          go_wp2_with fail
          go_quiet ((go_at_call 107; exact Calls.quiet_of_same (hsm _)))
          go_wp2
          go_ret
          exact ⟨by rw [hv]; rfl, below_drewN hbl _⟩
        · have n0 : ((97 : Int) == s) = false := beq_eq_false_iff_ne.2 e
          have hj' : Hid (∀ j : Nat, j < 10 + 1 → hexDg j ≠ s) := Lib.hid fun j hjj => by
            rcases Nat.lt_succ_iff_lt_or_eq.1 hjj with h | h
            · exact hj.out j h
            · rw [h]; exact e
          have q0 : wrap64 ((({ data := #[48, 49, 50, 51, 52, 53, 54, 55, 56, 57, 97, 98, 99, 100, 101, 102] } : ByteArray)[10]'(by decide)).toNat : Int) = 97 := by decide +kernel
          clear e hj
          go_wp2_with fail
          go_quiet ((go_at_call 107; exact Calls.quiet_of_same (hsm _)))
          go_wp2
          go_roundw
          case rel => exact ⟨11, by omega, by go_num, hj', below_drewN hbl _⟩
          case measure => simp [intOf]
      · by_cases e : (98 : Int) = s
        · have hv := HV.out 11 (by decide) e
          have n0 : ((98 : Int) == s) = true := beq_iff_eq.2 e
          have q0 : wrap64 ((({ data := #[48, 49, 50, 51, 52, 53, 54, 55, 56, 57, 97, 98, 99, 100, 101, 102] } : ByteArray)[11]'(by decide)).toNat : Int) = 98 := by decide +kernel
          clear e
          go_wp2_with fail
          go_quiet ((go_at_call 107; exact Calls.quiet_of_same (hsm _)))
          go_wp2
          go_ret
          exact ⟨by rw [hv]; rfl, below_drewN hbl _⟩
        · have n0 : ((98 : Int) == s) = false := beq_eq_false_iff_ne.2 e
          have hj' : Hid (∀ j : Nat, j < 11 + 1 → hexDg j ≠ s) := Lib.hid fun j hjj => by
            rcases Nat.lt_succ_iff_lt_or_eq.1 hjj with h | h
            · exact hj.out j h
            · rw [h]; exact e
          have q0 : wrap64 ((({ data := #[48, 49, 50, 51, 52, 53, 54, 55, 56, 57, 97, 98, 99, 100, 101, 102] } : ByteArray)[11]'(by decide)).toNat : Int) = 98 := by decide +kernel
          clear e hj
          go_wp2_with fail
          go_quiet ((go_at_call 107; exact Calls.quiet_of_same (hsm _)))
          go_wp2
          go_roundw
          case rel => exact ⟨11 + 1, by omega, by go_num, hj', below_drewN hbl _⟩
          case measure => simp [intOf]
      · by_cases e : (99 : Int) = s
        · have hv := HV.out 12 (by decide) e
          have n0 : ((99 : Int) == s) = true := beq_iff_eq.2 e
          have q0 : wrap64 ((({ data := #[48, 49, 50, 51, 52, 53, 54, 55, 56, 57, 97, 98, 99, 100, 101, 102] } : ByteArray)[12]'(by decide)).toNat : Int) = 99 := by decide +kernel
          clear e
          go_wp2_with fail
          go_quiet ((go_at_call 107; exact Calls.quiet_of_same (hsm _)))
          go_wp2
          go_ret
          exact ⟨by rw [hv]; rfl, below_drewN hbl _⟩
        · have n0 : ((99 : Int) == s) = false := beq_eq_false_iff_ne.2 e
          have hj' : Hid (∀ j : Nat, j < 12 + 1 → hexDg j ≠ s) := Lib.hid fun j hjj => by
            rcases Nat.lt_succ_iff_lt_or_eq.1 hjj with h | h
            · exact hj.out j h
            · rw [h]; exact e
          have q0 : wrap64 ((({ data := #[48, 49, 50, 51, 52, 53, 54, 55, 56, 57, 97, 98, 99, 100, 101, 102] } : ByteArray)[12]'(by decide)).toNat : Int) = 99 := by decide +kernel
          clear e hj
          go_wp2_with fail
          go_quiet ((go_at_call 107; exact Calls.quiet_of_same (hsm _)))
          go_wp2
          go_roundw
          case rel => exact ⟨12 + 1, by omega, by go_num, hj', below_drewN hbl _⟩
          case measure => simp [intOf]
      · by_cases e : (100 : Int) = s
        · have hv := HV.out 13 (by decide) e
          have n0 : ((100 : Int) == s) = true := beq_iff_eq.2 e
          have q0 : wrap64 ((({ data := #[48, 49, 50, 51, 52, 53, 54, 55, 56, 57, 97, 98, 99, 100, 101, 102] } : ByteArray)[13]'(by decide)).toNat : Int) = 100 := by decide +kernel
          clear e
          go_wp2_with fail
          go_quiet ((go_at_call 107; exact Calls.quiet_of_same (hsm _)))
          go_wp2
          go_ret
          exact ⟨by rw [hv]; rfl, below_drewN hbl _⟩
        · have n0 : ((100 : Int) == s) = false := beq_eq_false_iff_ne.2 e
          have hj' : Hid (∀ j : Nat, j < 13 + 1 → hexDg j ≠ s) := Lib.hid fun j hjj => by
            rcases Nat.lt_succ_iff_lt_or_eq.1 hjj with h | h
            · exact hj.out j h
            · rw [h]; exact e
          have q0 : wrap64 ((({ data := #[48, 49, 50, 51, 52, 53, 54, 55, 56, 57, 97, 98, 99, 100, 101, 102] } : ByteArray)[13]'(by decide)).toNat : Int) = 100 := by decide +kernel
          clear e hj
          go_wp2_with fail
          go_quiet ((go_at_call 107; exact Calls.quiet_of_same (hsm _)))
          go_wp2
          go_roundw
          case rel => exact ⟨13 + 1, by omega, by go_num, hj', below_drewN hbl _⟩
          case measure => simp [intOf]
      · by_cases e : (101 : Int) = s
        · have hv := HV.out 14 (by decide) e
          have n0 : ((101 : Int) == s) = true := beq_iff_eq.2 e
          have q0 : wrap64 ((({ data := #[48, 49, 50, 51, 52, 53, 54, 55, 56, 57, 97, 98, 99, 100, 101, 102] } : ByteArray)[14]'(by decide)).toNat : Int) = 101 := by decide +kernel
          clear e
          go_wp2_with fail
          go_quiet ((go_at_call 107; exact Calls.quiet_of_same (hsm _)))
          go_wp2
          go_ret
          exact ⟨by rw [hv]; rfl, below_drewN hbl _⟩
        · have n0 : ((101 : Int) == s) = false := beq_eq_false_iff_ne.2 e
          have hj' : Hid (∀ j : Nat, j < 14 + 1 → hexDg j ≠ s) := Lib.hid fun j hjj => by
            rcases Nat.lt_succ_iff_lt_or_eq.1 hjj with h | h
            · exact hj.out j h
            · rw [h]; exact e
          have q0 : wrap64 ((({ data := #[48, 49, 50, 51, 52, 53, 54, 55, 56, 57, 97, 98, 99, 100, 101, 102] } : ByteArray)[14]'(by decide)).toNat : Int) = 101 := by decide +kernel
          clear e hj
          go_wp2_with fail
          go_quiet ((go_at_call 107; exact Calls.quiet_of_same (hsm _)))
          go_wp2
          go_roundw
          case rel => exact ⟨14 + 1, by omega, by go_num, hj', below_drewN hbl _⟩
          case measure => simp [intOf]
      · by_cases e : (102 : Int) = s
        · have hv := HV.out 15 (by decide) e
          have n0 : ((102 : Int) == s) = true := beq_iff_eq.2 e
          have q0 : wrap64 ((({ data := #[48, 49, 50, 51, 52, 53, 54, 55, 56, 57, 97, 98, 99, 100, 101, 102] } : ByteArray)[15]'(by decide)).toNat : Int) = 102 := by decide +kernel
          clear e
          go_wp2_with fail
          go_quiet ((go_at_call 107; exact Calls.quiet_of_same (hsm _)))
          go_wp2
          go_ret
          exact ⟨by rw [hv]; rfl, below_drewN hbl _⟩
        · have n0 : ((102 : Int) == s) = false := beq_eq_false_iff_ne.2 e
          have hj' : Hid (∀ j : Nat, j < 15 + 1 → hexDg j ≠ s) := Lib.hid fun j hjj => by
            rcases Nat.lt_succ_iff_lt_or_eq.1 hjj with h | h
            · exact hj.out j h
            · rw [h]; exact e
          have q0 : wrap64 ((({ data := #[48, 49, 50, 51, 52, 53, 54, 55, 56, 57, 97, 98, 99, 100, 101, 102] } : ByteArray)[15]'(by decide)).toNat : Int) = 102 := by decide +kernel
          clear e hj
          go_wp2_with fail
          go_quiet ((go_at_call 107; exact Calls.quiet_of_same (hsm _)))
          go_wp2
          go_roundw
          case rel => exact ⟨15 + 1, by omega, by go_num, hj', below_drewN hbl _⟩
          case measure => simp [intOf]
    · obtain rfl : k = 16 := by omega
      have hv := HN.out hj.out
      go_wp2
      go_ret
      exact ⟨by rw [hv]; rfl, hbl⟩
end

section
open Go.RowKit

theorem hexV_bd (c : Int) : -1 ≤ hexV c ∧ hexV c ≤ 15 := by unfold hexV; split <;> (try split) <;> omega
theorem spB_end (l : List Int) (j : Nat) (h : l.length ≤ j) : spB l j = false := by unfold spB; rw [chA_end l j h]; rfl

set_option maxRecDepth 100000 in
set_option maxHeartbeats 4000000 in
theorem rvalue_any {a : Option Addr} {n cap : Nat} {l : List Int} {w : World} (i : Int) (k : Nat) (h : Src w a n cap l) (hi : i = (k : Int)) (hk : k ≤ 1000000) :
    Calls Tryz.prog 111 #[.slice a n cap, .int .i64 i] w (Told (.tuple #[.int .i64 (valueF l k).1, .int .i64 ((valueF l k).2 : Nat)]) w) := by
  subst hi
  have hlen := h.len
  by_cases hn : n ≤ k + 1
  · have hv : valueF l k = (65533, k + 1) := by unfold valueF; rw [if_pos (by rw [hlen]; exact hn)]
    rw [hv]
    have hge : (n : Int) ≤ (k : Int) + 1 := by omega
    clear h hlen hv
    go_enter Tryz.func111, Tryz.ntmps111
    go_wp2
    go_ret2
    exact ⟨rfl, Below.refl _ _⟩
  · have hge : ¬ (n : Int) ≤ (k : Int) + 1 := by omega
    obtain ⟨hcap1, hcap2⟩ := h.cap
    obtain ⟨b, off, rfl, _⟩ := h.cell k (by omega)
    have hnn := h.small
    have hcell : ∀ {w' : World} (h' : Src w' (some ⟨b, off, none⟩) n cap l) (j : Nat), j < n → w'.cell? ⟨b, off + j, none⟩ = some (.int .i64 (chA l j)) := fun h' j hj => by
      obtain ⟨b', off', e, hc⟩ := h'.cell j hj
      cases e
      exact hc
    generalize hR : hexGo 6 l (k + 1) 0 = R
    have HV : Hid (valueF l k = if R.2 = k + 1 then (chA l (k + 1), k + 2) else (cleanF R.1, if spB l R.2 then R.2 + 1 else R.2)) := Lib.hid (by unfold valueF; rw [if_neg (by rw [hlen]; exact hn), hR])
    have HR := Lib.hid hR; clear hR
    have HL := Lib.hid hlen; clear hlen
    have HP := Lib.hid h; clear h
    generalize valueF l k = V at *
    go_enter Tryz.func111, Tryz.ntmps111
    go_wp2_with fail
    go_loopw [6, 7] (fun i m wr => ∃ (f j : Nat) (q : Int), i = .int .i64 j ∧ m = .int .i64 q ∧ Hid (hexGo f l j q = R) ∧ j + f = k + 7 ∧ k + 1 ≤ j ∧ j ≤ n ∧ 0 ≤ q ∧ Hid ((q + 1) * 16 ^ f ≤ 16777216) ∧ Below w.heap.size w wr) (fun i _ _ => n - (intOf i).toNat)
    case atStart => exact ⟨6, k + 1, 0, by go_num, rfl, HR, by omega, by omega, by omega, by omega, Lib.hid (by decide), Below.refl _ _⟩
    case round =>
      obtain ⟨f, j, q, rfl, rfl, hG, hjf, hj1, hj2, hq, hQ, hbl⟩ := hrel
      have hS := Lib.hid (HP.out.later hbl)
      have hq2 : q ≤ 16777215 := by
        have h1 : (1 : Int) ≤ 16 ^ f := Int.pow_pos (by decide)
        have := hQ.out
        have h2 : (q + 1) * 1 ≤ (q + 1) * 16 ^ f := Int.mul_le_mul_of_nonneg_left h1 (by omega)
        omega
      by_cases hjn : j < n
      · have hc := hcell hS.out j hjn
        have hch := chA_ch HP.out.pre j
        have hvb := hexV_bd (chA l j)
        by_cases hf : f = 0
        · have hE : R = (q, j) := by rw [← hG.out]; exact hexGo_stop f (.inl hf)
          have hl7 : ¬ (j : Int) < (k : Int) + 7 := by omega
          by_cases hj : j = k + 1
          · have hv : V = (chA l (k + 1), k + 2) := by rw [HV.out, hE]; exact if_pos hj
            subst hj
            omega
          · have hj' : ((j : Int) == (k : Int) + 1) = false := beq_eq_false_iff_ne.2 (by omega)
            have hsp := fun w (h : Src w (some ⟨b, off, none⟩) n cap l) => rspaceAt (j : Int) j h rfl
            have hv : V = (cleanF q, if spB l j then j + 1 else j) := by rw [HV.out, hE]; exact if_neg hj
            clear HV hE HR hG HL hcell
            generalize spB l j = sp at *
            by_cases h0 : q = 0
            · subst h0
              rw [show cleanF 0 = 65533 from rfl] at hv
              cases sp
              all_goals
                go_wp2_with ((first | (go_at_call 72; refine (hsp _ hS.out).mono ?_; rintro e w2 ⟨rfl, rfl⟩)))
                go_ret2
                refine ⟨by rw [hv]; rfl, ?_⟩
                exact hbl
            · have h0' : (q == 0) = false := beq_eq_false_iff_ne.2 h0
              have hr := fun w => refRight_any q w
              have hcl : cleanF q = if rightB q = true then q else 65533 := by unfold cleanF charOf; rw [if_neg h0]
              rw [hcl] at hv
              generalize rightB q = rr at *
              clear h0 hcl
              cases sp <;> cases rr
              all_goals
                go_wp2_with ((first | (go_at_call 72; refine (hsp _ hS.out).mono ?_; rintro e w2 ⟨rfl, rfl⟩) | (go_at_call 26; refine (hr _).mono ?_; rintro e w2 ⟨rfl, rfl⟩)))
                go_ret2
                refine ⟨by rw [hv]; rfl, ?_⟩
                exact hbl
        · by_cases hx : 0 ≤ hexV (chA l j)
          · have hl7 : (j : Int) < (k : Int) + 7 := by omega
            obtain ⟨f, rfl⟩ : ∃ g, f = g + 1 := ⟨f - 1, by omega⟩
            have hG' : Hid (hexGo f l (j + 1) (16 * q + hexV (chA l j)) = R) := Lib.hid (by rw [← hG.out]; conv => rhs; rw [hexGo, if_pos (show hxB l j = true from decide_eq_true hx)])
            have hQ' : Hid ((16 * q + hexV (chA l j) + 1) * 16 ^ f ≤ 16777216) := Lib.hid (by
              have h1 := hQ.out
              rw [Int.pow_succ] at h1
              have h2 : (0 : Int) ≤ 16 ^ f := Int.pow_nonneg (by decide)
              have h3 : (16 * q + hexV (chA l j) + 1) * 16 ^ f ≤ (16 * (q + 1)) * 16 ^ f := Int.mul_le_mul_of_nonneg_right (by omega) h2
              have h4 : (16 * (q + 1)) * 16 ^ f = (q + 1) * (16 ^ f * 16) := by rw [Int.mul_comm 16 (q + 1), Int.mul_assoc, Int.mul_comm 16 (16 ^ f)]
              omega)
            have hcv := fun w => rhex_any (chA l j) w hch
            clear hG hQ HV HL
            generalize hexV (chA l j) = hv0 at *
            go_wp2_with (first | (go_at_call 141; refine (hcv _).mono ?_; rintro e w1 ⟨rfl, hbx⟩; replace hbl := hbl.trans (hbx.mono hbl.size); replace hS := Lib.hid (hS.out.later hbx); replace hc := hcell hS.out j hjn; clear hbx))
            go_roundw
            case rel => exact ⟨f, j + 1, 16 * q + hv0, by go_num, by go_num, hG', by omega, by omega, by omega, by omega, hQ', hbl⟩
            case measure => simp [intOf]; omega
          · have hE : R = (q, j) := by rw [← hG.out]; exact hexGo_stop f (.inr (decide_eq_false (by omega)))
            have hl7 : (j : Int) < (k : Int) + 7 := by omega
            have hcv := fun w => rhex_any (chA l j) w hch
            generalize hexV (chA l j) = hv0 at *
            by_cases hj : j = k + 1
            · have hv : V = (chA l (k + 1), k + 2) := by rw [HV.out, hE]; exact if_pos hj
              subst hj
              have hjj : (((k + 1 : Nat) : Int) == (k : Int) + 1) = true := beq_iff_eq.2 (by omega)
              clear HV hE HR hG HL
              go_wp2_with ((first | (go_at_call 141; refine (hcv _).mono ?_; rintro e w1 ⟨rfl, hbx⟩; replace hbl := hbl.trans (hbx.mono hbl.size); replace hS := Lib.hid (hS.out.later hbx); replace hc := hcell hS.out _ hjn; clear hbx)))
              go_ret2
              refine ⟨by rw [hv]; rfl, ?_⟩
              exact hbl
            · have hj' : ((j : Int) == (k : Int) + 1) = false := beq_eq_false_iff_ne.2 (by omega)
              have hsp := fun w (h : Src w (some ⟨b, off, none⟩) n cap l) => rspaceAt (j : Int) j h rfl
              have hv : V = (cleanF q, if spB l j then j + 1 else j) := by rw [HV.out, hE]; exact if_neg hj
              clear HV hE HR hG HL
              generalize spB l j = sp at *
              by_cases h0 : q = 0
              · subst h0
                rw [show cleanF 0 = 65533 from rfl] at hv
                cases sp
                all_goals
                  go_wp2_with ((first | (go_at_call 141; refine (hcv _).mono ?_; rintro e w1 ⟨rfl, hbx⟩; replace hbl := hbl.trans (hbx.mono hbl.size); replace hS := Lib.hid (hS.out.later hbx); replace hc := hcell hS.out _ hjn; clear hbx) | (go_at_call 72; refine (hsp _ hS.out).mono ?_; rintro e w2 ⟨rfl, rfl⟩)))
                  go_ret2
                  refine ⟨by rw [hv]; rfl, ?_⟩
                  exact hbl
              · have h0' : (q == 0) = false := beq_eq_false_iff_ne.2 h0
                have hr := fun w => refRight_any q w
                have hcl : cleanF q = if rightB q = true then q else 65533 := by unfold cleanF charOf; rw [if_neg h0]
                rw [hcl] at hv
                generalize rightB q = rr at *
                clear h0 hcl
                cases sp <;> cases rr
                all_goals
                  go_wp2_with ((first | (go_at_call 141; refine (hcv _).mono ?_; rintro e w1 ⟨rfl, hbx⟩; replace hbl := hbl.trans (hbx.mono hbl.size); replace hS := Lib.hid (hS.out.later hbx); replace hc := hcell hS.out _ hjn; clear hbx) | (go_at_call 72; refine (hsp _ hS.out).mono ?_; rintro e w2 ⟨rfl, rfl⟩) | (go_at_call 26; refine (hr _).mono ?_; rintro e w2 ⟨rfl, rfl⟩)))
                  go_ret2
                  refine ⟨by rw [hv]; rfl, ?_⟩
                  exact hbl
      · have hE : R = (q, j) := by rw [← hG.out]; exact hexGo_stop f (.inr (by rcases hq' : hxB l j with _ | _; rfl; exact absurd (lt_of_hxB hq') (by rw [HL.out]; exact hjn)))
        have hjn' : ¬ (j : Int) < (n : Int) := by omega
        by_cases hj : j = k + 1
        · have hv : V = (chA l (k + 1), k + 2) := by rw [HV.out, hE]; exact if_pos hj
          subst hj
          omega
        · have hj' : ((j : Int) == (k : Int) + 1) = false := beq_eq_false_iff_ne.2 (by omega)
          have hsp := fun w (h : Src w (some ⟨b, off, none⟩) n cap l) => rspaceAt (j : Int) j h rfl
          have hv : V = (cleanF q, if spB l j then j + 1 else j) := by rw [HV.out, hE]; exact if_neg hj
          clear HV hE HR hG HL hcell
          generalize spB l j = sp at *
          by_cases h0 : q = 0
          · subst h0
            rw [show cleanF 0 = 65533 from rfl] at hv
            cases sp
            all_goals
              go_wp2_with ((first | (go_at_call 72; refine (hsp _ hS.out).mono ?_; rintro e w2 ⟨rfl, rfl⟩)))
              go_ret2
              refine ⟨by rw [hv]; rfl, ?_⟩
              exact hbl
          · have h0' : (q == 0) = false := beq_eq_false_iff_ne.2 h0
            have hr := fun w => refRight_any q w
            have hcl : cleanF q = if rightB q = true then q else 65533 := by unfold cleanF charOf; rw [if_neg h0]
            rw [hcl] at hv
            generalize rightB q = rr at *
            clear h0 hcl
            cases sp <;> cases rr
            all_goals
              go_wp2_with ((first | (go_at_call 72; refine (hsp _ hS.out).mono ?_; rintro e w2 ⟨rfl, rfl⟩) | (go_at_call 26; refine (hr _).mono ?_; rintro e w2 ⟨rfl, rfl⟩)))
              go_ret2
              refine ⟨by rw [hv]; rfl, ?_⟩
              exact hbl
end
end Go.Proofs.YtickcbmfboajiaaGreatDoor
