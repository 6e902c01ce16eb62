/- Texts of mine in one: R1. -/
import Derived.Test.YtelbjnanpmdnnaaQ14
namespace Go.Proofs.Ytelbjnanpmdnnaa
section
open Go.RowKit
set_option maxRecDepth 100000 in
set_option maxHeartbeats 1000000 in
theorem ris_any {a : Option Addr} {n cap : Nat} {l : List Int} {w : World} (i : Int) (k : Nat) (c : Int) (h : Src w a n cap l) (hi : i = (k : Int)) (hc : c ≠ 0) :
    Calls Try.prog 53 #[.slice a n cap, .int .i64 i, .int .i64 c] w (Tells (.bool (isB l k c)) w) := by
  subst hi
  obtain ⟨hcap1, hcap2⟩ := h.cap
  by_cases hk : k < n
  · obtain ⟨b, off, rfl, hcell⟩ := h.cell k hk
    have q : (chA l k == c) = isB l k c := by unfold isB; rfl
    have hlt : (k : Int) < (n : Int) := by omega
    clear h hk hc
    generalize chA l k = v at *
    generalize isB l k c = r at *
    go_enter Try.func53, Try.ntmps53
    go_wp2
    go_ret
    exact ⟨rfl, rfl⟩
  · have q : isB l k c = false := decide_eq_false (by rw [chA_end l k (by rw [h.len]; omega)]; exact fun e => hc e.symm)
    rw [q]
    have hlt : ¬ (k : Int) < (n : Int) := by omega
    clear h hk hc q
    go_enter Try.func53, Try.ntmps53
    go_wp2
    go_ret
    exact ⟨rfl, rfl⟩
set_option maxRecDepth 100000 in
set_option maxHeartbeats 1000000 in
theorem rspaceAt {a : Option Addr} {n cap : Nat} {l : List Int} {w : World} (i : Int) (k : Nat) (h : Src w a n cap l) (hi : i = (k : Int)) :
    Calls Try.prog 49 #[.slice a n cap, .int .i64 i] w (Tells (.bool (spB l k)) w) := by
  subst hi
  obtain ⟨hcap1, hcap2⟩ := h.cap
  by_cases hk : k < n
  · obtain ⟨b, off, rfl, hcell⟩ := h.cell k hk
    have hs := fun w => rspace_any (chA l k) w (chA_ch h.pre k)
    have q : spaceB (chA l k) = spB l k := rfl
    have hlt : (k : Int) < (n : Int) := by omega
    clear h hk
    rw [q] at hs
    clear q
    generalize chA l k = v at *
    generalize spB l k = r at *
    go_enter Try.func49, Try.ntmps49
    go_wp2_with (go_at_call 48; refine (hs _).mono ?_; rintro e w1 ⟨rfl, rfl⟩)
    go_ret
    exact ⟨rfl, rfl⟩
  · have q : spB l k = false := by
      rcases hq : spB l k with _ | _
      · rfl
      · exact absurd (lt_of_spB hq) (by rw [h.len]; exact hk)
    rw [q]
    have hlt : ¬ (k : Int) < (n : Int) := by omega
    clear h hk q
    go_enter Try.func49, Try.ntmps49
    go_wp2
    go_ret
    exact ⟨rfl, rfl⟩
set_option maxRecDepth 100000 in
set_option maxHeartbeats 1000000 in
theorem rdigitAt {a : Option Addr} {n cap : Nat} {l : List Int} {w : World} (i : Int) (k : Nat) (h : Src w a n cap l) (hi : i = (k : Int)) :
    Calls Try.prog 72 #[.slice a n cap, .int .i64 i] w (Tells (.bool (dgB l k)) w) := by
  subst hi
  obtain ⟨hcap1, hcap2⟩ := h.cap
  by_cases hk : k < n
  · obtain ⟨b, off, rfl, hcell⟩ := h.cell k hk
    have hs := fun w => rdigit_any (chA l k) w (chA_ch h.pre k)
    have q : digitB (chA l k) = dgB l k := rfl
    have hlt : (k : Int) < (n : Int) := by omega
    clear h hk
    rw [q] at hs
    clear q
    generalize chA l k = v at *
    generalize dgB l k = r at *
    go_enter Try.func72, Try.ntmps72
    go_wp2_with (go_at_call 84; refine (hs _).mono ?_; rintro e w1 ⟨rfl, rfl⟩)
    go_ret
    exact ⟨rfl, rfl⟩
  · have q : dgB l k = false := by
      rcases hq : dgB l k with _ | _
      · rfl
      · exact absurd (lt_of_dgB hq) (by rw [h.len]; exact hk)
    rw [q]
    have hlt : ¬ (k : Int) < (n : Int) := by omega
    clear h hk q
    go_enter Try.func72, Try.ntmps72
    go_wp2
    go_ret
    exact ⟨rfl, rfl⟩
set_option maxRecDepth 100000 in
set_option maxHeartbeats 1000000 in
theorem rstartAt {a : Option Addr} {n cap : Nat} {l : List Int} {w : World} (i : Int) (k : Nat) (h : Src w a n cap l) (hi : i = (k : Int)) :
    Calls Try.prog 74 #[.slice a n cap, .int .i64 i] w (Tells (.bool (stB l k)) w) := by
  subst hi
  obtain ⟨hcap1, hcap2⟩ := h.cap
  by_cases hk : k < n
  · obtain ⟨b, off, rfl, hcell⟩ := h.cell k hk
    have hs := fun w => rstart_any (chA l k) w (chA_ch h.pre k)
    have q : startB (chA l k) = stB l k := rfl
    have hlt : (k : Int) < (n : Int) := by omega
    clear h hk
    rw [q] at hs
    clear q
    generalize chA l k = v at *
    generalize stB l k = r at *
    go_enter Try.func74, Try.ntmps74
    go_wp2_with (go_at_call 85; refine (hs _).mono ?_; rintro e w1 ⟨rfl, rfl⟩)
    go_ret
    exact ⟨rfl, rfl⟩
  · have q : stB l k = false := by
      rcases hq : stB l k with _ | _
      · rfl
      · exact absurd (lt_of_stB hq) (by rw [h.len]; exact hk)
    rw [q]
    have hlt : ¬ (k : Int) < (n : Int) := by omega
    clear h hk q
    go_enter Try.func74, Try.ntmps74
    go_wp2
    go_ret
    exact ⟨rfl, rfl⟩
set_option maxRecDepth 100000 in
set_option maxHeartbeats 1000000 in
theorem rinnerAt {a : Option Addr} {n cap : Nat} {l : List Int} {w : World} (i : Int) (k : Nat) (h : Src w a n cap l) (hi : i = (k : Int)) :
    Calls Try.prog 57 #[.slice a n cap, .int .i64 i] w (Tells (.bool (nmB l k)) w) := by
  subst hi
  obtain ⟨hcap1, hcap2⟩ := h.cap
  by_cases hk : k < n
  · obtain ⟨b, off, rfl, hcell⟩ := h.cell k hk
    have hs := fun w => rname_any (chA l k) w (chA_ch h.pre k)
    have q : nameB (chA l k) = nmB l k := rfl
    have hlt : (k : Int) < (n : Int) := by omega
    clear h hk
    rw [q] at hs
    clear q
    generalize chA l k = v at *
    generalize nmB l k = r at *
    go_enter Try.func57, Try.ntmps57
    go_wp2_with (go_at_call 76; refine (hs _).mono ?_; rintro e w1 ⟨rfl, rfl⟩)
    go_ret
    exact ⟨rfl, rfl⟩
  · have q : nmB l k = false := by
      rcases hq : nmB l k with _ | _
      · rfl
      · exact absurd (lt_of_nmB hq) (by rw [h.len]; exact hk)
    rw [q]
    have hlt : ¬ (k : Int) < (n : Int) := by omega
    clear h hk q
    go_enter Try.func57, Try.ntmps57
    go_wp2
    go_ret
    exact ⟨rfl, rfl⟩
end
end Go.Proofs.Ytelbjnanpmdnnaa
