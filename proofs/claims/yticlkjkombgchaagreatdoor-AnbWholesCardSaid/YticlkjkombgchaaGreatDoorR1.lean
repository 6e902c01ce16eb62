/- The document's answer on tokens: tests at a place: walks. -/
import Derived.Test.YticlkjkombgchaaGreatDoorTk
namespace Go.Proofs.YticlkjkombgchaaGreatDoor
open Go.RowKit

/-- A slice of prepared characters. -/
structure Src (w : World) (a : Option Addr) (n cap : Nat) (l : List Int) : Prop where
  rd : Reads w .i64 a cap l
  len : l.length = n
  pre : Pre l
  small : n ≤ 100000
theorem Src.later {w w' : World} {a : Option Addr} {n cap : Nat} {l : List Int} (h : Src w a n cap l) (hb : Below w.heap.size w w') : Src w' a n cap l := ⟨h.rd.later hb, h.len, h.pre, h.small⟩
theorem Src.cell {w : World} {a : Option Addr} {n cap : Nat} {l : List Int} (h : Src w a n cap l) (k : Nat) (hk : k < n) :
    ∃ b off, a = some ⟨b, off, none⟩ ∧ w.cell? ⟨b, off + k, none⟩ = some (.int .i64 (chA l k)) := by
  obtain ⟨_, _, h3⟩ := h.rd
  rcases h3 with h3 | ⟨b, off, e, hat⟩
  · rw [← h.len, h3] at hk; simp at hk
  · exact ⟨b, off, e, hat.2 k (by rw [h.len]; exact hk)⟩
theorem Src.cap {w : World} {a : Option Addr} {n cap : Nat} {l : List Int} (h : Src w a n cap l) : n ≤ cap ∧ cap ≤ 9223372036854775807 := by
  have h1 := h.rd.1; have h2 := h.rd.2.1; unfold maxLen at h2; have h2 : cap ≤ 9223372036854775807 := h2; rw [h.len] at h1; exact ⟨h1, h2⟩

set_option maxRecDepth 100000 in
set_option maxHeartbeats 1000000 in
theorem ris_any {a : Option Addr} {n cap : Nat} {l : List Int} {w : World} (i : Int) (k : Nat) (c : Int) (h : Src w a n cap l) (hi : i = (k : Int)) (hc : c ≠ 0) :
    Calls Tryz.prog 85 #[.slice a n cap, .int .i64 i, .int .i64 c] w (Tells (.bool (isB l k c)) w) := by
  subst hi
  obtain ⟨hcap1, hcap2⟩ := h.cap
  by_cases hk : k < n
  · obtain ⟨b, off, rfl, hcell⟩ := h.cell k hk
    have q : (chA l k == c) = isB l k c := by unfold isB; rfl
    have hlt : (k : Int) < (n : Int) := by omega
    clear h hk hc
    generalize chA l k = v at *
    generalize isB l k c = r at *
    go_enter Tryz.func85, Tryz.ntmps85
    go_wp2
    go_ret
    exact ⟨rfl, rfl⟩
  · have q : isB l k c = false := decide_eq_false (by rw [chA_end l k (by rw [h.len]; omega)]; exact fun e => hc e.symm)
    rw [q]
    have hlt : ¬ (k : Int) < (n : Int) := by omega
    clear h hk hc q
    go_enter Tryz.func85, Tryz.ntmps85
    go_wp2
    go_ret
    exact ⟨rfl, rfl⟩

set_option maxRecDepth 100000 in
set_option maxHeartbeats 1000000 in
theorem rspaceAt {a : Option Addr} {n cap : Nat} {l : List Int} {w : World} (i : Int) (k : Nat) (h : Src w a n cap l) (hi : i = (k : Int)) :
    Calls Tryz.prog 81 #[.slice a n cap, .int .i64 i] w (Tells (.bool (spB l k)) w) := by
  subst hi
  obtain ⟨hcap1, hcap2⟩ := h.cap
  by_cases hk : k < n
  · obtain ⟨b, off, rfl, hcell⟩ := h.cell k hk
    have hs := fun w => rspace_any (chA l k) w (chA_ch h.pre k)
    have q : spaceB (chA l k) = spB l k := rfl
    have hlt : (k : Int) < (n : Int) := by omega
    clear h hk
    rw [q] at hs
    clear q
    generalize chA l k = v at *
    generalize spB l k = r at *
    go_enter Tryz.func81, Tryz.ntmps81
    go_wp2_with (go_at_call 80; refine (hs _).mono ?_; rintro e w1 ⟨rfl, rfl⟩)
    go_ret
    exact ⟨rfl, rfl⟩
  · have q : spB l k = false := by
      rcases hq : spB l k with _ | _
      · rfl
      · exact absurd (lt_of_spB hq) (by rw [h.len]; exact hk)
    rw [q]
    have hlt : ¬ (k : Int) < (n : Int) := by omega
    clear h hk q
    go_enter Tryz.func81, Tryz.ntmps81
    go_wp2
    go_ret
    exact ⟨rfl, rfl⟩

set_option maxRecDepth 100000 in
set_option maxHeartbeats 1000000 in
theorem rdigitAt {a : Option Addr} {n cap : Nat} {l : List Int} {w : World} (i : Int) (k : Nat) (h : Src w a n cap l) (hi : i = (k : Int)) :
    Calls Tryz.prog 122 #[.slice a n cap, .int .i64 i] w (Tells (.bool (dgB l k)) w) := by
  subst hi
  obtain ⟨hcap1, hcap2⟩ := h.cap
  by_cases hk : k < n
  · obtain ⟨b, off, rfl, hcell⟩ := h.cell k hk
    have hs := fun w => rdigit_any (chA l k) w (chA_ch h.pre k)
    have q : digitB (chA l k) = dgB l k := rfl
    have hlt : (k : Int) < (n : Int) := by omega
    clear h hk
    rw [q] at hs
    clear q
    generalize chA l k = v at *
    generalize dgB l k = r at *
    go_enter Tryz.func122, Tryz.ntmps122
    go_wp2_with (go_at_call 43; refine (hs _).mono ?_; rintro e w1 ⟨rfl, rfl⟩)
    go_ret
    exact ⟨rfl, rfl⟩
  · have q : dgB l k = false := by
      rcases hq : dgB l k with _ | _
      · rfl
      · exact absurd (lt_of_dgB hq) (by rw [h.len]; exact hk)
    rw [q]
    have hlt : ¬ (k : Int) < (n : Int) := by omega
    clear h hk q
    go_enter Tryz.func122, Tryz.ntmps122
    go_wp2
    go_ret
    exact ⟨rfl, rfl⟩

set_option maxRecDepth 100000 in
set_option maxHeartbeats 1000000 in
theorem rstartAt {a : Option Addr} {n cap : Nat} {l : List Int} {w : World} (i : Int) (k : Nat) (h : Src w a n cap l) (hi : i = (k : Int)) :
    Calls Tryz.prog 124 #[.slice a n cap, .int .i64 i] w (Tells (.bool (stB l k)) w) := by
  subst hi
  obtain ⟨hcap1, hcap2⟩ := h.cap
  by_cases hk : k < n
  · obtain ⟨b, off, rfl, hcell⟩ := h.cell k hk
    have hs := fun w => rstart_any (chA l k) w (chA_ch h.pre k)
    have q : startB (chA l k) = stB l k := rfl
    have hlt : (k : Int) < (n : Int) := by omega
    clear h hk
    rw [q] at hs
    clear q
    generalize chA l k = v at *
    generalize stB l k = r at *
    go_enter Tryz.func124, Tryz.ntmps124
    go_wp2_with (go_at_call 150; refine (hs _).mono ?_; rintro e w1 ⟨rfl, rfl⟩)
    go_ret
    exact ⟨rfl, rfl⟩
  · have q : stB l k = false := by
      rcases hq : stB l k with _ | _
      · rfl
      · exact absurd (lt_of_stB hq) (by rw [h.len]; exact hk)
    rw [q]
    have hlt : ¬ (k : Int) < (n : Int) := by omega
    clear h hk q
    go_enter Tryz.func124, Tryz.ntmps124
    go_wp2
    go_ret
    exact ⟨rfl, rfl⟩

set_option maxRecDepth 100000 in
set_option maxHeartbeats 1000000 in
theorem rinnerAt {a : Option Addr} {n cap : Nat} {l : List Int} {w : World} (i : Int) (k : Nat) (h : Src w a n cap l) (hi : i = (k : Int)) :
    Calls Tryz.prog 89 #[.slice a n cap, .int .i64 i] w (Tells (.bool (nmB l k)) w) := by
  subst hi
  obtain ⟨hcap1, hcap2⟩ := h.cap
  by_cases hk : k < n
  · obtain ⟨b, off, rfl, hcell⟩ := h.cell k hk
    have hs := fun w => rname_any (chA l k) w (chA_ch h.pre k)
    have q : nameB (chA l k) = nmB l k := rfl
    have hlt : (k : Int) < (n : Int) := by omega
    clear h hk
    rw [q] at hs
    clear q
    generalize chA l k = v at *
    generalize nmB l k = r at *
    go_enter Tryz.func89, Tryz.ntmps89
    go_wp2_with (go_at_call 126; refine (hs _).mono ?_; rintro e w1 ⟨rfl, rfl⟩)
    go_ret
    exact ⟨rfl, rfl⟩
  · have q : nmB l k = false := by
      rcases hq : nmB l k with _ | _
      · rfl
      · exact absurd (lt_of_nmB hq) (by rw [h.len]; exact hk)
    rw [q]
    have hlt : ¬ (k : Int) < (n : Int) := by omega
    clear h hk q
    go_enter Tryz.func89, Tryz.ntmps89
    go_wp2
    go_ret
    exact ⟨rfl, rfl⟩
end Go.Proofs.YticlkjkombgchaaGreatDoor
