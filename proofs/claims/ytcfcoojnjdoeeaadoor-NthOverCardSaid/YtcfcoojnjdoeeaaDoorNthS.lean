/- Sets in memory: rows of truths; what a set tells of itself: walks. -/
import Derived.Test.YtcfcoojnjdoeeaaDoorNthP
import Derived.Deep.OwnRows
import Derived.Deep.RegionHeld3
import Derived.IntWalk
namespace Go.Proofs.YtcfcoojnjdoeeaaDoor
open Go.RowKit

/-- A slice reads as a row of truths. -/
def RdB (w : World) (a : Option Addr) (n cap : Nat) (f : Nat → Bool) : Prop :=
  n ≤ cap ∧ cap ≤ maxLen ∧ (n = 0 ∨ ∃ b off, a = some ⟨b, off, none⟩ ∧ b < w.heap.size ∧ ∀ i, i < n → w.cell? ⟨b, off + i, none⟩ = some (.bool (f i)))
theorem RdB.later {w w' : World} {a : Option Addr} {n cap : Nat} {f : Nat → Bool} (h : RdB w a n cap f) (hb : Below w.heap.size w w') : RdB w' a n cap f := by
  obtain ⟨h1, h2, h3⟩ := h
  refine ⟨h1, h2, ?_⟩
  rcases h3 with h3 | ⟨b, off, rfl, hlt, hc⟩
  · exact .inl h3
  · exact .inr ⟨b, off, rfl, Nat.lt_of_lt_of_le hlt hb.size, fun i hi => (hb.cell (p := ⟨b, off + i, none⟩) hlt).trans (hc i hi)⟩
theorem RdB.congr {w : World} {a : Option Addr} {n cap : Nat} {f g : Nat → Bool} (h : RdB w a n cap f) (e : ∀ i, i < n → f i = g i) : RdB w a n cap g := by
  obtain ⟨h1, h2, h3⟩ := h
  refine ⟨h1, h2, ?_⟩
  rcases h3 with h3 | ⟨b, off, rfl, hlt, hc⟩
  · exact .inl h3
  · exact .inr ⟨b, off, rfl, hlt, fun i hi => by rw [hc i hi, e i hi]⟩
theorem RdB.of_row {w : World} {b t n : Nat} {f : Nat → Bool} (h : w.rowIs b t n (fun i => .bool (f i))) (hn : n ≤ maxLen) : RdB w (some ⟨b, 0, none⟩) n n f :=
  ⟨Nat.le_refl _, hn, .inr ⟨b, 0, rfl, h.lt, fun i hi => by rw [Nat.zero_add]; exact h.cell hi⟩⟩

/-- A value of the type Set: the set with these parts. -/
structure IsSet (w : World) (v : Value) (S : Nat → Bool) (h p : Nat) : Prop where
  parts : LeastP S h p
  small : h + p ≤ 4096
  val : ∃ a n cap, v = .agg #[.int .i64 h, .slice a n cap] ∧ ((n = h + p ∧ RdB w a n cap (fun i => S (i + 1))) ∨ (n = 0 ∧ cap = 0 ∧ a = none ∧ h = 0 ∧ p = 1 ∧ S 1 = false))
theorem IsSet.later {w w' : World} {v : Value} {S : Nat → Bool} {h p : Nat} (s : IsSet w v S h p) (hb : Below w.heap.size w w') : IsSet w' v S h p := by
  obtain ⟨h1, h2, a, n, cap, rfl, h3⟩ := s
  refine ⟨h1, h2, a, n, cap, rfl, ?_⟩
  rcases h3 with ⟨rfl, h3⟩ | h3
  · exact .inl ⟨rfl, h3.later hb⟩
  · exact .inr h3
theorem IsSet.congr {w : World} {v : Value} {S T : Nat → Bool} {h p : Nat} (s : IsSet w v S h p) (e : ∀ n, 1 ≤ n → S n = T n) : IsSet w v T h p := by
  obtain ⟨h1, h2, a, n, cap, rfl, h3⟩ := s
  refine ⟨h1.congr e, h2, a, n, cap, rfl, ?_⟩
  rcases h3 with ⟨rfl, h3⟩ | ⟨r1, r2, r3, r4, r5, r6⟩
  · exact .inl ⟨rfl, h3.congr fun i _ => e _ (by omega)⟩
  · exact .inr ⟨r1, r2, r3, r4, r5, by rw [← e 1 (Nat.le_refl _)]; exact r6⟩

/-- A call answers this, and has changed nothing that was. -/
def ToldB (v : Value) (w : World) (e : Ending) (w' : World) : Prop := e = .returned v ∧ Below w.heap.size w w'
/-- What list gives: the truths of the parts. -/
def ToldList (S : Nat → Bool) (m : Nat) (w : World) (e : Ending) (w' : World) : Prop := ∃ a cap, e = .returned (.slice a m cap) ∧ RdB w' a m cap (fun i => S (i + 1)) ∧ Below w.heap.size w w'

set_option maxRecDepth 100000 in
set_option maxHeartbeats 1000000 in
theorem list_any (w : World) (v : Value) (S : Nat → Bool) (h p : Nat) (hs : IsSet w v S h p) :
    Calls Tryd.prog 32 #[v] w (ToldList S (h + p) w) := by
  obtain ⟨h1, h2, a, n, cap, rfl, h3⟩ := hs
  rcases h3 with ⟨rfl, h3⟩ | ⟨rfl, rfl, rfl, rfl, rfl, h4⟩
  · have hp := h1.pos
    have n0 : (((h + p : Nat) : Int) == 0) = false := beq_eq_false_iff_ne.2 (by omega)
    have H3 := Lib.hid (h3.later ((Below.refl _ w).alloc (Nat.le_refl _) (.cells #[.int .i64 h, .slice a (h + p) cap] 28)))
    clear h3
    generalize hm : h + p = m at *
    clear hm
    go_enter Tryd.func32, Tryd.ntmps32
    go_wp2
    go_ret
    exact ⟨a, cap, rfl, H3.out, (Below.refl _ w).alloc (Nat.le_refl _) _⟩
  · have H4 := Lib.hid h4
    clear h4 h1
    go_enter Tryd.func32, Tryd.ntmps32
    go_wp2
    go_ret
    refine ⟨some ⟨w.heap.size + 1, 0, none⟩, 1, rfl, ?_, ((Below.refl _ w).alloc (Nat.le_refl _) _).alloc (by simp) _⟩
    refine ⟨Nat.le_refl _, by unfold maxLen; omega, .inr ⟨_, 0, rfl, by simp, fun i hi => ?_⟩⟩
    obtain rfl : i = 0 := by omega
    show _ = some (Value.bool (S 1))
    rw [H4.out, cell_of_row _ (w.heap.size + 1) 0 #[.bool false] 4 _ (by simpa using heap_alloc_new (w.alloc _) _)]
    rfl

set_option maxRecDepth 100000 in
set_option maxHeartbeats 1000000 in
theorem parts_any (w : World) (v : Value) (S : Nat → Bool) (h p : Nat) (hs : IsSet w v S h p) :
    Calls Tryd.prog 27 #[v] w (ToldB (.tuple #[.int .i64 h, .int .i64 p]) w) := by
  have H := Lib.hid hs
  obtain ⟨h1, h2, a, n, cap, rfl, h3⟩ := hs
  have hp := h1.pos
  clear h1 h3
  have B1 : Below w.heap.size w (w.alloc (.cells #[.int .i64 h, .slice a n cap] 28)).drew := ((Below.refl _ w).alloc (Nat.le_refl _) _).drew
  have C0 : (w.alloc (.cells #[.int .i64 h, .slice a n cap] 28)).drew.cell? ⟨w.heap.size, 0, none⟩ = some (.int .i64 h) := by simp [World.cell?_drew]
  have C1 : (w.alloc (.cells #[.int .i64 h, .slice a n cap] 28)).drew.cell? ⟨w.heap.size, 1, none⟩ = some (.slice a n cap) := by simp [World.cell?_drew]
  have H' := Lib.hid (H.out.later B1)
  clear H
  have hw : IntKind.i64.wrap ((h : Int) + (p : Int) - (h : Int)) = p := by rw [IntWalk.i64_in _ (by omega)]; omega
  go_enter Tryd.func27, Tryd.ntmps27
  go_wp2
  go_region_held3 (fun w' => w'.cell? ⟨w.heap.size, 0, none⟩ = some (.int .i64 h) ∧ w'.cell? ⟨w.heap.size, 1, none⟩ = some (.slice a n cap) ∧ IsSet w' (.agg #[.int .i64 h, .slice a n cap]) S h p ∧ Below w.heap.size w w')
    (first | exact ⟨C0, C1, H'.out, B1⟩ | exact ⟨(hb.cell (p := ⟨w.heap.size, 0, none⟩) (by simp)).trans C0, (hb.cell (p := ⟨w.heap.size, 1, none⟩) (by simp)).trans C1, H'.out.later hb, B1.trans (hb.mono B1.size)⟩)
    (first | (go_at_call 32; refine (list_any _ _ S h p ?_).mono ?_; (first | assumption | exact H'.out); rintro e w' ⟨a', cap', rfl, hr, hb⟩))
  all_goals
    go_wp2
    go_ret2
    exact ⟨rfl, B1.trans (hb.mono B1.size)⟩
end Go.Proofs.YtcfcoojnjdoeeaaDoor
