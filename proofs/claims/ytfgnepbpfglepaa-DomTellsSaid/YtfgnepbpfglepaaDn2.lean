/- A node without attributes and states: the program's walks. -/
import Derived.Test.YtfgnepbpfglepaaDn1
namespace Go.Proofs.Ytfgnepbpfglepaa
open Go.RowKit
set_option linter.unusedVariables false
set_option linter.unusedSimpArgs false

set_option maxRecDepth 100000 in
set_option maxHeartbeats 1000000 in
theorem rightAttrs_0 (a : Option Addr) (c : Nat) (w : World) : Calls Try.prog 82 #[.slice a 0 c] w (Told (.bool true) w) := by
  have hmm := @run_makeMap Try.prog
  go_enter Try.func82, Try.ntmps82
  go_wp2_with fail
  refine wp_loop_rounds 1 ?_
  rw [rounds_succ]
  go_wp2
  go_ret
  exact ⟨rfl, (Below.refl _ _).alloc (Nat.le_refl _) _⟩
set_option maxRecDepth 100000 in
set_option maxHeartbeats 1000000 in
theorem rightStates_0 (a : Option Addr) (c : Nat) (w : World) : Calls Try.prog 83 #[.slice a 0 c] w (Told (.bool true) w) := by
  go_enter Try.func83, Try.ntmps83
  go_wp2_with fail
  refine wp_loop_rounds 1 ?_
  rw [rounds_succ]
  go_wp2
  go_ret
  exact ⟨rfl, Below.refl _ _⟩
set_option maxRecDepth 100000 in
set_option maxHeartbeats 4000000 in
theorem rightNode_0 (p : Int) (nm : ByteArray) (xs : List Nd) (a : Option Addr) (n c : Nat) (w : World) (hx : RdN (· < w.heap.size) w a n c xs) (hp : parB p xs = true) (hn : nameS nm = true) (hs : nm.size ≤ 1000000) (h0 : rightS ⟨#[]⟩ = true) :
    Calls Try.prog 60 #[.agg #[.int .i64 p, .int .i64 1, .string ⟨#[]⟩, .string nm, .slice none 0 0, .slice none 0 0, .string ⟨#[]⟩], .slice a n c] w (Told (.bool true) w) := by
  have hbX := (Below.refl w.heap.size w).alloc (Nat.le_refl _) (.cells [.int .i64 p, .int .i64 1, .string ⟨#[]⟩, .string nm, .slice none 0 0, .slice none 0 0, .string ⟨#[]⟩].toArray 44)
  have B1 : Blk (w.alloc (.cells [.int .i64 p, .int .i64 1, .string ⟨#[]⟩, .string nm, .slice none 0 0, .slice none 0 0, .string ⟨#[]⟩].toArray 44)) w.heap.size [.int .i64 p, .int .i64 1, .string ⟨#[]⟩, .string nm, .slice none 0 0, .slice none 0 0, .string ⟨#[]⟩] 44 := Blk.alloc _ _
  have fP := rightParent_any p xs a n c (· < w.heap.size) _ (hx.move (fun b hb => ⟨hb, hbX.block b hb⟩))
  rw [hp] at fP
  have fR := fun w => isRight_any ⟨#[]⟩ w (by decide)
  have fN := fun w => isName_any nm w hs
  rw [h0] at fR
  rw [hn] at fN
  have fA := fun w => rightAttrs_0 none 0 w
  have fS := fun w => rightStates_0 none 0 w
  clear hx hp hn h0
  go_enter Try.func60, Try.ntmps60
  go_wp2_with (first
    | (go_at_call 79; (with_reducible refine fP.mono ?_); rintro e wq ⟨rfl, hwq⟩; replace hwq := hwq.symm; subst hwq)
    | (go_at_call 80; (with_reducible refine (fR _).mono ?_); rintro e w2 ⟨rfl, hb2⟩; have hbw2 := hbX.trans (hb2.mono hbX.size); have B2 := B1.later hb2 B1.lt; have d3 := B2.cell 3 _ rfl; have d4 := B2.cell 4 _ rfl; have d5 := B2.cell 5 _ rfl)
    | (go_at_call 81; (with_reducible refine (fN _).mono ?_); rintro e w3 ⟨rfl, hb3⟩; have hbw3 := hbw2.trans (hb3.mono hbw2.size); have B3 := B2.later hb3 B2.lt; have d4 := B3.cell 4 _ rfl; have d5 := B3.cell 5 _ rfl)
    | (go_at_call 82; (with_reducible refine (fA _).mono ?_); rintro e w4 ⟨rfl, hb4⟩; have hbw4 := hbw3.trans (hb4.mono hbw3.size); have B4 := B3.later hb4 B3.lt; have d5 := B4.cell 5 _ rfl)
    | (go_at_call 83; (with_reducible refine (fS _).mono ?_); rintro e w5 ⟨rfl, hb5⟩; have hbw5 := hbw4.trans (hb5.mono hbw4.size)))
  go_ret
  exact ⟨rfl, hbw5⟩
end Go.Proofs.Ytfgnepbpfglepaa
