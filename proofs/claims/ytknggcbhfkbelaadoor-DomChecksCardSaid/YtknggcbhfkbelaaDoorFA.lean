/- Several texts of mine in one. -/
import Derived.Test.YtknggcbhfkbelaaDoorDn1
import Derived.Deep.RegionWith
import Derived.Test.YtknggcbhfkbelaaDoorDm7
import Derived.Laws.CopyOwn
import Derived.Laws.OwnMore
namespace Go.Proofs.YtknggcbhfkbelaaDoor
section
open Go.RowKit
set_option linter.unusedVariables false
set_option linter.unusedSimpArgs false

set_option maxRecDepth 100000 in
set_option maxHeartbeats 1000000 in
theorem rightAttrs_0 (a : Option Addr) (c : Nat) (w : World) : Calls Tryd.prog 26 #[.slice a 0 c] w (Told (.bool true) w) := by
  have hmm := @run_makeMap Tryd.prog
  go_enter Tryd.func26, Tryd.ntmps26
  go_wp2_with fail
  refine wp_loop_rounds 1 ?_
  rw [rounds_succ]
  go_wp2
  go_ret
  exact ⟨rfl, (Below.refl _ _).alloc (Nat.le_refl _) _⟩
set_option maxRecDepth 100000 in
set_option maxHeartbeats 1000000 in
theorem rightStates_0 (a : Option Addr) (c : Nat) (w : World) : Calls Tryd.prog 27 #[.slice a 0 c] w (Told (.bool true) w) := by
  go_enter Tryd.func27, Tryd.ntmps27
  go_wp2_with fail
  refine wp_loop_rounds 1 ?_
  rw [rounds_succ]
  go_wp2
  go_ret
  exact ⟨rfl, Below.refl _ _⟩
set_option maxRecDepth 100000 in
set_option maxHeartbeats 4000000 in
theorem rightNode_0 (p : Int) (nm : ByteArray) (xs : List Nd) (a : Option Addr) (n c : Nat) (w : World) (hx : RdN (· < w.heap.size) w a n c xs) (hp : parB p xs = true) (hn : nameS nm = true) (hs : nm.size ≤ 1000000) (h0 : rightS ⟨#[]⟩ = true) :
    Calls Tryd.prog 13 #[.agg #[.int .i64 p, .int .i64 1, .string ⟨#[]⟩, .string nm, .slice none 0 0, .slice none 0 0, .string ⟨#[]⟩], .slice a n c] w (Told (.bool true) w) := by
  have hbX := (Below.refl w.heap.size w).alloc (Nat.le_refl _) (.cells [.int .i64 p, .int .i64 1, .string ⟨#[]⟩, .string nm, .slice none 0 0, .slice none 0 0, .string ⟨#[]⟩].toArray 38)
  have B1 : Blk (w.alloc (.cells [.int .i64 p, .int .i64 1, .string ⟨#[]⟩, .string nm, .slice none 0 0, .slice none 0 0, .string ⟨#[]⟩].toArray 38)) w.heap.size [.int .i64 p, .int .i64 1, .string ⟨#[]⟩, .string nm, .slice none 0 0, .slice none 0 0, .string ⟨#[]⟩] 38 := Blk.alloc _ _
  have fP := rightParent_any p xs a n c (· < w.heap.size) _ (hx.move (fun b hb => ⟨hb, hbX.block b hb⟩))
  rw [hp] at fP
  have fR := fun w => isRight_any ⟨#[]⟩ w (by decide)
  have fN := fun w => isName_any nm w hs
  rw [h0] at fR
  rw [hn] at fN
  have fA := fun w => rightAttrs_0 none 0 w
  have fS := fun w => rightStates_0 none 0 w
  clear hx hp hn h0
  go_enter Tryd.func13, Tryd.ntmps13
  go_wp2_with (first
    | (go_at_call 23; (with_reducible refine fP.mono ?_); rintro e wq ⟨rfl, hwq⟩; replace hwq := hwq.symm; subst hwq)
    | (go_at_call 24; (with_reducible refine (fR _).mono ?_); rintro e w2 ⟨rfl, hb2⟩; have hbw2 := hbX.trans (hb2.mono hbX.size); have B2 := B1.later hb2 B1.lt; have d3 := B2.cell 3 _ rfl; have d4 := B2.cell 4 _ rfl; have d5 := B2.cell 5 _ rfl)
    | (go_at_call 25; (with_reducible refine (fN _).mono ?_); rintro e w3 ⟨rfl, hb3⟩; have hbw3 := hbw2.trans (hb3.mono hbw2.size); have B3 := B2.later hb3 B2.lt; have d4 := B3.cell 4 _ rfl; have d5 := B3.cell 5 _ rfl)
    | (go_at_call 26; (with_reducible refine (fA _).mono ?_); rintro e w4 ⟨rfl, hb4⟩; have hbw4 := hbw3.trans (hb4.mono hbw3.size); have B4 := B3.later hb4 B3.lt; have d5 := B4.cell 5 _ rfl)
    | (go_at_call 27; (with_reducible refine (fS _).mono ?_); rintro e w5 ⟨rfl, hb5⟩; have hbw5 := hbw4.trans (hb5.mono hbw4.size)))
  go_ret
  exact ⟨rfl, hbw5⟩
end

section
open Go.RowKit
set_option linter.unusedVariables false
set_option linter.unusedSimpArgs false

def nd0 (p : Int) (c : UInt8) : Nd := ⟨p, 1, ⟨#[]⟩, ⟨#[c]⟩, [], [], ⟨#[]⟩⟩
def ndCs (p : Int) (c : UInt8) : List Value := [.int .i64 p, .int .i64 1, .string ⟨#[]⟩, .string ⟨#[c]⟩, .slice none 0 0, .slice none 0 0, .string ⟨#[]⟩]
/-- The example's document, and its cells. -/
def doc0 : List Nd := [nd0 (-1) 97, nd0 0 98, nd0 0 99]
def docCs : List Value := ndCs (-1) 97 ++ (ndCs 0 98 ++ ndCs 0 99)
theorem nd0_at {ok : Nat → Prop} {w : World} {b o : Nat} {p : Int} {c : UInt8} (h : ∀ f v, (ndCs p c)[f]? = some v → w.cell? ⟨b, o + f, none⟩ = some v) : NodeAt ok w b o (nd0 p c) :=
  ⟨h 0 _ rfl, h 1 _ rfl, h 2 _ rfl, h 3 _ rfl, ⟨none, 0, 0, h 4 _ rfl, RdOf.nil _ _ _ _ _ (by unfold maxLen; omega) (fun _ => rfl)⟩, ⟨none, 0, 0, h 5 _ rfl, RdOf.nil _ _ _ _ _ (by unfold maxLen; omega) (fun _ => rfl)⟩, h 6 _ rfl, Nat.zero_le _, by show 1 ≤ 140737488351232; omega, Nat.zero_le _⟩
theorem doc0_rd {w : World} {b : Nat} (hB : Blk w b docCs 38) (k : Nat) (hk : k ≤ 3) : RdN (· < w.heap.size) w (some ⟨b, 0, none⟩) k 3 (doc0.take k) := by
  refine ⟨by rw [List.length_take]; show k = min k 3; omega, hk, ⟨by unfold maxLen; omega, by omega, fun h => by cases h⟩, .inr ⟨b, 0, rfl, hB.lt, fun i x hx => ?_⟩⟩
  have hi : i < 3 := by
    have := (List.getElem?_eq_some_iff.1 hx).1
    rw [List.length_take] at this
    have h3 : doc0.length = 3 := rfl
    omega
  have hx2 : doc0[i]? = some x := by
    rw [List.getElem?_take] at hx
    split at hx
    · exact hx
    · exact absurd hx (by simp)
  rcases (show i = 0 ∨ i = 1 ∨ i = 2 by omega) with rfl | rfl | rfl
  · cases hx2
    exact nd0_at (fun f v hv => by
      have hf : f < 7 := (List.getElem?_eq_some_iff.1 hv).1
      refine hB.cell _ v ?_
      rcases (show f = 0 ∨ f = 1 ∨ f = 2 ∨ f = 3 ∨ f = 4 ∨ f = 5 ∨ f = 6 by omega) with rfl | rfl | rfl | rfl | rfl | rfl | rfl <;> exact hv)
  · cases hx2
    exact nd0_at (fun f v hv => by
      have hf : f < 7 := (List.getElem?_eq_some_iff.1 hv).1
      refine hB.cell _ v ?_
      rcases (show f = 0 ∨ f = 1 ∨ f = 2 ∨ f = 3 ∨ f = 4 ∨ f = 5 ∨ f = 6 by omega) with rfl | rfl | rfl | rfl | rfl | rfl | rfl <;> exact hv)
  · cases hx2
    exact nd0_at (fun f v hv => by
      have hf : f < 7 := (List.getElem?_eq_some_iff.1 hv).1
      refine hB.cell _ v ?_
      rcases (show f = 0 ∨ f = 1 ∨ f = 2 ∨ f = 3 ∨ f = 4 ∨ f = 5 ∨ f = 6 by omega) with rfl | rfl | rfl | rfl | rfl | rfl | rfl <;> exact hv)
theorem right_e : rightS ⟨#[]⟩ = true := by decide +kernel
theorem right_a : nameS ⟨#[97]⟩ = true ∧ nameS ⟨#[98]⟩ = true ∧ nameS ⟨#[99]⟩ = true := by decide +kernel

set_option maxRecDepth 100000 in
set_option maxHeartbeats 4000000 in
theorem check_0 (b : Nat) (w : World) (hB : Blk w b docCs 38) : Calls Tryd.prog 6 #[.slice (some ⟨b, 0, none⟩) 3 3] w (Told .nilIface w) := by
  have HB := Lib.hid hB
  have c := fun i v (h : docCs[i]? = some v) w' (hb : Below w.heap.size w w') => (hb.cell (p := ⟨b, i, none⟩) hB.lt).trans (hB.cell i v h)
  have HC := Lib.hid c
  have f0 := fun w' (hb : Below w.heap.size w w') => rightNode_0 (-1) ⟨#[97]⟩ (doc0.take 0) (some ⟨b, 0, none⟩) 0 3 w' (doc0_rd (hB.later hb hB.lt) 0 (by omega)) (by decide) right_a.1 (by decide) right_e
  have f1 := fun w' (hb : Below w.heap.size w w') => rightNode_0 0 ⟨#[98]⟩ (doc0.take 1) (some ⟨b, 0, none⟩) 1 3 w' (doc0_rd (hB.later hb hB.lt) 1 (by omega)) (by decide) right_a.2.1 (by decide) right_e
  have f2 := fun w' (hb : Below w.heap.size w w') => rightNode_0 0 ⟨#[99]⟩ (doc0.take 2) (some ⟨b, 0, none⟩) 2 3 w' (doc0_rd (hB.later hb hB.lt) 2 (by omega)) (by decide) right_a.2.2 (by decide) right_e
  have F0 := Lib.hid f0
  have F1 := Lib.hid f1
  have F2 := Lib.hid f2
  clear hB c f0 f1 f2
  go_enter Tryd.func6, Tryd.ntmps6
  go_wp2_with fail
  refine wp_loop_rounds 4 ?_
  rw [rounds_succ]
  have x0 := HC.out 0 _ rfl w (Below.refl _ _)
  have x1 := HC.out 1 _ rfl w (Below.refl _ _)
  have x2 := HC.out 2 _ rfl w (Below.refl _ _)
  have x3 := HC.out 3 _ rfl w (Below.refl _ _)
  have x4 := HC.out 4 _ rfl w (Below.refl _ _)
  have x5 := HC.out 5 _ rfl w (Below.refl _ _)
  have x6 := HC.out 6 _ rfl w (Below.refl _ _)
  go_wp2
  have X0 := fun o => ((Below.refl w.heap.size w).alloc (Nat.le_refl _) o).drew
  have v0 := fun o => F0.out _ (X0 o)
  have A0 := Lib.hid (show Blk (w.alloc (.cells (ndCs (-1) 97).toArray 38)) w.heap.size (ndCs (-1) 97) 38 from Blk.alloc _ _)
  go_region_with (go_at_call 13; ((refine (v0 _).mono ?_); rintro e w1 ⟨rfl, hb1⟩; have H1 := (X0 _).trans (hb1.mono (X0 _).size); have B0 := A0.out.later (((Below.refl _ _).drew).trans hb1) A0.out.lt; have k1 := B0.cell 1 _ rfl; have k0 := B0.cell 0 _ rfl; clear B0))
  go_wp2
  rw [rounds_succ]
  clear x0 x1 x2 x3 x4 x5 x6 k0 k1
  have x7 := HC.out 7 _ rfl w1 H1
  have x8 := HC.out 8 _ rfl w1 H1
  have x9 := HC.out 9 _ rfl w1 H1
  have x10 := HC.out 10 _ rfl w1 H1
  have x11 := HC.out 11 _ rfl w1 H1
  have x12 := HC.out 12 _ rfl w1 H1
  have x13 := HC.out 13 _ rfl w1 H1
  go_wp2
  have X1 := fun o => (H1.alloc H1.size o).drew
  have v1 := fun o => F1.out _ (X1 o)
  have A1 := Lib.hid (show Blk (w1.alloc (.cells (ndCs (0) 98).toArray 38)) w1.heap.size (ndCs (0) 98) 38 from Blk.alloc _ _)
  go_region_with (go_at_call 13; ((refine (v1 _).mono ?_); rintro e w2 ⟨rfl, hb2⟩; have H2 := (X1 _).trans (hb2.mono (X1 _).size); have B1 := A1.out.later (((Below.refl _ _).drew).trans hb2) A1.out.lt; have k1 := B1.cell 1 _ rfl; have k0 := B1.cell 0 _ rfl; clear B1))
  go_wp2
  rw [rounds_succ]
  clear x7 x8 x9 x10 x11 x12 x13 k0 k1
  have x14 := HC.out 14 _ rfl w2 H2
  have x15 := HC.out 15 _ rfl w2 H2
  have x16 := HC.out 16 _ rfl w2 H2
  have x17 := HC.out 17 _ rfl w2 H2
  have x18 := HC.out 18 _ rfl w2 H2
  have x19 := HC.out 19 _ rfl w2 H2
  have x20 := HC.out 20 _ rfl w2 H2
  go_wp2
  have X2 := fun o => (H2.alloc H2.size o).drew
  have v2 := fun o => F2.out _ (X2 o)
  have A2 := Lib.hid (show Blk (w2.alloc (.cells (ndCs (0) 99).toArray 38)) w2.heap.size (ndCs (0) 99) 38 from Blk.alloc _ _)
  go_region_with (go_at_call 13; ((refine (v2 _).mono ?_); rintro e w3 ⟨rfl, hb3⟩; have H3 := (X2 _).trans (hb3.mono (X2 _).size); have B2 := A2.out.later (((Below.refl _ _).drew).trans hb3) A2.out.lt; have k1 := B2.cell 1 _ rfl; have k0 := B2.cell 0 _ rfl; clear B2))
  go_wp2
  rw [rounds_succ]
  go_wp2
  go_ret
  exact ⟨rfl, H3⟩
end

section
open Go.RowKit
set_option linter.unusedVariables false
set_option linter.unusedSimpArgs false

/-- The tree of the example's document, as New leaves it: its rows, the kinds of its nodes, the places ahead. -/
structure Tree0 (w : World) (t b c r d : Nat) : Prop where
  doc : w.cell? ⟨t, 0, none⟩ = some (.slice (some ⟨b, 0, none⟩) 3 c)
  row : w.cell? ⟨t, 1, none⟩ = some (.slice (some ⟨r, 0, none⟩) 3 d)
  k0 : w.cell? ⟨b, 1, none⟩ = some (.int .i64 1)
  k1 : w.cell? ⟨b, 8, none⟩ = some (.int .i64 1)
  k2 : w.cell? ⟨b, 15, none⟩ = some (.int .i64 1)
  a0 : w.cell? ⟨r, 0, none⟩ = some (.int .i64 (-1))
  a1 : w.cell? ⟨r, 1, none⟩ = some (.int .i64 (-1))
  a2 : w.cell? ⟨r, 2, none⟩ = some (.int .i64 1)
  lt : t < w.heap.size ∧ b < w.heap.size ∧ r < w.heap.size
theorem Tree0.later {w w' : World} {t b c r d : Nat} (h : Tree0 w t b c r d) (hb : Below w.heap.size w w') : Tree0 w' t b c r d :=
  ⟨(hb.cell (p := ⟨t, 0, none⟩) h.lt.1).trans h.doc, (hb.cell (p := ⟨t, 1, none⟩) h.lt.1).trans h.row, (hb.cell (p := ⟨b, 1, none⟩) h.lt.2.1).trans h.k0, (hb.cell (p := ⟨b, 8, none⟩) h.lt.2.1).trans h.k1, (hb.cell (p := ⟨b, 15, none⟩) h.lt.2.1).trans h.k2,
   (hb.cell (p := ⟨r, 0, none⟩) h.lt.2.2).trans h.a0, (hb.cell (p := ⟨r, 1, none⟩) h.lt.2.2).trans h.a1, (hb.cell (p := ⟨r, 2, none⟩) h.lt.2.2).trans h.a2,
   Nat.lt_of_lt_of_le h.lt.1 hb.size, Nat.lt_of_lt_of_le h.lt.2.1 hb.size, Nat.lt_of_lt_of_le h.lt.2.2 hb.size⟩

set_option maxRecDepth 100000 in
set_option maxHeartbeats 4000000 in
theorem has_0 (t b c r d k : Nat) (w : World) (h : Tree0 w t b c r d) (hk : k < 3) : Calls Tryd.prog 41 #[.pointer (some ⟨t, 0, none⟩), .int .i64 (k : Nat)] w (Told (.bool true) w) := by
  have c0 := h.doc
  rcases (show k = 0 ∨ k = 1 ∨ k = 2 by omega) with rfl | rfl | rfl
  all_goals
    go_enter Tryd.func41, Tryd.ntmps41
    go_wp2
    go_ret
    exact ⟨rfl, Below.refl _ _⟩

set_option maxRecDepth 100000 in
set_option maxHeartbeats 4000000 in
theorem isElement_0 (t b c r d k : Nat) (w : World) (h : Tree0 w t b c r d) (hk : k < 3) : Calls Tryd.prog 20 #[.pointer (some ⟨t, 0, none⟩), .int .i64 (k : Nat)] w (Told (.bool true) w) := by
  have f0 := has_0 t b c r d k w h hk
  have HT := Lib.hid h
  clear h
  rcases (show k = 0 ∨ k = 1 ∨ k = 2 by omega) with rfl | rfl | rfl
  all_goals
    go_enter Tryd.func20, Tryd.ntmps20
    go_wp2_with (first | (go_at_call 41; (refine f0.mono ?_); rintro e w1 ⟨rfl, hb1⟩; have T1 := HT.out.later hb1; have c0 := T1.doc; have c1 := T1.k0; have c2 := T1.k1; have c3 := T1.k2; clear T1))
    go_ret
    exact ⟨rfl, hb1⟩

def aheadK : Nat → Value
  | 2 => .tuple #[.int .i64 1, .bool true]
  | _ => .tuple #[.int .i64 0, .bool false]
set_option maxRecDepth 100000 in
set_option maxHeartbeats 4000000 in
theorem place_0 (w : World) : Calls Tryd.prog 42 #[.int .i64 (-1)] w (Told (.tuple #[.int .i64 0, .bool false]) w) := by
  go_enter Tryd.func42, Tryd.ntmps42
  go_wp2
  refine bodyPost_ret (v := .tuple #[.int .i64 0, .bool false]) (by simp [results, Tryd.results42, go_sem]) rfl ⟨rfl, Below.refl _ _⟩
set_option maxRecDepth 100000 in
set_option maxHeartbeats 4000000 in
theorem place_1 (w : World) : Calls Tryd.prog 42 #[.int .i64 1] w (Told (.tuple #[.int .i64 1, .bool true]) w) := by
  go_enter Tryd.func42, Tryd.ntmps42
  go_wp2
  refine bodyPost_ret (v := .tuple #[.int .i64 1, .bool true]) (by simp [results, Tryd.results42, go_sem]) rfl ⟨rfl, Below.refl _ _⟩
set_option maxRecDepth 100000 in
set_option maxHeartbeats 4000000 in
theorem ahead_0 (t b c r d k : Nat) (w : World) (h : Tree0 w t b c r d) (hk : k < 3) : Calls Tryd.prog 21 #[.pointer (some ⟨t, 0, none⟩), .int .i64 (k : Nat)] w (Told (aheadK k) w) := by
  have f0 := isElement_0 t b c r d k w h hk
  have p0 := fun w => place_0 w
  have p1 := fun w => place_1 w
  have HT := Lib.hid h
  clear h
  rcases (show k = 0 ∨ k = 1 ∨ k = 2 by omega) with rfl | rfl | rfl
  all_goals
    go_enter Tryd.func21, Tryd.ntmps21
    go_wp2_with (first
      | (go_at_call 20; (refine f0.mono ?_); rintro e w1 ⟨rfl, hb1⟩; have T1 := HT.out.later hb1; have c0 := T1.row; have c1 := T1.a0; have c2 := T1.a1; have c3 := T1.a2; clear T1)
      | (go_at_call 42; (first | (refine (p0 _).mono ?_) | (refine (p1 _).mono ?_)); rintro e w2 ⟨rfl, hb2⟩; have hb3 := hb1.trans (hb2.mono hb1.size)))
    first
      | refine bodyPost_ret (v := .tuple #[.int .i64 0, .bool false]) (by simp [results, Tryd.results21, go_sem]) rfl ⟨rfl, hb3⟩
      | refine bodyPost_ret (v := .tuple #[.int .i64 1, .bool true]) (by simp [results, Tryd.results21, go_sem]) rfl ⟨rfl, hb3⟩
end

section
open Go.RowKit
set_option linter.unusedVariables false
set_option linter.unusedSimpArgs false

set_option maxRecDepth 100000 in
set_option maxHeartbeats 4000000 in
theorem reverse_0 (q c : Nat) (rest : List Value) (w : World) (h : Blk w q (.int .i64 2 :: .int .i64 1 :: rest) 3) :
    Calls Tryd.prog 22 #[.slice (some ⟨q, 0, none⟩) 2 c] w fun e w' => e = .returned (.tuple #[]) ∧ Blk w' q (.int .i64 1 :: .int .i64 2 :: rest) 3 ∧ w.grownBy w' (some q) := by
  have x0 := h.cell 0 _ rfl
  have x1 := h.cell 1 _ rfl
  have f0 := h.frozen 0
  have f1 := h.frozen 1
  have H := Lib.hid h
  clear h
  go_enter Tryd.func22, Tryd.ntmps22
  go_wp2_with fail
  refine wp_loop_rounds 2 ?_
  rw [rounds_succ]
  go_wp2
  go_region
  go_wp2
  rw [rounds_succ]
  go_wp2
  go_end0
  refine ⟨rfl, ?_, ?_⟩
  · have B1 := (H.out.setCell 0 (.int .i64 1)).setCell 1 (.int .i64 2)
    exact B1
  · exact grown_trans (⟨rfl, rfl, rfl, Nat.le_refl _, fun _ _ _ => rfl⟩ : w.grownBy w.drew (some q)) (grown_trans (grown_setCell _ q 0 (.int .i64 1)) (grown_setCell _ q 1 (.int .i64 2)))
end

section
open Go.RowKit
set_option linter.unusedVariables false
set_option linter.unusedSimpArgs false

theorem TrydinfoIntR : (Tryd.prog.info? 3).map (fun i => (i.zero, i.size, i.bytes)) = some (some (.int .i64 0), 1, 8) := by kernel_rfl

/-- A row of two places of one's own, as a block. -/
theorem own_two {w : World} {B : Nat} {e : TypeId} {v : Value} (h : w.ownsRow B e 1 v 2 [.int .i64 2, .int .i64 1]) :
    ∃ q cap rest, v = .slice (some ⟨q, 0, none⟩) 2 cap ∧ B ≤ q ∧ Blk w q (.int .i64 2 :: .int .i64 1 :: rest) e := by
  obtain ⟨_, h | ⟨g, cap, cur, hv, hB, hg, _, _, _, ht⟩⟩ := h
  · cases h.2
  · refine ⟨g, cap, cur.toList.drop 2, hv, hB, ?_⟩
    have : cur.toList = .int .i64 2 :: .int .i64 1 :: cur.toList.drop 2 := by
      have := List.take_append_drop 2 cur.toList
      rw [show cur.toList.take 2 = [.int .i64 2, .int .i64 1] from ht] at this
      exact this.symm
    unfold Blk
    rw [hg, ← this]

theorem own_base {w : World} {base : Nat} {e : TypeId} {s : Nat} {v : Value} {n : Nat} {xs : List Value} (h : w.ownsRow base e s v n xs) (k : Nat) (hk : v.ownBlock = some k) : base ≤ k := by
  obtain ⟨_, h | ⟨g, cap, cur, hv, hB, _⟩⟩ := h
  · rw [h.1] at hk; cases hk
  · rw [hv] at hk; cases hk; exact hB

set_option maxRecDepth 100000 in
set_option maxHeartbeats 4000000 in
theorem row_0 (t b c r d : Nat) (w : World) (h : Tree0 w t b c r d) :
    Calls Tryd.prog 12 #[.pointer (some ⟨t, 0, none⟩), .int .i64 2] w fun e w' => ∃ q cap rest, e = .returned (.slice (some ⟨q, 0, none⟩) 2 cap) ∧ w.heap.size ≤ q ∧ Blk w' q (.int .i64 1 :: .int .i64 2 :: rest) 3 ∧ Below w.heap.size w w' := by
  obtain ⟨i0, hi, hz⟩ := Option.map_eq_some_iff.1 TrydinfoIntR
  simp only [Prod.mk.injEq] at hz
  obtain ⟨hz0, hz1, hz2⟩ := hz
  have f0 := isElement_0 t b c r d 2 w h (by omega)
  have HT := Lib.hid h
  clear h
  go_enter Tryd.func12, Tryd.ntmps12
  go_wp2_with (go_at_call 20; (refine f0.mono ?_); rintro e w1 ⟨rfl, hb1⟩)
  refine wp_loop_rounds 3 ?_
  rw [rounds_succ]
  have hown := World.ownsRow_nil w1 w.heap.size 3 1
  go_wp2_with (at_builtin; refine wpList_append_own _ rfl _ _ 40 rfl w.heap.size 3 i0 (.int .i64 0) 1 8 Tryd.underlying40 hi hz0 hz1 hz2 rfl (by decide) _ _ _ rfl (hown.alloc _) ⟨w1.heap.size, 0, none⟩ 1 1 [.int .i64 2] rfl rfl (cell_one_new _ _ _) (fun x hx => by simp at hx; subst hx; rfl) (by unfold maxLen; omega) (by omega) (by have := hb1.size; simp; omega) ?_; intro v' w2 hown2 hgrow2 _)
  have hb2 := (hb1.alloc hb1.size (.cells #[.int .i64 2] 3)).grown hgrow2 (by have := hb1.size; simp; omega) (fun k hk => by cases hk)
  have hown3 : w2.ownsRow w.heap.size 3 1 v' 1 [.int .i64 2] := hown2
  have fA : Calls Tryd.prog 21 #[.pointer (some ⟨t, 0, none⟩), .int .i64 2] w2 (Told (.tuple #[.int .i64 1, .bool true]) w2) := ahead_0 t b c r d 2 w2 (HT.out.later hb2) (by omega)
  refine fA.mono ?_
  rintro e w3 ⟨rfl, hb3⟩
  have hb4 := hb2.trans (hb3.mono hb2.size)
  have hown4 := owns_later hown3 hb3
  go_wp2
  rw [rounds_succ]
  go_wp2_with (at_builtin; refine wpList_append_own _ rfl _ _ 40 rfl w.heap.size 3 i0 (.int .i64 0) 1 8 Tryd.underlying40 hi hz0 hz1 hz2 rfl (by decide) _ _ _ rfl (hown4.alloc _) ⟨w3.heap.size, 0, none⟩ 1 1 [.int .i64 1] rfl rfl (cell_one_new _ _ _) (fun x hx => by simp at hx; subst hx; rfl) (by unfold maxLen; omega) (by omega) (by have := hb4.size; simp; omega) ?_; intro v5 w5 hown5 hgrow5 _)
  have hb5 := (hb4.alloc hb4.size (.cells #[.int .i64 1] 3)).grown hgrow5 (by have := hb4.size; simp; omega) (fun k hk => own_base hown4 k hk)
  have hown6 : w5.ownsRow w.heap.size 3 1 v5 2 [.int .i64 2, .int .i64 1] := hown5
  obtain ⟨q, cap, rest, rfl, hq, hB⟩ := own_two hown6
  have fA2 : Calls Tryd.prog 21 #[.pointer (some ⟨t, 0, none⟩), .int .i64 1] w5 (Told (.tuple #[.int .i64 0, .bool false]) w5) := ahead_0 t b c r d 1 w5 (HT.out.later hb5) (by omega)
  refine fA2.mono ?_
  rintro e w6 ⟨rfl, hb6⟩
  have hb7 := hb5.trans (hb6.mono hb5.size)
  have hB6 := hB.later hb6 hB.lt
  go_wp2
  rw [rounds_succ]
  go_wp2_with fail
  refine (reverse_0 q cap rest w6 hB6).mono ?_
  rintro e w7 ⟨rfl, hB7, hg7⟩
  have hb8 := hb7.grown hg7 hb7.size (fun k hk => by cases hk; exact hq)
  go_wp2
  go_ret
  exact ⟨q, cap, rest, rfl, hq, hB7, hb8⟩
end

section
open Go.RowKit
set_option linter.unusedVariables false
set_option linter.unusedSimpArgs false

set_option maxRecDepth 100000 in
set_option maxHeartbeats 4000000 in
theorem same_0 (q p c d : Nat) (w : World) (a0 : w.cell? ⟨q, 0, none⟩ = some (.int .i64 1)) (a1 : w.cell? ⟨q, 1, none⟩ = some (.int .i64 2)) (b0 : w.cell? ⟨p, 0, none⟩ = some (.int .i64 1)) (b1 : w.cell? ⟨p, 1, none⟩ = some (.int .i64 2)) :
    Calls Tryd.prog 11 #[.slice (some ⟨q, 0, none⟩) 2 c, .slice (some ⟨p, 0, none⟩) 2 d] w (Told (.bool true) w) := by
  go_enter Tryd.func11, Tryd.ntmps11
  go_wp2_with fail
  refine wp_loop_rounds 3 ?_
  rw [rounds_succ]
  go_wp2
  go_region
  go_wp2
  rw [rounds_succ]
  go_wp2
  go_region
  go_wp2
  rw [rounds_succ]
  go_wp2
  go_ret
  exact ⟨rfl, ((Below.refl _ _).drew).drew⟩
set_option maxRecDepth 100000 in
set_option maxHeartbeats 4000000 in
theorem multiply_0 (w : World) : Calls Tryd.prog 33 #[.int .u64 1, .int .u64 3] w (Told (.tuple #[.int .u64 0, .int .u64 3]) w) := by
  go_enter Tryd.func33, Tryd.ntmps33
  go_wp2
  refine bodyPost_ret (v := .tuple #[.int .u64 0, .int .u64 3]) (by simp [results, Tryd.results33, go_sem]; decide +kernel) rfl ⟨rfl, Below.refl _ _⟩
end

section
open Go.RowKit
set_option linter.unusedVariables false
set_option linter.unusedSimpArgs false

theorem own_three {w : World} {B : Nat} {e : TypeId} {v : Value} (h : w.ownsRow B e 1 v 3 [.int .i64 0, .int .i64 0, .int .i64 0]) :
    ∃ q cap rest, v = .slice (some ⟨q, 0, none⟩) 3 cap ∧ B ≤ q ∧ Blk w q (.int .i64 0 :: .int .i64 0 :: .int .i64 0 :: rest) e := by
  obtain ⟨_, h | ⟨g, cap, cur, hv, hB, hg, _, _, _, ht⟩⟩ := h
  · cases h.2
  · refine ⟨g, cap, cur.toList.drop 3, hv, hB, ?_⟩
    have : cur.toList = .int .i64 0 :: .int .i64 0 :: .int .i64 0 :: cur.toList.drop 3 := by
      have := List.take_append_drop 3 cur.toList
      rw [show cur.toList.take 3 = [.int .i64 0, .int .i64 0, .int .i64 0] from ht] at this
      exact this.symm
    unfold Blk
    rw [hg, ← this]

theorem copy_one (w : World) (ty q o dLen dCap sLen sCap : Nat) (b k : Nat) (v u : Value) (hs : (Tryd.prog.info? 3).map (·.size) = some 1) (hl : 1 = sLen.min dLen) (hv : w.cell? ⟨b, k, none⟩ = some v) (hu : w.cell? ⟨q, o, none⟩ = some u) (hf : w.frozen? ⟨q, o, none⟩ = false) (h1 : v.oneCell' = true) :
    Sem.run Tryd.prog (Builtin.copy_ #[40, 40] ty #[.slice (some ⟨q, o, none⟩) dLen dCap, .slice (some ⟨b, k, none⟩) sLen sCap]) w = Result.ok (.int .i64 1) (w.setCell ⟨q, o, none⟩ v) := by
  have := run_copy_cells (P := Tryd.prog) w 40 40 ty 3 q o dLen dCap ⟨b, k, none⟩ sLen sCap [v] Tryd.underlying40 hs hl
    (fun j x hx => by cases j with
      | zero => cases hx; simpa [Addr.add] using hv
      | succ j => cases hx)
    (fun j hj => by have : j = 0 := (by simp at hj; omega); subst this; simp [hu])
    (fun j hj => by have : j = 0 := (by simp at hj; omega); subst this; simpa using hf)
    (fun x hx => by simp at hx; rw [hx]; exact h1)
  first
    | exact this
    | simpa [World.setCells, goInt] using this

set_option maxRecDepth 100000 in
set_option maxHeartbeats 4000000 in
theorem repeat_0 (g : Nat) (w : World) (h : Blk w g [.int .i64 (-1)] 3) :
    Calls Tryd.prog 17 #[.slice (some ⟨g, 0, none⟩) 1 1, .int .i64 3] w fun e w' => ∃ q cap rest, e = .returned (.slice (some ⟨q, 0, none⟩) 3 cap) ∧ w.heap.size ≤ q ∧ Blk w' q (.int .i64 (-1) :: .int .i64 (-1) :: .int .i64 (-1) :: rest) 3 ∧ Below w.heap.size w w' := by
  obtain ⟨i0, hi, hz⟩ := Option.map_eq_some_iff.1 TrydinfoIntR
  simp only [Prod.mk.injEq] at hz
  obtain ⟨hz0, hz1, hz2⟩ := hz
  have fM := fun w => multiply_0 w
  have HB := Lib.hid h
  clear h
  go_enter Tryd.func17, Tryd.ntmps17
  have hi1 : (Tryd.prog.info? 3).map (·.size) = some 1 := by rw [hi]; exact congrArg some hz1
  go_wp2_with (go_at_call 33; (refine (fM _).mono ?_); rintro e w1 ⟨rfl, hb1⟩)
  obtain ⟨w2, hm, hown2, hgrow2⟩ := run_makeSlice_full (P := Tryd.prog) (w := w1) w.heap.size 40 3 i0 (.int .i64 0) 1 Tryd.underlying40 hi hz0 hz1 .i64 .i64 3 (by omega) (by rw [hz2]; omega) (by unfold maxLen; omega) hb1.size
  have hown3 : w2.ownsRow w.heap.size 3 1 (.slice (some ⟨w1.heap.size, 0, none⟩) 3 3) 3 [.int .i64 0, .int .i64 0, .int .i64 0] := by
    rw [show (madeCells (Value.int IntKind.i64 0).cells (3 * 1)).toList = [.int .i64 0, .int .i64 0, .int .i64 0] from by first | kernel_rfl | decide +kernel | simp [madeCells, Value.cells]] at hown2
    exact hown2
  have hb2 := hb1.grown hgrow2 hb1.size (fun k hk => by cases hk)
  obtain ⟨q, cap, rest, hqe, hq, hB2⟩ := own_three hown3
  injection hqe with hqe1 _ hqe3
  injection hqe1 with hqe1
  injection hqe1 with hqe1
  subst hqe3
  have hS := HB.out.later hb2 HB.out.lt
  refine Eq.mpr (congrArg (fun r => Oper.upon _ _ _ _ _ (Result.andThen r _)) hm) ?_
  simp only [Result.andThen]
  rw [Oper.upon_value]
  rw [hqe1]
  have hc := copy_one w2 3 q 0 3 3 1 1 g 0 (.int .i64 (-1)) (.int .i64 0) hi1 rfl (hS.cell 0 _ rfl) (hB2.cell 0 _ rfl) (hB2.frozen 0) rfl
  have B3 := hB2.setCell 0 (.int .i64 (-1))
  have hb3 := hb2.setCell (p := ⟨q, 0, none⟩) hq (.int .i64 (-1))
  go_wp2_with fail
  clear hc
  refine wp_loop_rounds 3 ?_
  rw [rounds_succ]
  obtain ⟨w3, hw3⟩ : ∃ w3, w2.setCell ⟨q, 0, none⟩ (.int .i64 (-1)) = w3 := ⟨_, rfl⟩
  rw [hw3] at B3 hb3 ⊢
  have hc := copy_one w3.drew 3 q 1 2 2 1 3 q 0 (.int .i64 (-1)) (.int .i64 0) hi1 rfl (B3.cell 0 _ rfl) (B3.cell 1 _ rfl) (B3.frozen 1) rfl
  have B4 := B3.setCell 1 (.int .i64 (-1))
  have hb4 := hb3.setCell (p := ⟨q, 1, none⟩) hq (.int .i64 (-1))
  go_wp2
  go_region
  go_wp2
  rw [rounds_succ]
  clear hc
  generalize hw4 : World.setCell _ ⟨q, 1, none⟩ (.int .i64 (-1)) = w4
  have B5 : Blk w4 q (.int .i64 (-1) :: .int .i64 (-1) :: .int .i64 0 :: rest) 3 := by
    rw [← hw4]
    exact B4
  have hb5 : Below w.heap.size w w4 := by
    rw [← hw4]
    first
      | exact hb4
      | exact hb4.drew
  have hc := copy_one w4.drew.drew 3 q 2 1 1 2 3 q 0 (.int .i64 (-1)) (.int .i64 0) hi1 rfl (B5.cell 0 _ rfl) (B5.cell 2 _ rfl) (B5.frozen 2) rfl
  have B6 := B5.setCell 2 (.int .i64 (-1))
  have hb6 := hb5.setCell (p := ⟨q, 2, none⟩) hq (.int .i64 (-1))
  go_wp2
  go_region
  go_wp2
  rw [rounds_succ]
  go_wp2
  go_ret
  refine ⟨q, 3, rest, rfl, hq, ?_, ?_⟩
  · exact B6
  · first
      | exact hb6
      | exact hb6.drew
      | exact hb6.drew.drew
end
end Go.Proofs.YtknggcbhfkbelaaDoor
