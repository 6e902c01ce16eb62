/- The document of the example: it is right, by the program: walks. -/
import Derived.Test.YtfgnepbpfglepaaDn2
import Derived.Deep.RegionWith
namespace Go.Proofs.Ytfgnepbpfglepaa
open Go.RowKit
set_option linter.unusedVariables false
set_option linter.unusedSimpArgs false

def nd0 (p : Int) (c : UInt8) : Nd := ⟨p, 1, ⟨#[]⟩, ⟨#[c]⟩, [], [], ⟨#[]⟩⟩
def ndCs (p : Int) (c : UInt8) : List Value := [.int .i64 p, .int .i64 1, .string ⟨#[]⟩, .string ⟨#[c]⟩, .slice none 0 0, .slice none 0 0, .string ⟨#[]⟩]
/-- The example's document, and its cells. -/
def doc0 : List Nd := [nd0 (-1) 97, nd0 0 98, nd0 0 99]
def docCs : List Value := ndCs (-1) 97 ++ (ndCs 0 98 ++ ndCs 0 99)
theorem nd0_at {ok : Nat → Prop} {w : World} {b o : Nat} {p : Int} {c : UInt8} (h : ∀ f v, (ndCs p c)[f]? = some v → w.cell? ⟨b, o + f, none⟩ = some v) : NodeAt ok w b o (nd0 p c) :=
  ⟨h 0 _ rfl, h 1 _ rfl, h 2 _ rfl, h 3 _ rfl, ⟨none, 0, 0, h 4 _ rfl, RdOf.nil _ _ _ _ _ (by unfold maxLen; omega) (fun _ => rfl)⟩, ⟨none, 0, 0, h 5 _ rfl, RdOf.nil _ _ _ _ _ (by unfold maxLen; omega) (fun _ => rfl)⟩, h 6 _ rfl, Nat.zero_le _, by show 1 ≤ 140737488351232; omega, Nat.zero_le _⟩
theorem doc0_rd {w : World} {b : Nat} (hB : Blk w b docCs 44) (k : Nat) (hk : k ≤ 3) : RdN (· < w.heap.size) w (some ⟨b, 0, none⟩) k 3 (doc0.take k) := by
  refine ⟨by rw [List.length_take]; show k = min k 3; omega, hk, ⟨by unfold maxLen; omega, by omega, fun h => by cases h⟩, .inr ⟨b, 0, rfl, hB.lt, fun i x hx => ?_⟩⟩
  have hi : i < 3 := by
    have := (List.getElem?_eq_some_iff.1 hx).1
    rw [List.length_take] at this
    have h3 : doc0.length = 3 := rfl
    omega
  have hx2 : doc0[i]? = some x := by
    rw [List.getElem?_take] at hx
    split at hx
    · exact hx
    · exact absurd hx (by simp)
  rcases (show i = 0 ∨ i = 1 ∨ i = 2 by omega) with rfl | rfl | rfl
  · cases hx2
    exact nd0_at (fun f v hv => by
      have hf : f < 7 := (List.getElem?_eq_some_iff.1 hv).1
      refine hB.cell _ v ?_
      rcases (show f = 0 ∨ f = 1 ∨ f = 2 ∨ f = 3 ∨ f = 4 ∨ f = 5 ∨ f = 6 by omega) with rfl | rfl | rfl | rfl | rfl | rfl | rfl <;> exact hv)
  · cases hx2
    exact nd0_at (fun f v hv => by
      have hf : f < 7 := (List.getElem?_eq_some_iff.1 hv).1
      refine hB.cell _ v ?_
      rcases (show f = 0 ∨ f = 1 ∨ f = 2 ∨ f = 3 ∨ f = 4 ∨ f = 5 ∨ f = 6 by omega) with rfl | rfl | rfl | rfl | rfl | rfl | rfl <;> exact hv)
  · cases hx2
    exact nd0_at (fun f v hv => by
      have hf : f < 7 := (List.getElem?_eq_some_iff.1 hv).1
      refine hB.cell _ v ?_
      rcases (show f = 0 ∨ f = 1 ∨ f = 2 ∨ f = 3 ∨ f = 4 ∨ f = 5 ∨ f = 6 by omega) with rfl | rfl | rfl | rfl | rfl | rfl | rfl <;> exact hv)
theorem right_e : rightS ⟨#[]⟩ = true := by decide +kernel
theorem right_a : nameS ⟨#[97]⟩ = true ∧ nameS ⟨#[98]⟩ = true ∧ nameS ⟨#[99]⟩ = true := by decide +kernel

set_option maxRecDepth 100000 in
set_option maxHeartbeats 4000000 in
theorem check_0 (b : Nat) (w : World) (hB : Blk w b docCs 44) : Calls Try.prog 33 #[.slice (some ⟨b, 0, none⟩) 3 3] w (Told .nilIface w) := by
  have HB := Lib.hid hB
  have c := fun i v (h : docCs[i]? = some v) w' (hb : Below w.heap.size w w') => (hb.cell (p := ⟨b, i, none⟩) hB.lt).trans (hB.cell i v h)
  have HC := Lib.hid c
  have f0 := fun w' (hb : Below w.heap.size w w') => rightNode_0 (-1) ⟨#[97]⟩ (doc0.take 0) (some ⟨b, 0, none⟩) 0 3 w' (doc0_rd (hB.later hb hB.lt) 0 (by omega)) (by decide) right_a.1 (by decide) right_e
  have f1 := fun w' (hb : Below w.heap.size w w') => rightNode_0 0 ⟨#[98]⟩ (doc0.take 1) (some ⟨b, 0, none⟩) 1 3 w' (doc0_rd (hB.later hb hB.lt) 1 (by omega)) (by decide) right_a.2.1 (by decide) right_e
  have f2 := fun w' (hb : Below w.heap.size w w') => rightNode_0 0 ⟨#[99]⟩ (doc0.take 2) (some ⟨b, 0, none⟩) 2 3 w' (doc0_rd (hB.later hb hB.lt) 2 (by omega)) (by decide) right_a.2.2 (by decide) right_e
  have F0 := Lib.hid f0
  have F1 := Lib.hid f1
  have F2 := Lib.hid f2
  clear hB c f0 f1 f2
  go_enter Try.func33, Try.ntmps33
  go_wp2_with fail
  refine wp_loop_rounds 4 ?_
  rw [rounds_succ]
  have x0 := HC.out 0 _ rfl w (Below.refl _ _)
  have x1 := HC.out 1 _ rfl w (Below.refl _ _)
  have x2 := HC.out 2 _ rfl w (Below.refl _ _)
  have x3 := HC.out 3 _ rfl w (Below.refl _ _)
  have x4 := HC.out 4 _ rfl w (Below.refl _ _)
  have x5 := HC.out 5 _ rfl w (Below.refl _ _)
  have x6 := HC.out 6 _ rfl w (Below.refl _ _)
  go_wp2
  have X0 := fun o => ((Below.refl w.heap.size w).alloc (Nat.le_refl _) o).drew
  have v0 := fun o => F0.out _ (X0 o)
  have A0 := Lib.hid (show Blk (w.alloc (.cells (ndCs (-1) 97).toArray 44)) w.heap.size (ndCs (-1) 97) 44 from Blk.alloc _ _)
  go_region_with (go_at_call 60; ((refine (v0 _).mono ?_); rintro e w1 ⟨rfl, hb1⟩; have H1 := (X0 _).trans (hb1.mono (X0 _).size); have B0 := A0.out.later (((Below.refl _ _).drew).trans hb1) A0.out.lt; have k1 := B0.cell 1 _ rfl; have k0 := B0.cell 0 _ rfl; clear B0))
  go_wp2
  rw [rounds_succ]
  clear x0 x1 x2 x3 x4 x5 x6 k0 k1
  have x7 := HC.out 7 _ rfl w1 H1
  have x8 := HC.out 8 _ rfl w1 H1
  have x9 := HC.out 9 _ rfl w1 H1
  have x10 := HC.out 10 _ rfl w1 H1
  have x11 := HC.out 11 _ rfl w1 H1
  have x12 := HC.out 12 _ rfl w1 H1
  have x13 := HC.out 13 _ rfl w1 H1
  go_wp2
  have X1 := fun o => (H1.alloc H1.size o).drew
  have v1 := fun o => F1.out _ (X1 o)
  have A1 := Lib.hid (show Blk (w1.alloc (.cells (ndCs (0) 98).toArray 44)) w1.heap.size (ndCs (0) 98) 44 from Blk.alloc _ _)
  go_region_with (go_at_call 60; ((refine (v1 _).mono ?_); rintro e w2 ⟨rfl, hb2⟩; have H2 := (X1 _).trans (hb2.mono (X1 _).size); have B1 := A1.out.later (((Below.refl _ _).drew).trans hb2) A1.out.lt; have k1 := B1.cell 1 _ rfl; have k0 := B1.cell 0 _ rfl; clear B1))
  go_wp2
  rw [rounds_succ]
  clear x7 x8 x9 x10 x11 x12 x13 k0 k1
  have x14 := HC.out 14 _ rfl w2 H2
  have x15 := HC.out 15 _ rfl w2 H2
  have x16 := HC.out 16 _ rfl w2 H2
  have x17 := HC.out 17 _ rfl w2 H2
  have x18 := HC.out 18 _ rfl w2 H2
  have x19 := HC.out 19 _ rfl w2 H2
  have x20 := HC.out 20 _ rfl w2 H2
  go_wp2
  have X2 := fun o => (H2.alloc H2.size o).drew
  have v2 := fun o => F2.out _ (X2 o)
  have A2 := Lib.hid (show Blk (w2.alloc (.cells (ndCs (0) 99).toArray 44)) w2.heap.size (ndCs (0) 99) 44 from Blk.alloc _ _)
  go_region_with (go_at_call 60; ((refine (v2 _).mono ?_); rintro e w3 ⟨rfl, hb3⟩; have H3 := (X2 _).trans (hb3.mono (X2 _).size); have B2 := A2.out.later (((Below.refl _ _).drew).trans hb3) A2.out.lt; have k1 := B2.cell 1 _ rfl; have k0 := B2.cell 0 _ rfl; clear B2))
  go_wp2
  rw [rounds_succ]
  go_wp2
  go_ret
  exact ⟨rfl, H3⟩
end Go.Proofs.Ytfgnepbpfglepaa
