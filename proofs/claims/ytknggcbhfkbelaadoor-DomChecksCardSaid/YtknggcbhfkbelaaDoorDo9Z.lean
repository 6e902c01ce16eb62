/- The document's example: a walk. -/
import Derived.Test.YtknggcbhfkbelaaDoorDo8Z
import Derived.Test.YtknggcbhfkbelaaDoorFA
import Derived.Test.YtknggcbhfkbelaaDoorSame
namespace Go.Proofs.YtknggcbhfkbelaaDoor
open Go.RowKit
set_option linter.unusedVariables false
set_option linter.unusedSimpArgs false

theorem rightP0 : RightP doc0 := by
  refine ⟨fun k x hx => ?_, fun j k hj hk => ?_⟩
  · have hk : k < 3 := (List.getElem?_eq_some_iff.1 hx).1
    rcases (show k = 0 ∨ k = 1 ∨ k = 2 by omega) with rfl | rfl | rfl <;> cases hx
    · exact .inl rfl
    · exact .inr ⟨by decide, by decide⟩
    · exact .inr ⟨by decide, by decide⟩
  · have h0 : ∀ i, hit doc0 (-1) i = true → i = 0 := fun i hi => by
      obtain ⟨x, hx, _, hp⟩ := hit_elim hi
      have hk : i < 3 := (List.getElem?_eq_some_iff.1 hx).1
      rcases (show i = 0 ∨ i = 1 ∨ i = 2 by omega) with rfl | rfl | rfl
      · rfl
      · cases hx; cases hp
      · cases hx; cases hp
    rw [h0 j hj, h0 k hk]
theorem rowI0 : rowI doc0 2 = [1, 2] := by decide

set_option maxRecDepth 100000 in
set_option maxHeartbeats 4000000 in
theorem speaks11 (w : World) : Calls Tryd.prog 4 #[] w (Told (.bool true) w) := by
  have hB : Blk (w.alloc (.cells #[.int .i64 (-1), .int .i64 1, .string ⟨#[]⟩, .string ⟨#[97]⟩, .slice none 0 0, .slice none 0 0, .string ⟨#[]⟩, .int .i64 0, .int .i64 1, .string ⟨#[]⟩, .string ⟨#[98]⟩, .slice none 0 0, .slice none 0 0, .string ⟨#[]⟩, .int .i64 0, .int .i64 1, .string ⟨#[]⟩, .string ⟨#[99]⟩, .slice none 0 0, .slice none 0 0, .string ⟨#[]⟩] 38)) w.heap.size docCs 38 := Blk.alloc docCs _
  have hb := (Below.refl w.heap.size w).alloc (Nat.le_refl _) (.cells #[.int .i64 (-1), .int .i64 1, .string ⟨#[]⟩, .string ⟨#[97]⟩, .slice none 0 0, .slice none 0 0, .string ⟨#[]⟩, .int .i64 0, .int .i64 1, .string ⟨#[]⟩, .string ⟨#[98]⟩, .slice none 0 0, .slice none 0 0, .string ⟨#[]⟩, .int .i64 0, .int .i64 1, .string ⟨#[]⟩, .string ⟨#[99]⟩, .slice none 0 0, .slice none 0 0, .string ⟨#[]⟩] 38)
  have fN := new_any doc0 (some ⟨w.heap.size, 0, none⟩) 3 3 _ (doc0_rd hB 3 (Nat.le_refl _)) (by omega) (fun x hx => by
    have : x.attrs = [] ∧ x.states = [] := by
      rcases List.mem_cons.1 hx with rfl | hx
      · exact ⟨rfl, rfl⟩
      rcases List.mem_cons.1 hx with rfl | hx
      · exact ⟨rfl, rfl⟩
      rcases List.mem_cons.1 hx with rfl | hx
      · exact ⟨rfl, rfl⟩
      · cases hx
    rw [this.1, this.2]
    exact ⟨by simp, by simp⟩) (fun k x hx _ => by
      have hk : k < 3 := (List.getElem?_eq_some_iff.1 hx).1
      rcases rightP0.par k x hx with h | h
      · exact .inl h
      · exact .inr (by omega)) (check_0 w.heap.size _ hB)
  have HB := Lib.hid hb
  clear hB hb
  go_enter Tryd.func4, Tryd.ntmps4
  go_wp2_with fail
  refine fN.mono ?_
  rintro e1 w1 ⟨t, b, r, rfl, hT, hb1⟩
  have hb2 := HB.out.trans (hb1.mono HB.out.size)
  have fR := row_any hT rightP0 (by omega) 2
  have HB2 := Lib.hid hb2
  rw [rowI0] at fR
  clear fN hb1 hT hb2
  go_wp2_with (first
    | (go_at_call 12; (refine fR.mono ?_); rintro e w2 ⟨a, c, rfl, hrd, hb3⟩; have hb4 := HB2.out.trans (hb3.mono HB2.out.size); have hbx := hb4.alloc hb4.size (.cells #[.int .i64 1, .int .i64 2] 3); have hnw : Reads (w2.alloc (.cells #[.int .i64 1, .int .i64 2] 3)) .i64 (some ⟨w2.heap.size, 0, none⟩) 2 [1, 2] := ⟨by simp, by unfold maxLen; omega, .inr ⟨w2.heap.size, 0, rfl, by simp, fun j hj => by
        have hA := Blk.alloc (w := w2) [.int .i64 1, .int .i64 2] 3
        rcases (show j = 0 ∨ j = 1 by simp at hj; omega) with rfl | rfl
        · exact hA.cell 0 _ rfl
        · exact hA.cell 1 _ rfl⟩⟩; have hrd2 := hrd.later ((Below.refl w2.heap.size w2).alloc (Nat.le_refl _) (.cells #[.int .i64 1, .int .i64 2] 3)); have fS := same_any a (some ⟨w2.heap.size, 0, none⟩) c 2 [1, 2] [1, 2] _ hrd2 hnw)
    | (go_at_call 11; (refine fS.mono ?_); rintro e w3 ⟨rfl, hb5⟩))
  go_ret
  exact ⟨rfl, hbx.trans (hb5.mono hbx.size)⟩
end Go.Proofs.YtknggcbhfkbelaaDoor
