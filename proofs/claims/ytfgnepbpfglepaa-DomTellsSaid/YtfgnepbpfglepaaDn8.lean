/- A row of three places that are none: a walk. -/
import Derived.Test.YtfgnepbpfglepaaDn7
import Derived.Deep.RegionWith
import Derived.Laws.CopyOwn
import Derived.Laws.OwnMore
namespace Go.Proofs.Ytfgnepbpfglepaa
open Go.RowKit
set_option linter.unusedVariables false
set_option linter.unusedSimpArgs false

theorem own_three {w : World} {B : Nat} {e : TypeId} {v : Value} (h : w.ownsRow B e 1 v 3 [.int .i64 0, .int .i64 0, .int .i64 0]) :
    ∃ q cap rest, v = .slice (some ⟨q, 0, none⟩) 3 cap ∧ B ≤ q ∧ Blk w q (.int .i64 0 :: .int .i64 0 :: .int .i64 0 :: rest) e := by
  obtain ⟨_, h | ⟨g, cap, cur, hv, hB, hg, _, _, _, ht⟩⟩ := h
  · cases h.2
  · refine ⟨g, cap, cur.toList.drop 3, hv, hB, ?_⟩
    have : cur.toList = .int .i64 0 :: .int .i64 0 :: .int .i64 0 :: cur.toList.drop 3 := by
      have := List.take_append_drop 3 cur.toList
      rw [show cur.toList.take 3 = [.int .i64 0, .int .i64 0, .int .i64 0] from ht] at this
      exact this.symm
    unfold Blk
    rw [hg, ← this]

theorem copy_one (w : World) (ty q o dLen dCap sLen sCap : Nat) (b k : Nat) (v u : Value) (hs : (Try.prog.info? 3).map (·.size) = some 1) (hl : 1 = sLen.min dLen) (hv : w.cell? ⟨b, k, none⟩ = some v) (hu : w.cell? ⟨q, o, none⟩ = some u) (hf : w.frozen? ⟨q, o, none⟩ = false) (h1 : v.oneCell' = true) :
    Sem.run Try.prog (Builtin.copy_ #[37, 37] ty #[.slice (some ⟨q, o, none⟩) dLen dCap, .slice (some ⟨b, k, none⟩) sLen sCap]) w = Result.ok (.int .i64 1) (w.setCell ⟨q, o, none⟩ v) := by
  have := run_copy_cells (P := Try.prog) w 37 37 ty 3 q o dLen dCap ⟨b, k, none⟩ sLen sCap [v] Try.underlying37 hs hl
    (fun j x hx => by cases j with
      | zero => cases hx; simpa [Addr.add] using hv
      | succ j => cases hx)
    (fun j hj => by have : j = 0 := (by simp at hj; omega); subst this; simp [hu])
    (fun j hj => by have : j = 0 := (by simp at hj; omega); subst this; simpa using hf)
    (fun x hx => by simp at hx; rw [hx]; exact h1)
  first
    | exact this
    | simpa [World.setCells, goInt] using this

set_option maxRecDepth 100000 in
set_option maxHeartbeats 4000000 in
theorem repeat_0 (g : Nat) (w : World) (h : Blk w g [.int .i64 (-1)] 3) :
    Calls Try.prog 36 #[.slice (some ⟨g, 0, none⟩) 1 1, .int .i64 3] w fun e w' => ∃ q cap rest, e = .returned (.slice (some ⟨q, 0, none⟩) 3 cap) ∧ w.heap.size ≤ q ∧ Blk w' q (.int .i64 (-1) :: .int .i64 (-1) :: .int .i64 (-1) :: rest) 3 ∧ Below w.heap.size w w' := by
  obtain ⟨i0, hi, hz⟩ := Option.map_eq_some_iff.1 TryinfoIntR
  simp only [Prod.mk.injEq] at hz
  obtain ⟨hz0, hz1, hz2⟩ := hz
  have fM := fun w => multiply_0 w
  have HB := Lib.hid h
  clear h
  go_enter Try.func36, Try.ntmps36
  have hi1 : (Try.prog.info? 3).map (·.size) = some 1 := by rw [hi]; exact congrArg some hz1
  go_wp2_with (go_at_call 66; (refine (fM _).mono ?_); rintro e w1 ⟨rfl, hb1⟩)
  obtain ⟨w2, hm, hown2, hgrow2⟩ := run_makeSlice_full (P := Try.prog) (w := w1) w.heap.size 37 3 i0 (.int .i64 0) 1 Try.underlying37 hi hz0 hz1 .i64 .i64 3 (by omega) (by rw [hz2]; omega) (by unfold maxLen; omega) hb1.size
  have hown3 : w2.ownsRow w.heap.size 3 1 (.slice (some ⟨w1.heap.size, 0, none⟩) 3 3) 3 [.int .i64 0, .int .i64 0, .int .i64 0] := by
    rw [show (madeCells (Value.int IntKind.i64 0).cells (3 * 1)).toList = [.int .i64 0, .int .i64 0, .int .i64 0] from by first | kernel_rfl | decide +kernel | simp [madeCells, Value.cells]] at hown2
    exact hown2
  have hb2 := hb1.grown hgrow2 hb1.size (fun k hk => by cases hk)
  obtain ⟨q, cap, rest, hqe, hq, hB2⟩ := own_three hown3
  injection hqe with hqe1 _ hqe3
  injection hqe1 with hqe1
  injection hqe1 with hqe1
  subst hqe3
  have hS := HB.out.later hb2 HB.out.lt
  refine Eq.mpr (congrArg (fun r => Oper.upon _ _ _ _ _ (Result.andThen r _)) hm) ?_
  simp only [Result.andThen]
  rw [Oper.upon_value]
  rw [hqe1]
  have hc := copy_one w2 3 q 0 3 3 1 1 g 0 (.int .i64 (-1)) (.int .i64 0) hi1 rfl (hS.cell 0 _ rfl) (hB2.cell 0 _ rfl) (hB2.frozen 0) rfl
  have B3 := hB2.setCell 0 (.int .i64 (-1))
  have hb3 := hb2.setCell (p := ⟨q, 0, none⟩) hq (.int .i64 (-1))
  go_wp2_with fail
  clear hc
  refine wp_loop_rounds 3 ?_
  rw [rounds_succ]
  obtain ⟨w3, hw3⟩ : ∃ w3, w2.setCell ⟨q, 0, none⟩ (.int .i64 (-1)) = w3 := ⟨_, rfl⟩
  rw [hw3] at B3 hb3 ⊢
  have hc := copy_one w3.drew 3 q 1 2 2 1 3 q 0 (.int .i64 (-1)) (.int .i64 0) hi1 rfl (B3.cell 0 _ rfl) (B3.cell 1 _ rfl) (B3.frozen 1) rfl
  have B4 := B3.setCell 1 (.int .i64 (-1))
  have hb4 := hb3.setCell (p := ⟨q, 1, none⟩) hq (.int .i64 (-1))
  go_wp2
  go_region
  go_wp2
  rw [rounds_succ]
  clear hc
  generalize hw4 : World.setCell _ ⟨q, 1, none⟩ (.int .i64 (-1)) = w4
  have B5 : Blk w4 q (.int .i64 (-1) :: .int .i64 (-1) :: .int .i64 0 :: rest) 3 := by
    rw [← hw4]
    exact B4
  have hb5 : Below w.heap.size w w4 := by
    rw [← hw4]
    first
      | exact hb4
      | exact hb4.drew
  have hc := copy_one w4.drew.drew 3 q 2 1 1 2 3 q 0 (.int .i64 (-1)) (.int .i64 0) hi1 rfl (B5.cell 0 _ rfl) (B5.cell 2 _ rfl) (B5.frozen 2) rfl
  have B6 := B5.setCell 2 (.int .i64 (-1))
  have hb6 := hb5.setCell (p := ⟨q, 2, none⟩) hq (.int .i64 (-1))
  go_wp2
  go_region
  go_wp2
  rw [rounds_succ]
  go_wp2
  go_ret
  refine ⟨q, 3, rest, rfl, hq, ?_, ?_⟩
  · exact B6
  · first
      | exact hb6
      | exact hb6.drew
      | exact hb6.drew.drew
end Go.Proofs.Ytfgnepbpfglepaa
