/- The row of the example's last element: a walk. -/
import Derived.Test.YtfgnepbpfglepaaDn5
import Derived.Test.YtfgnepbpfglepaaDm7
import Derived.Deep.RegionWith
namespace Go.Proofs.Ytfgnepbpfglepaa
open Go.RowKit
set_option linter.unusedVariables false
set_option linter.unusedSimpArgs false

theorem TryinfoIntR : (Try.prog.info? 3).map (fun i => (i.zero, i.size, i.bytes)) = some (some (.int .i64 0), 1, 8) := by kernel_rfl

/-- A row of two places of one's own, as a block. -/
theorem own_two {w : World} {B : Nat} {e : TypeId} {v : Value} (h : w.ownsRow B e 1 v 2 [.int .i64 2, .int .i64 1]) :
    ∃ q cap rest, v = .slice (some ⟨q, 0, none⟩) 2 cap ∧ B ≤ q ∧ Blk w q (.int .i64 2 :: .int .i64 1 :: rest) e := by
  obtain ⟨_, h | ⟨g, cap, cur, hv, hB, hg, _, _, _, ht⟩⟩ := h
  · cases h.2
  · refine ⟨g, cap, cur.toList.drop 2, hv, hB, ?_⟩
    have : cur.toList = .int .i64 2 :: .int .i64 1 :: cur.toList.drop 2 := by
      have := List.take_append_drop 2 cur.toList
      rw [show cur.toList.take 2 = [.int .i64 2, .int .i64 1] from ht] at this
      exact this.symm
    unfold Blk
    rw [hg, ← this]

theorem own_base {w : World} {base : Nat} {e : TypeId} {s : Nat} {v : Value} {n : Nat} {xs : List Value} (h : w.ownsRow base e s v n xs) (k : Nat) (hk : v.ownBlock = some k) : base ≤ k := by
  obtain ⟨_, h | ⟨g, cap, cur, hv, hB, _⟩⟩ := h
  · rw [h.1] at hk; cases hk
  · rw [hv] at hk; cases hk; exact hB

set_option maxRecDepth 100000 in
set_option maxHeartbeats 4000000 in
theorem row_0 (t b c r d : Nat) (w : World) (h : Tree0 w t b c r d) :
    Calls Try.prog 22 #[.pointer (some ⟨t, 0, none⟩), .int .i64 2] w fun e w' => ∃ q cap rest, e = .returned (.slice (some ⟨q, 0, none⟩) 2 cap) ∧ w.heap.size ≤ q ∧ Blk w' q (.int .i64 1 :: .int .i64 2 :: rest) 3 ∧ Below w.heap.size w w' := by
  obtain ⟨i0, hi, hz⟩ := Option.map_eq_some_iff.1 TryinfoIntR
  simp only [Prod.mk.injEq] at hz
  obtain ⟨hz0, hz1, hz2⟩ := hz
  have f0 := isElement_0 t b c r d 2 w h (by omega)
  have HT := Lib.hid h
  clear h
  go_enter Try.func22, Try.ntmps22
  go_wp2_with (go_at_call 43; (refine f0.mono ?_); rintro e w1 ⟨rfl, hb1⟩)
  refine wp_loop_rounds 3 ?_
  rw [rounds_succ]
  have hown := World.ownsRow_nil w1 w.heap.size 3 1
  go_wp2_with (at_builtin; refine wpList_append_own _ rfl _ _ 37 rfl w.heap.size 3 i0 (.int .i64 0) 1 8 Try.underlying37 hi hz0 hz1 hz2 rfl (by decide) _ _ _ rfl (hown.alloc _) ⟨w1.heap.size, 0, none⟩ 1 1 [.int .i64 2] rfl rfl (cell_one_new _ _ _) (fun x hx => by simp at hx; subst hx; rfl) (by unfold maxLen; omega) (by omega) (by have := hb1.size; simp; omega) ?_; intro v' w2 hown2 hgrow2 _)
  have hb2 := (hb1.alloc hb1.size (.cells #[.int .i64 2] 3)).grown hgrow2 (by have := hb1.size; simp; omega) (fun k hk => by cases hk)
  have hown3 : w2.ownsRow w.heap.size 3 1 v' 1 [.int .i64 2] := hown2
  have fA : Calls Try.prog 23 #[.pointer (some ⟨t, 0, none⟩), .int .i64 2] w2 (Told (.tuple #[.int .i64 1, .bool true]) w2) := ahead_0 t b c r d 2 w2 (HT.out.later hb2) (by omega)
  refine fA.mono ?_
  rintro e w3 ⟨rfl, hb3⟩
  have hb4 := hb2.trans (hb3.mono hb2.size)
  have hown4 := owns_later hown3 hb3
  go_wp2
  rw [rounds_succ]
  go_wp2_with (at_builtin; refine wpList_append_own _ rfl _ _ 37 rfl w.heap.size 3 i0 (.int .i64 0) 1 8 Try.underlying37 hi hz0 hz1 hz2 rfl (by decide) _ _ _ rfl (hown4.alloc _) ⟨w3.heap.size, 0, none⟩ 1 1 [.int .i64 1] rfl rfl (cell_one_new _ _ _) (fun x hx => by simp at hx; subst hx; rfl) (by unfold maxLen; omega) (by omega) (by have := hb4.size; simp; omega) ?_; intro v5 w5 hown5 hgrow5 _)
  have hb5 := (hb4.alloc hb4.size (.cells #[.int .i64 1] 3)).grown hgrow5 (by have := hb4.size; simp; omega) (fun k hk => own_base hown4 k hk)
  have hown6 : w5.ownsRow w.heap.size 3 1 v5 2 [.int .i64 2, .int .i64 1] := hown5
  obtain ⟨q, cap, rest, rfl, hq, hB⟩ := own_two hown6
  have fA2 : Calls Try.prog 23 #[.pointer (some ⟨t, 0, none⟩), .int .i64 1] w5 (Told (.tuple #[.int .i64 0, .bool false]) w5) := ahead_0 t b c r d 1 w5 (HT.out.later hb5) (by omega)
  refine fA2.mono ?_
  rintro e w6 ⟨rfl, hb6⟩
  have hb7 := hb5.trans (hb6.mono hb5.size)
  have hB6 := hB.later hb6 hB.lt
  go_wp2
  rw [rounds_succ]
  go_wp2_with fail
  refine (reverse_0 q cap rest w6 hB6).mono ?_
  rintro e w7 ⟨rfl, hB7, hg7⟩
  have hb8 := hb7.grown hg7 hb7.size (fun k hk => by cases hk; exact hq)
  go_wp2
  go_ret
  exact ⟨q, cap, rest, rfl, hq, hB7, hb8⟩
end Go.Proofs.Ytfgnepbpfglepaa
