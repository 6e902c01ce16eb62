/- The specificity of a selector, and the greatest one of a list: walks. -/
import Derived.Test.YtfgnepbpfglepaaSl4
namespace Go.Proofs.Ytfgnepbpfglepaa
open Go.RowKit Go.Shelf

attribute [local go_sem] Oper.semAt_some

theorem blk_own {β : Type} (p : Nat) (f : β → List Value) (T : TypeId) : Own (fun s W => Blk W p (f s) T) := fun s A B row hs hg hr =>
  (hg.block p hs.lt (fun e => by obtain ⟨o, ho, hc⟩ := hr p e.symm; rw [show A.heap[p]? = _ from hs] at ho; cases ho; cases hc)).trans hs
theorem keeps_own {β : Type} (B : Nat) (ok : Nat → Prop) (W0 : World) (h : ∀ b, ok b → b < B) (hB : B ≤ W0.heap.size) : OwnFrom B (fun (_ : β) W => Keeps ok W0 W) := fun _ A C row hs hg hr =>
  ⟨Nat.le_trans hs.1 hg.size, fun b hb => (hg.block b (Nat.lt_of_lt_of_le (h b hb) (Nat.le_trans hB hs.1)) (fun e => by have := (hr b e.symm).1; have := h b hb; omega)).trans (hs.2 b hb)⟩
theorem simplesL_one {L : Type} (x : List (Int × List (Flat × L))) : simplesL [x] = simplesX x := by unfold simplesL; simp

def accX {d : Nat} (pre : List (Flat × Lx d)) : Sp := pre.foldl (fun t s => plusF t (specS (greatestF d) s)) (0, 0, 0)
theorem accX_snoc {d : Nat} (pre : List (Flat × Lx d)) (s : Flat × Lx d) : accX (pre ++ [s]) = plusF (accX pre) (specS (greatestF d) s) := by unfold accX; rw [List.foldl_append]; rfl
def spL (s : Sp) : List Value := [.int .i64 s.1, .int .i64 s.2.1, .int .i64 s.2.2]

theorem cells3s {w : World} {p : Nat} {x y z : Value} {T : TypeId} (h : Blk w p [x, y, z] T) : w.cell? ⟨p, 0, none⟩ = some x ∧ w.cell? ⟨p, 1, none⟩ = some y ∧ w.cell? ⟨p, 2, none⟩ = some z :=
  ⟨h.cell 0 _ rfl, h.cell 1 _ rfl, h.cell 2 _ rfl⟩
theorem cells11 {w : World} {p : Nat} {x0 x1 x2 x3 x4 x5 x6 x7 x8 x9 x10 : Value} {T : TypeId} (h : Blk w p [x0, x1, x2, x3, x4, x5, x6, x7, x8, x9, x10] T) :
    w.cell? ⟨p, 0, none⟩ = some x0 ∧ w.cell? ⟨p, 1, none⟩ = some x1 ∧ w.cell? ⟨p, 2, none⟩ = some x2 ∧ w.cell? ⟨p, 3, none⟩ = some x3 ∧ w.cell? ⟨p, 4, none⟩ = some x4 ∧ w.cell? ⟨p, 5, none⟩ = some x5 ∧ w.cell? ⟨p, 6, none⟩ = some x6 ∧
    w.cell? ⟨p, 7, none⟩ = some x7 ∧ w.cell? ⟨p, 8, none⟩ = some x8 ∧ w.cell? ⟨p, 9, none⟩ = some x9 ∧ w.cell? ⟨p, 10, none⟩ = some x10 :=
  ⟨h.cell 0 _ rfl, h.cell 1 _ rfl, h.cell 2 _ rfl, h.cell 3 _ rfl, h.cell 4 _ rfl, h.cell 5 _ rfl, h.cell 6 _ rfl, h.cell 7 _ rfl, h.cell 8 _ rfl, h.cell 9 _ rfl, h.cell 10 _ rfl⟩

set_option maxRecDepth 100000 in
set_option maxHeartbeats 4000000 in
theorem spec_step (d : Nat) (x : List (Int × List (Flat × Lx d))) (IH : ∀ s ∈ simplesX x, GreatV d s) (a : Option Addr) (n c : Nat) (w : World) (hx : RdX (· < w.heap.size) (RdL (· < w.heap.size) d w) w a n c x) :
    Calls Try.prog 50 #[.agg #[.slice a n c]] w (Told (spV (specX (greatestF d) x)) w) := by
  have hro : Fence.wide.round = none := rfl
  have HIH := Lib.hid IH
  clear IH
  refine (callsIn_wide (n := 3)).1 ?_
  refine callsIn_of_wp_marks Try.func50 rfl trivial ?_ hro
  simp only [Try.ntmps50, List.size_toArray, List.length_cons, List.length_nil, Nat.reduceAdd, Nat.reduceSub, Array.replicate_succ, Array.replicate_zero, List.push_toArray, List.append_toArray, List.nil_append, List.cons_append]
  gi_wp2
  refine ⟨trivial, ?_⟩
  refine (simples_in _ _ _ _ _).mono ?_
  rintro e w' ⟨rfl, rfl⟩
  have e1 : (w.alloc (.cells #[.slice a n c] 79)).heap.size = w.heap.size + 1 := by simp
  have e2 : ((w.alloc (.cells #[.slice a n c] 79)).alloc (.cells #[.int .i64 0, .int .i64 0, .int .i64 0] 88)).heap.size = w.heap.size + 1 + 1 := by simp
  have e3 : (((w.alloc (.cells #[.slice a n c] 79)).alloc (.cells #[.int .i64 0, .int .i64 0, .int .i64 0] 88)).alloc (.cells #[.int .i64 0, .int .i64 0, .int .i64 0] 88)).heap.size = w.heap.size + 1 + 1 + 1 := by simp
  have e4 : ((((w.alloc (.cells #[.slice a n c] 79)).alloc (.cells #[.int .i64 0, .int .i64 0, .int .i64 0] 88)).alloc (.cells #[.int .i64 0, .int .i64 0, .int .i64 0] 88)).alloc (.cells #[.slice a n c] 79)).heap.size = w.heap.size + 1 + 1 + 1 + 1 := by simp
  have b1 := (((Blk.alloc (w := (w.alloc (.cells #[.slice a n c] 79))) [.int .i64 0, .int .i64 0, .int .i64 0] 88).alloc_old (.cells #[.int .i64 0, .int .i64 0, .int .i64 0] 88)).alloc_old (.cells #[.slice a n c] 79)).alloc_old (.cells #[.slice (some ⟨w.heap.size + 1 + 1 + 1, 0, none⟩) 1 1] 50)
  have b2 := ((Blk.alloc (w := ((w.alloc (.cells #[.slice a n c] 79)).alloc (.cells #[.int .i64 0, .int .i64 0, .int .i64 0] 88))) [.int .i64 0, .int .i64 0, .int .i64 0] 88).alloc_old (.cells #[.slice a n c] 79)).alloc_old (.cells #[.slice (some ⟨w.heap.size + 1 + 1 + 1, 0, none⟩) 1 1] 50)
  have b3 := (Blk.alloc (w := (((w.alloc (.cells #[.slice a n c] 79)).alloc (.cells #[.int .i64 0, .int .i64 0, .int .i64 0] 88)).alloc (.cells #[.int .i64 0, .int .i64 0, .int .i64 0] 88))) [.slice a n c] 79).alloc_old (.cells #[.slice (some ⟨w.heap.size + 1 + 1 + 1, 0, none⟩) 1 1] 50)
  have b4 := Blk.alloc (w := ((((w.alloc (.cells #[.slice a n c] 79)).alloc (.cells #[.int .i64 0, .int .i64 0, .int .i64 0] 88)).alloc (.cells #[.int .i64 0, .int .i64 0, .int .i64 0] 88)).alloc (.cells #[.slice a n c] 79))) [.slice (some ⟨w.heap.size + 1 + 1 + 1, 0, none⟩) 1 1] 50
  rw [e1] at b1
  rw [e2] at b2
  rw [e3] at b3
  rw [e4] at b4
  have hB0 : Below w.heap.size w (((((w.alloc (.cells #[.slice a n c] 79)).alloc (.cells #[.int .i64 0, .int .i64 0, .int .i64 0] 88)).alloc (.cells #[.int .i64 0, .int .i64 0, .int .i64 0] 88)).alloc (.cells #[.slice a n c] 79)).alloc (.cells #[.slice (some ⟨w.heap.size + 1 + 1 + 1, 0, none⟩) 1 1] 50)) := (((((Below.refl _ w).alloc (Nat.le_refl _) _).alloc (by simp) _).alloc (by simp; omega) _).alloc (by simp; omega) _).alloc (by simp; omega) _
  have hz0 : (((((w.alloc (.cells #[.slice a n c] 79)).alloc (.cells #[.int .i64 0, .int .i64 0, .int .i64 0] 88)).alloc (.cells #[.int .i64 0, .int .i64 0, .int .i64 0] 88)).alloc (.cells #[.slice a n c] 79)).alloc (.cells #[.slice (some ⟨w.heap.size + 1 + 1 + 1, 0, none⟩) 1 1] 50)).heap.size = w.heap.size + 5 := by simp
  clear e1 e2 e3 e4
  gi_wp2
  generalize hW0 : (((((w.alloc (.cells #[.slice a n c] 79)).alloc (.cells #[.int .i64 0, .int .i64 0, .int .i64 0] 88)).alloc (.cells #[.int .i64 0, .int .i64 0, .int .i64 0] 88)).alloc (.cells #[.slice a n c] 79)).alloc (.cells #[.slice (some ⟨w.heap.size + 1 + 1 + 1, 0, none⟩) 1 1] 50)) = W0 at *
  have hx0 : RdL (fun b => b < w.heap.size ∨ b = w.heap.size + 1 + 1 + 1) (d + 1) W0 (some ⟨w.heap.size + 1 + 1 + 1, 0, none⟩) 1 1 [x] :=
    ⟨rfl, Nat.le_refl _, by unfold maxLen; omega, .inr ⟨_, _, rfl, .inr rfl, fun i y hy => by
      rcases i with _ | i
      · obtain rfl : x = y := by simpa using hy
        exact ⟨a, n, c, b3.cell 0 _ rfl, RdX.move hx (fun b hb => ⟨.inl hb, hB0.block b hb⟩) (fun _ _ _ _ h => RdL.move (fun b hb => ⟨.inl hb, hB0.block b hb⟩) h)⟩
      · simp at hy⟩⟩
  have hseq := simples_stops (3 - 1) (w.heap.size + 1 + 1 + 1 + 1) (fun b => b < w.heap.size ∨ b = w.heap.size + 1 + 1 + 1) d (GreatV d) (by omega) _ 1 1 [x] W0 (b4.cell 0 _ rfl) hx0 (by rw [simplesL_one]; exact HIH.out) (fun b hb => by omega)
  clear hx hx0 b3 b4
  refine wpIn_rangeFunc_ownH hro (by omega) (gf := 90) (lb := #[.pointer (some ⟨w.heap.size + 1 + 1 + 1 + 1, 0, none⟩)]) rfl trivial (enters_of Try.func90 (by kernel_rfl) rfl)
    hseq (fun h k => Keeps.trans h k) (fun W l o o' hl _ _ _ => ⟨by simp, fun b hb => World.putObj_heap_other (by omega)⟩) (Below.refl _ _) (fun _ => rfl)
    (fun pre W => Blk W (w.heap.size + 1 + 1) (spL (accX (pre.map Hx.s))) 88 ∧ (Blk W (w.heap.size + 1) [.int .i64 0, .int .i64 0, .int .i64 0] 88 ∧ (Keeps (fun b => b < w.heap.size ∨ b = w.heap.size + 1 + 1 + 1) W0 W ∧ Below w.heap.size w W)))
    (fun _ _ _ => False)
    (OwnFrom.and (Own.from (blk_own _ _ _) _) (OwnFrom.and (Own.from (blk_own _ (fun _ => _) _) _) (OwnFrom.and (keeps_own _ _ _ (fun b hb => by omega) (Nat.le_refl _)) (ownFrom_below (Nat.le_refl _) (by omega)))))
    (fun _ _ _ _ _ hs _ _ => hs)
    ⟨b2, b1, Keeps.refl _ _, hB0⟩
    (fun y a' W => ∃ p, w.heap.size + 5 ≤ p ∧ W.heap[p]? = some (.cells (scells y.1.1 y.1.2.2.1 y.1.2.2.2.1 y.1.2.2.2.2) 86 (0, 0)) ∧
      a' = { tmps := #[.agg #[.slice a n c], .pointer (some ⟨w.heap.size, 0, none⟩), .pointer (some ⟨w.heap.size + 1, 0, none⟩), .pointer (some ⟨w.heap.size + 1 + 1, 0, none⟩), .pointer (some ⟨p, 0, none⟩), .agg #[.slice a n c], .slice (some ⟨w.heap.size + 1 + 1 + 1, 0, none⟩) 1 1, .func (.func 90) #[] #[.pointer (some ⟨w.heap.size + 1 + 1 + 1 + 1, 0, none⟩)], y.v, undef, undef, undef, undef, undef], defers := [] })
    (fun y a' s A B row ⟨p, h1, h2, h3⟩ hg hr => ⟨p, h1, (hg.block p (Array.getElem?_eq_some_iff.1 h2).1 (fun e => by obtain ⟨o, ho, hc⟩ := (hr p e.symm).2; rw [h2] at ho; cases ho; cases hc)).trans h2, h3⟩)
    ?assign ?body ?done ?stop
  case assign =>
    intro l pre y W K hI hK
    obtain ⟨⟨f, lx, a1, n1, c1⟩, hy⟩ := y
    simp only [Hx.v, sval]
    have hsz := hI.2.2.1.1
    gi_wp2
    refine hK _ _ (KeepsFrom.of_grownBy (World.grownBy_alloc W _ none) (fun j e => by cases e)) ⟨by simp, fun b hb => Below.heap_alloc _ _ _ (by omega)⟩ ⟨hI.1.alloc_old _, hI.2.1.alloc_old _, ⟨Nat.le_trans hsz (by simp), fun b hb => (Below.heap_alloc _ _ _ (by omega)).trans (hI.2.2.1.2 b hb)⟩, hI.2.2.2.alloc hI.2.2.2.size _⟩ ⟨W.heap.size, by omega, World.alloc_heap_new _ _, rfl⟩
  case body =>
    rintro l pre y a' W hl hlr ⟨hbx, hbr, hkp, hB⟩ ⟨p, hp1, hp2, rfl⟩ hlen
    obtain ⟨⟨f, lx, a1, n1, c1⟩, hy1, hy2⟩ := y
    have hx1 : RdL (· < W.drew.heap.size) d W.drew a1 n1 c1 lx := RdL.move (w' := W.drew) (fun b hb => ⟨Nat.lt_of_lt_of_le (show b < W0.heap.size from by omega) hkp.1, hkp.2 b hb⟩) hy1
    have hbp : Blk W p [.int .i64 f.kind, .int .i64 f.ns, .string f.pre, .string f.name, .int .i64 f.op, .string f.text, .bool f.fold, .int .i64 f.mark, .int .i64 f.a, .int .i64 f.b, .slice a1 n1 c1] 86 := hp2
    have cS := specOf_any d f lx a1 n1 c1 _ hx1 hy2
    have cP := fun w => plus_any (accX (pre.map Hx.s)) (specS (greatestF d) (f, lx)) w
    have hacc : accX (pre.map Hx.s ++ [(f, lx)]) = plusF (accX (pre.map Hx.s)) (specS (greatestF d) (f, lx)) := accX_snoc _ _
    have HACC := Lib.hid hacc
    clear hacc hx1
    generalize accX (pre.map Hx.s) = t at *
    generalize specS (greatestF d) (f, lx) = g at *
    generalize plusF t g = r at *
    obtain ⟨t1, t2, t3⟩ := t
    obtain ⟨g1, g2, g3⟩ := g
    obtain ⟨r1, r2, r3⟩ := r
    unfold spV at cS cP
    unfold sval at cS
    dsimp only at cS cP
    have hbt : Blk W (w.heap.size + 1 + 1) [.int .i64 t1, .int .i64 t2, .int .i64 t3] 88 := hbx
    obtain ⟨c1', c2', c3'⟩ := cells3s hbt
    obtain ⟨d0, d1, d2, d3, d4, d5, d6, d7, d8, d9, d10⟩ := cells11 hbp
    have HB := Lib.hid hB
    have HBT := Lib.hid (show Blk W.drew _ _ _ from hbt)
    have HBR := Lib.hid hbr
    have HBP := Lib.hid (show Blk W.drew _ _ _ from hbp)
    have HKP := Lib.hid hkp
    have hmx : Try.prog.follows .mixedOrders = true := by kernel_rfl
    simp only [Hx.v, sval]
    clear hseq hB0 b1 b2 hbx hbt hbr hbp hkp hB hp2
    gi_wp2
    gi_region_with_o (first
      | (refine ⟨trivial, ?_⟩; gi_at_call 74; refine (CallsIn.inRound l (callsIn_wide.2 cS)).mono ?_; rintro e w5 ⟨rfl, hb5⟩; have HBT5 := Lib.hid (HBT.out.later hb5 HBT.out.lt); obtain ⟨c1', c2', c3'⟩ := cells3s HBT5.out; have HBP5 := Lib.hid (HBP.out.later hb5 HBP.out.lt); obtain ⟨d0, d1, d2, d3, d4, d5, d6, d7, d8, d9, d10⟩ := cells11 HBP5.out)
      | (refine ⟨trivial, ?_⟩; gi_at_call 73; refine (CallsIn.inRound l (callsIn_wide.2 (cP _))).mono ?_; rintro e w6 ⟨rfl, hb6⟩; have HBT6 := Lib.hid (HBT5.out.later hb6 HBT5.out.lt); have k1 := HBT6.out.frozen 0; have k2 := HBT6.out.frozen 1; have k3 := HBT6.out.frozen 2; obtain ⟨c1', c2', c3'⟩ := cells3s HBT6.out))
    all_goals
      have hszW : w.heap.size + 5 ≤ W.heap.size := by have := HKP.out.1; omega
      have hg : W.grownBy (((w6.setCell ⟨w.heap.size + 1 + 1, 0, none⟩ (.int .i64 r1)).setCell ⟨w.heap.size + 1 + 1, 1, none⟩ (.int .i64 r2)).setCell ⟨w.heap.size + 1 + 1, 2, none⟩ (.int .i64 r3)) (some (w.heap.size + 1 + 1)) :=
        grown_trans (grown_trans (grown_trans (grown_trans (row := some (w.heap.size + 1 + 1)) ⟨hb5.os, hb5.tape, hb5.output, hb5.size, fun k hk _ => hb5.block k hk⟩ ⟨hb6.os, hb6.tape, hb6.output, hb6.size, fun k hk _ => hb6.block k hk⟩) (grown_setCell _ _ _ _)) (grown_setCell _ _ _ _)) (grown_setCell _ _ _ _)
      have HG := Lib.hid hg
      have HB3 := Lib.hid (show Blk (((w6.setCell ⟨w.heap.size + 1 + 1, 0, none⟩ (.int .i64 r1)).setCell ⟨w.heap.size + 1 + 1, 1, none⟩ (.int .i64 r2)).setCell ⟨w.heap.size + 1 + 1, 2, none⟩ (.int .i64 r3)) (w.heap.size + 1 + 1) [.int .i64 r1, .int .i64 r2, .int .i64 r3] 88 from ((HBT6.out.setCell 0 _).setCell 1 _).setCell 2 _)
      clear hg
      gi_wp2
      refine ⟨KeepsFrom.of_grownBy HG.out (fun j e => by cases e; omega), ⟨HG.out.size, fun b hb => HG.out.block b (by omega) (fun e => by cases e; omega)⟩, ?_, HBR.out.kept HG.out (by simp), HKP.out.trans ⟨HG.out.size, fun b hb => HG.out.block b (by omega) (fun e => by cases e; omega)⟩, HB.out.grown HG.out HB.out.size (fun k e => by cases e; omega)⟩
      have hm : ∀ z : Hx (fun b => b < w.heap.size ∨ b = w.heap.size + 1 + 1 + 1) d (GreatV d) W0, Hx.s z = (f, lx) → (pre ++ [z]).map Hx.s = pre.map Hx.s ++ [(f, lx)] := fun z hz => by rw [List.map_append, List.map_cons, List.map_nil, hz]
      rw [hm _ rfl, HACC.out]
      exact HB3.out
  case done =>
    rintro D ys W hD hys ⟨hbx, hbr, hkp, hB⟩ hK
    have hsp : specX (greatestF d) x = accX (ys.map Hx.s) := by rw [hys, simplesL_one]; rfl
    clear hseq hys
    generalize accX (ys.map Hx.s) = r at *
    obtain ⟨r1, r2, r3⟩ := r
    have HSP := Lib.hid hsp
    clear hsp
    have hbt : Blk W (w.heap.size + 1 + 1) [.int .i64 r1, .int .i64 r2, .int .i64 r3] 88 := hbx
    obtain ⟨c1', c2', c3'⟩ := cells3s hbt
    have k1 := hbr.frozen 0
    have k2 := hbr.frozen 1
    have k3 := hbr.frozen 2
    obtain ⟨d1, d2, d3⟩ := cells3s hbr
    have HB := Lib.hid hB
    have HBR := Lib.hid hbr
    have hltR := hbr.lt
    clear hbx hbt hbr hkp hB hB0 b1 b2
    gi_wp2
    have hK' : (((W.setCell ⟨w.heap.size + 1, 0, none⟩ (.int .i64 r1)).setCell ⟨w.heap.size + 1, 1, none⟩ (.int .i64 r2)).setCell ⟨w.heap.size + 1, 2, none⟩ (.int .i64 r3)).heap[D]? = some (.deferred (some [])) :=
      (KeepsOthers.setCell _ ⟨w.heap.size + 1, 2, none⟩ _).same D _ ((KeepsOthers.setCell _ ⟨w.heap.size + 1, 1, none⟩ _).same D _ ((KeepsOthers.setCell W ⟨w.heap.size + 1, 0, none⟩ _).same D _ hK rfl) rfl) rfl
    have B3 : Blk (((W.setCell ⟨w.heap.size + 1, 0, none⟩ (.int .i64 r1)).setCell ⟨w.heap.size + 1, 1, none⟩ (.int .i64 r2)).setCell ⟨w.heap.size + 1, 2, none⟩ (.int .i64 r3)) (w.heap.size + 1) [.int .i64 r1, .int .i64 r2, .int .i64 r3] 88 := ((HBR.out.setCell 0 _).setCell 1 _).setCell 2 _
    have B4 : Blk ((((W.setCell ⟨w.heap.size + 1, 0, none⟩ (.int .i64 r1)).setCell ⟨w.heap.size + 1, 1, none⟩ (.int .i64 r2)).setCell ⟨w.heap.size + 1, 2, none⟩ (.int .i64 r3)).putObj D (.deferred none)) (w.heap.size + 1) [.int .i64 r1, .int .i64 r2, .int .i64 r3] 88 := (World.putObj_heap_other (by omega)).trans B3
    obtain ⟨x1, x2, x3⟩ := cells3s B4
    refine ⟨by simp, .inl ⟨_, _, rfl, run_takeDeferred hK', ?_⟩⟩
    refine ⟨.agg #[.int .i64 r1, .int .i64 r2, .int .i64 r3], ?_, by rw [HSP.out]; rfl, (((HB.out.setCell (p := ⟨w.heap.size + 1, 0, none⟩) (by simp) _).setCell (p := ⟨w.heap.size + 1, 1, none⟩) (by simp) _).setCell (p := ⟨w.heap.size + 1, 2, none⟩) (by simp) _).trans (belowK_b (w := w) (Nat.le_refl _) _ D _ _ (by omega) hK' rfl rfl)⟩
    simp [results, Try.f50, go_sem, x1, x2, x3]
  case stop =>
    rintro D c pre W _ _ h _
    exact h.elim

set_option maxRecDepth 100000 in
set_option maxHeartbeats 4000000 in
theorem greatest_step (d : Nat) (x : List (List (Int × List (Flat × Lx d)))) (IH : ∀ s ∈ simplesL x, GreatV d s) (a : Option Addr) (n c : Nat) (w : World) (hx : RdL (· < w.heap.size) (d + 1) w a n c x) :
    Calls Try.prog 91 #[.slice a n c] w (Told (spV (greatestF (d + 1) x)) w) := by
  have hm : n ≤ 9223372036854775807 := (RdL.len hx).2
  have hn : n = x.length := hx.1
  have HN := Lib.hid hn
  have HX := Lib.hid hx
  have HIH := Lib.hid IH
  clear hx IH hn
  have HR := Lib.hid (Blk.alloc (w := w) [.int .i64 0, .int .i64 0, .int .i64 0] 88)
  have B0 : Below w.heap.size w (w.alloc (.cells #[.int .i64 0, .int .i64 0, .int .i64 0] 88)) := (Below.refl _ w).alloc (Nat.le_refl _) _
  go_enter Try.func91, Try.ntmps91
  go_wp2
  go_loopw [8] (fun i wr => ∃ (k : Nat) (s : Sp), k ≤ n ∧ i = .int .i64 k ∧ Hid (s = (x.take k).foldl (fun t c => bestS t (specX (greatestF d) c)) (0, 0, 0)) ∧ Hid (Blk wr w.heap.size (spL s) 88) ∧ Below w.heap.size w wr) (fun i _ => n - (intOf i).toNat)
  case atStart => exact ⟨0, (0, 0, 0), Nat.zero_le _, rfl, Lib.hid rfl, HR, B0⟩
  case round =>
    obtain ⟨k, s, hk, rfl, hs, hbl, hB⟩ := hrel
    by_cases hlt : k < n
    · obtain ⟨cx, hcx⟩ : ∃ cx, x[k]? = some cx := ⟨_, List.getElem?_eq_getElem (by rw [← HN.out]; exact hlt)⟩
      obtain ⟨b, off, rfl, hb, a1, n1, c1, hc1, hX1⟩ := HX.out.at k cx hcx
      rw [Nat.mul_one, ← hB.cell (p := ⟨b, off + k, none⟩) hb] at hc1
      have hkI : (0 : Int) ≤ (k : Int) := by omega
      have hkI2 : (k : Int) < (n : Int) := by omega
      have HB1 := Lib.hid (show Below w.heap.size w (wr.alloc (.cells #[.slice a1 n1 c1] 79)) from hB.alloc hB.size _)
      have hmem : ∀ s ∈ simplesX cx, GreatV d s := fun s hs => HIH.out s (by unfold simplesL; rw [List.mem_flatMap]; exact ⟨cx, List.mem_of_getElem? hcx, hs⟩)
      have cS := spec_step d cx hmem a1 n1 c1 (wr.alloc (.cells #[.slice a1 n1 c1] 79)) (RdX.later HB1.out (Nat.le_refl _) hX1)
      have hst : Hid (bestS s (specX (greatestF d) cx) = (x.take (k + 1)).foldl (fun t c => bestS t (specX (greatestF d) c)) (0, 0, 0)) := Lib.hid (by rw [List.take_add_one, hcx, List.foldl_append, ← hs.out]; rfl)
      have HR1 := Lib.hid (hbl.out.alloc_old (.cells #[.slice a1 n1 c1] 79))
      clear hs hmem hX1 hcx hB hbl
      generalize specX (greatestF d) cx = g at *
      obtain ⟨g1, g2, g3⟩ := g
      obtain ⟨s1, s2, s3⟩ := s
      have cL := fun w => less_any (s1, s2, s3) (g1, g2, g3) w
      unfold bestS at hst
      unfold spV at cS cL
      dsimp only at cS cL
      cases hl : lessB (s1, s2, s3) (g1, g2, g3)
      · rw [hl] at cL hst
        rw [if_neg (by simp)] at hst
        clear hl
        go_wp2_with fail
        refine cS.mono ?_
        rintro e w2 ⟨rfl, hb2⟩
        have HR2 := Lib.hid ((HR1.out.later hb2 HR1.out.lt).alloc_old (.cells #[.int .i64 g1, .int .i64 g2, .int .i64 g3] 88))
        have HP2 := Lib.hid (Blk.alloc (w := w2) [.int .i64 g1, .int .i64 g2, .int .i64 g3] 88)
        have HB2 := Lib.hid (show Below w.heap.size w (w2.alloc (.cells #[.int .i64 g1, .int .i64 g2, .int .i64 g3] 88)) from (below_trans HB1.out hb2).alloc (below_trans HB1.out hb2).size _)
        obtain ⟨x1, x2, x3⟩ := cells3s (show Blk _ _ [.int .i64 s1, .int .i64 s2, .int .i64 s3] _ from HR2.out)
        obtain ⟨y1, y2, y3⟩ := cells3s HP2.out
        clear cS
        go_wp2_with fail
        refine (cL _).mono ?_
        rintro e w4 ⟨rfl, hb4⟩
        have HR4 := Lib.hid (HR2.out.later hb4 HR2.out.lt)
        have HB4 := Lib.hid (below_trans HB2.out hb4)
        clear x1 x2 x3 y1 y2 y3 cL
        go_wp2
        go_roundw
        case rel => exact ⟨k + 1, (s1, s2, s3), by omega, by go_num, hst, HR4, HB4.out⟩
        case measure => simp [intOf]; omega
      · rw [hl] at cL hst
        rw [if_pos rfl] at hst
        clear hl
        go_wp2_with fail
        refine cS.mono ?_
        rintro e w2 ⟨rfl, hb2⟩
        have HR2 := Lib.hid ((HR1.out.later hb2 HR1.out.lt).alloc_old (.cells #[.int .i64 g1, .int .i64 g2, .int .i64 g3] 88))
        have HP2 := Lib.hid (Blk.alloc (w := w2) [.int .i64 g1, .int .i64 g2, .int .i64 g3] 88)
        have HB2 := Lib.hid (show Below w.heap.size w (w2.alloc (.cells #[.int .i64 g1, .int .i64 g2, .int .i64 g3] 88)) from (below_trans HB1.out hb2).alloc (below_trans HB1.out hb2).size _)
        obtain ⟨x1, x2, x3⟩ := cells3s (show Blk _ _ [.int .i64 s1, .int .i64 s2, .int .i64 s3] _ from HR2.out)
        obtain ⟨y1, y2, y3⟩ := cells3s HP2.out
        clear cS
        go_wp2_with fail
        refine (cL _).mono ?_
        rintro e w4 ⟨rfl, hb4⟩
        have HR4 := Lib.hid (HR2.out.later hb4 HR2.out.lt)
        have HB4 := Lib.hid (below_trans HB2.out hb4)
        obtain ⟨y1, y2, y3⟩ := cells3s (HP2.out.later hb4 HP2.out.lt)
        obtain ⟨x1, x2, x3⟩ := cells3s (show Blk _ _ [.int .i64 s1, .int .i64 s2, .int .i64 s3] _ from HR4.out)
        have k1 := HR4.out.frozen 0
        have k2 := HR4.out.frozen 1
        have k3 := HR4.out.frozen 2
        clear cL
        go_wp2
        go_roundw
        case rel => exact ⟨k + 1, (g1, g2, g3), by omega, by go_num, hst, Lib.hid (((HR4.out.setCell 0 _).setCell 1 _).setCell 2 _), ((HB4.out.setCell (p := ⟨w.heap.size, 0, none⟩) (Nat.le_refl _) _).setCell (p := ⟨w.heap.size, 1, none⟩) (Nat.le_refl _) _).setCell (p := ⟨w.heap.size, 2, none⟩) (Nat.le_refl _) _⟩
        case measure => simp [intOf]; omega
    · obtain rfl : k = n := by omega
      have hfin : greatestF (d + 1) x = s := by rw [hs.out, List.take_of_length_le (by rw [← HN.out]; exact Nat.le_refl _)]; rfl
      have HF := Lib.hid hfin
      have HB4 := Lib.hid hB
      have HR4 := hbl
      obtain ⟨s1, s2, s3⟩ := s
      have hbs : Blk wr w.heap.size [.int .i64 s1, .int .i64 s2, .int .i64 s3] 88 := hbl.out
      obtain ⟨x1, x2, x3⟩ := cells3s hbs
      have k1 := hbs.frozen 0
      have k2 := hbs.frozen 1
      have k3 := hbs.frozen 2
      have HBS := Lib.hid hbs
      clear hfin hs hbl hB hbs
      go_wp2
      have B4 : Blk _ _ [.int .i64 s1, .int .i64 s2, .int .i64 s3] _ := ((HBS.out.setCell 0 (.int .i64 s1)).setCell 1 (.int .i64 s2)).setCell 2 (.int .i64 s3)
      obtain ⟨d1, d2, d3⟩ := cells3s B4
      exact bodyPost_ret (v := .agg #[.int .i64 s1, .int .i64 s2, .int .i64 s3]) (by simp [results, Try.results91, go_sem, d1, d2, d3]) rfl ⟨by rw [HF.out]; rfl, ((HB4.out.setCell (p := ⟨w.heap.size, 0, none⟩) (Nat.le_refl _) _).setCell (p := ⟨w.heap.size, 1, none⟩) (Nat.le_refl _) _).setCell (p := ⟨w.heap.size, 2, none⟩) (Nat.le_refl _) _⟩

theorem greatest_any : ∀ (d : Nat) (x : Lx d) (a : Option Addr) (n c : Nat) (w : World), RdL (· < w.heap.size) d w a n c x → Calls Try.prog 91 #[.slice a n c] w (Told (spV (greatestF d x)) w)
  | 0, _, a, n, c, w, h => greatest_step 0 [] (fun _ h => by cases h) a n c w ⟨h.1, by rw [h.1]; exact Nat.zero_le _, ⟨h.2, by rw [h.1]; omega⟩, .inl rfl⟩
  | d + 1, x, a, n, c, w, h => greatest_step d x (fun s _ a n c w h => greatest_any d s.2 a n c w h) a n c w h
/-- The specificity of any selector. -/
theorem spec_any (d : Nat) (x : List (Int × List (Flat × Lx d))) (a : Option Addr) (n c : Nat) (w : World) (hx : RdX (· < w.heap.size) (RdL (· < w.heap.size) d w) w a n c x) :
    Calls Try.prog 50 #[.agg #[.slice a n c]] w (Told (spV (specX (greatestF d) x)) w) :=
  spec_step d x (fun s _ a n c w h => greatest_any d s.2 a n c w h) a n c w hx
end Go.Proofs.Ytfgnepbpfglepaa
