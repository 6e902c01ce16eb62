/- How many simple selectors there are: the walk. -/
import Derived.Test.YtpccakalkcgdeaaSl1
namespace Go.Proofs.Ytpccakalkcgdeaa
open Go.RowKit Go.Shelf

attribute [local go_sem] Oper.semAt_some

def sizeS {d : Nat} (f : Lx d → Int) (t : Int) (s : Flat × Lx d) : Int := IntKind.i64.wrap (t + IntKind.i64.wrap (1 + f s.2))
def sizeF : (d : Nat) → Lx d → Int
  | 0, _ => 0
  | d + 1, x => (simplesL x).foldl (sizeS (sizeF d)) 0

/-- The cells of a simple selector. -/
def scells (f : Flat) (a : Option Addr) (n c : Nat) : Array Value :=
  #[.int .i64 f.kind, .int .i64 f.ns, .string f.pre, .string f.name, .int .i64 f.op, .string f.text, .bool f.fold, .int .i64 f.mark, .int .i64 f.a, .int .i64 f.b, .slice a n c]
theorem Keeps.of_below {n0 : Nat} {A B : World} (h : Below n0 A B) : Keeps (· < n0) A B := ⟨h.size, fun b hb => h.block b hb⟩
theorem RdL.kept {n0 : Nat} {A B : World} (h : Below n0 A B) (hn : n0 ≤ B.heap.size) {d : Nat} {a : Option Addr} {n c : Nat} {x : Lx d} (hx : RdL (· < n0) d A a n c x) : RdL (· < B.heap.size) d B a n c x :=
  RdL.move (fun b hb => ⟨Nat.lt_of_lt_of_le hb hn, h.block b hb⟩) hx

/-- What the call tells of the list within a simple selector. -/
def SizeV (d : Nat) (s : Flat × Lx d) : Prop := ∀ (a : Option Addr) (n c : Nat) (w : World), RdL (· < w.heap.size) d w a n c s.2 → Calls Try.prog 18 #[.slice a n c] w (Told (.int .i64 (sizeF d s.2)) w)

set_option maxRecDepth 100000 in
set_option maxHeartbeats 4000000 in
theorem size_step (d : Nat) (x : List (List (Int × List (Flat × Lx d)))) (IH : ∀ s ∈ simplesL x, SizeV d s) (a : Option Addr) (n c : Nat) (w : World) (hx : RdL (· < w.heap.size) (d + 1) w a n c x) :
    Calls Try.prog 18 #[.slice a n c] w (Told (.int .i64 (sizeF (d + 1) x)) w) := by
  have hro : Fence.wide.round = none := rfl
  have HIH := Lib.hid IH
  clear IH
  refine (callsIn_wide (n := 3)).1 ?_
  refine callsIn_of_wp_marks Try.func18 rfl trivial ?_ hro
  simp only [Try.ntmps18, List.size_toArray, List.length_cons, List.length_nil, Nat.reduceAdd, Nat.reduceSub, Array.replicate_succ, Array.replicate_zero, List.push_toArray, List.append_toArray, List.nil_append, List.cons_append]
  gi_wp2
  refine ⟨trivial, ?_⟩
  refine (simples_in _ _ _ _ _).mono ?_
  rintro e w' ⟨rfl, rfl⟩
  have b0 := (Boxed.new w 3 (.int .i64 0)).alloc (.cells #[.slice a n c] 28)
  have b1 := Boxed.new (w.alloc (.cells #[.int .i64 0] 3)) 28 (.slice a n c)
  simp only [World.size_alloc] at b1
  have hB0 : Below w.heap.size w ((w.alloc (.cells #[.int .i64 0] 3)).alloc (.cells #[.slice a n c] 28)) := ((Below.refl _ w).alloc (Nat.le_refl _) _).alloc (by simp) _
  have hz0 : ((w.alloc (.cells #[.int .i64 0] 3)).alloc (.cells #[.slice a n c] 28)).heap.size = w.heap.size + 2 := by simp
  gi_wp2
  generalize hW0 : ((w.alloc (.cells #[.int .i64 0] 3)).alloc (.cells #[.slice a n c] 28)) = W0 at *
  have hx0 : RdL (· < w.heap.size) (d + 1) W0 a n c x := RdL.move (fun b hb => ⟨hb, hB0.block b hb⟩) hx
  have hseq := simples_stops (3 - 1) (w.heap.size + 1) (· < w.heap.size) d (SizeV d) (by omega) a n c x W0 b1.cell hx0 HIH.out (fun b hb => by omega)
  clear hx hx0
  refine wpIn_rangeFunc_ownH hro (by omega) (gf := 36) (lb := #[.pointer (some ⟨w.heap.size + 1, 0, none⟩)]) rfl trivial (enters_of Try.func36 (by kernel_rfl) rfl)
    hseq (fun h k => Keeps.trans h k) (fun W l o o' hl _ _ _ => ⟨by simp, fun b hb => World.putObj_heap_other (by omega)⟩) (Below.refl _ _) (fun _ => rfl)
    (fun pre W => Boxed W w.heap.size 3 (.int .i64 ((pre.map Hx.s).foldl (sizeS (sizeF d)) 0)) ∧ Below w.heap.size w W)
    (fun _ _ _ => False)
    (OwnFrom.and (Own.from (boxed_own _ _ _) _) (ownFrom_below (Nat.le_refl _) (by omega)))
    (fun _ _ _ _ _ hs _ _ => hs)
    ⟨b0, hB0⟩
    (fun y a' W => ∃ p, w.heap.size < p ∧ W.heap[p]? = some (.cells (scells y.1.1 y.1.2.2.1 y.1.2.2.2.1 y.1.2.2.2.2) 47 (0, 0)) ∧
      a' = { tmps := #[.slice a n c, undef, .int .i64 0, .pointer (some ⟨w.heap.size, 0, none⟩), .pointer (some ⟨p, 0, none⟩), .slice a n c, .func (.func 36) #[] #[.pointer (some ⟨w.heap.size + 1, 0, none⟩)], y.v, undef, undef, undef, undef, undef, undef, undef], defers := [] })
    (fun y a' s A B row ⟨p, h1, h2, h3⟩ hg hr => ⟨p, h1, (hg.block p (Array.getElem?_eq_some_iff.1 h2).1 (fun e => by obtain ⟨o, ho, hc⟩ := (hr p e.symm).2; rw [h2] at ho; cases ho; cases hc)).trans h2, h3⟩)
    ?assign ?body ?done ?stop
  case assign =>
    intro l pre y W K hI hK
    obtain ⟨⟨f, lx, a1, n1, c1⟩, hy⟩ := y
    simp only [Hx.v, sval]
    gi_wp2
    refine hK _ _ (KeepsFrom.of_grownBy (World.grownBy_alloc W _ none) (fun j e => by cases e)) ⟨by simp, fun b hb => Below.heap_alloc _ _ _ (by have := hI.2.size; omega)⟩ ⟨hI.1.alloc _, hI.2.alloc hI.2.size _⟩ ⟨W.heap.size, hI.1.lt, World.alloc_heap_new _ _, rfl⟩
  case body =>
    rintro l pre y a' W hl hlr ⟨hbx, hB⟩ ⟨p, hp1, hp2, rfl⟩ hlen
    obtain ⟨⟨f, lx, a1, n1, c1⟩, hy1, hy2⟩ := y
    have hx1 : RdL (· < W.drew.heap.size) d W.drew a1 n1 c1 lx := RdL.move (w' := W.drew) (fun b hb => ⟨Nat.lt_of_lt_of_le hb hB.size, (hB.block b hb).trans (hB0.block b hb).symm⟩) hy1
    have hc := hbx.cell
    have hf := hbx.frozen
    have hs : W.cell? ⟨p, 10, none⟩ = some (.slice a1 n1 c1) := by simp [World.cell?, hp2, scells]
    have cS := hy2 a1 n1 c1 _ hx1
    have HB := Lib.hid hB
    have HBX := Lib.hid hbx
    have hlt := hbx.lt
    have hmx : Try.prog.follows .mixedOrders = true := by kernel_rfl
    simp only [Hx.v, sval]
    clear hseq hB0 b0 b1 hx1 hbx hB
    gi_wp2
    gi_region_with_o (refine ⟨trivial, ?_⟩; gi_at_call 18; refine (CallsIn.inRound l (callsIn_wide.2 cS)).mono ?_; rintro e w5 ⟨rfl, hb5⟩; have HB5 := Lib.hid (show Boxed w5 _ _ _ from (hb5.block _ hlt).trans HBX.out); have hc5 := HB5.out.cell; have hf5 := HB5.out.frozen)
    all_goals
      gi_wp2
      have hg : W.grownBy (w5.setCell ⟨w.heap.size, 0, none⟩ (.int .i64 (sizeS (sizeF d) ((pre.map Hx.s).foldl (sizeS (sizeF d)) 0) (f, lx)))) (some w.heap.size) := grown_trans (row := some w.heap.size) ⟨hb5.os, hb5.tape, hb5.output, hb5.size, fun k hk _ => hb5.block k hk⟩ (grown_setCell _ _ _ _)
      refine ⟨KeepsFrom.of_grownBy hg (fun j e => by cases e; omega), ⟨hg.size, fun b hb => hg.block b (by omega) (fun e => by cases e; omega)⟩, ?_, (HB.out.trans (Below.mono (w := W) (show Below W.heap.size W w5 from ⟨hb5.os, hb5.tape, hb5.output, hb5.size, hb5.block⟩) HB.out.size)).setCell (p := ⟨w.heap.size, 0, none⟩) (Nat.le_refl _) _⟩
      rw [List.map_append, List.foldl_append]
      exact HB5.out.set _
  case done =>
    rintro D ys W hD hys ⟨hbx, hB⟩ hK
    have hc := hbx.cell
    have HB := Lib.hid hB
    have HH := Lib.hid hys
    clear hseq hB0 b0 b1 hB hys
    gi_wp2
    refine ⟨by simp, .inl ⟨_, _, rfl, run_takeDeferred hK, ?_⟩⟩
    refine ⟨_, results_tmp rfl _ _ _, ?_, HB.out.trans (belowK_b (w := w) (Nat.le_refl _) W D _ _ (by omega) hK rfl rfl)⟩
    simp only [sizeF, ← HH.out]
    rfl
  case stop =>
    rintro D c pre W _ _ h _
    exact h.elim
theorem size_any : ∀ (d : Nat) (x : Lx d) (a : Option Addr) (n c : Nat) (w : World), RdL (· < w.heap.size) d w a n c x → Calls Try.prog 18 #[.slice a n c] w (Told (.int .i64 (sizeF d x)) w)
  | 0, _, a, n, c, w, h => size_step 0 [] (fun _ h => by cases h) a n c w ⟨h.1, by rw [h.1]; exact Nat.zero_le _, ⟨h.2, by rw [h.1]; omega⟩, .inl rfl⟩
  | d + 1, x, a, n, c, w, h => size_step d x (fun s _ a n c w h => size_any d s.2 a n c w h) a n c w h
end Go.Proofs.Ytpccakalkcgdeaa
