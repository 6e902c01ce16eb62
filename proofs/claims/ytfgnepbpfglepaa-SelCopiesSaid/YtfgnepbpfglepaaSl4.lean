/- Specificities: walks. -/
import Derived.Test.YtfgnepbpfglepaaSl3
import Derived.Deep.RegionHeld3
import Derived.Deep.RegionWith
namespace Go.Proofs.Ytfgnepbpfglepaa
open Go.RowKit Go.Shelf

/-- A specificity. -/
abbrev Sp := Int × Int × Int
def spV (s : Sp) : Value := .agg #[.int .i64 s.1, .int .i64 s.2.1, .int .i64 s.2.2]
def plusF (s t : Sp) : Sp := (wrap64 (s.1 + t.1), wrap64 (s.2.1 + t.2.1), wrap64 (s.2.2 + t.2.2))
def lessB (s t : Sp) : Bool := if s.1 ≠ t.1 then decide (s.1 < t.1) else if s.2.1 ≠ t.2.1 then decide (s.2.1 < t.2.1) else decide (s.2.2 < t.2.2)
def specS {d : Nat} (g : Lx d → Sp) (s : Flat × Lx d) : Sp :=
  if s.1.kind = 4 then (1, 0, 0)
  else if s.1.kind = 3 ∨ s.1.kind = 5 ∨ s.1.kind = 6 ∨ s.1.kind = 11 ∨ s.1.kind = 12 then (0, 1, 0)
  else if s.1.kind = 1 ∨ s.1.kind = 13 then (0, 0, 1)
  else if s.1.kind = 7 then plusF (0, 1, 0) (g s.2)
  else if s.1.kind = 8 ∨ s.1.kind = 10 then plusF (0, 0, 0) (g s.2)
  else (0, 0, 0)
def specX {d : Nat} (g : Lx d → Sp) (x : List (Int × List (Flat × Lx d))) : Sp := (simplesX x).foldl (fun t s => plusF t (specS g s)) (0, 0, 0)
def bestS (t s : Sp) : Sp := if lessB t s = true then s else t
def greatestF : (d : Nat) → Lx d → Sp
  | 0, _ => (0, 0, 0)
  | d + 1, x => (show List (List (Int × List (Flat × Lx d))) from x).foldl (fun t c => bestS t (specX (greatestF d) c)) (0, 0, 0)

set_option maxRecDepth 100000 in
set_option maxHeartbeats 1000000 in
theorem plus_any (s t : Sp) (w : World) : Calls Try.prog 73 #[spV s, spV t] w (Told (spV (plusF s t)) w) := by
  obtain ⟨s1, s2, s3⟩ := s
  obtain ⟨t1, t2, t3⟩ := t
  unfold spV plusF
  dsimp only
  have hb : ∀ a b c, Below w.heap.size w (((w.alloc (.cells #[.int .i64 s1, .int .i64 s2, .int .i64 s3] 88)).alloc (.cells #[.int .i64 t1, .int .i64 t2, .int .i64 t3] 88)).alloc (.cells #[.int .i64 a, .int .i64 b, .int .i64 c] 88)) := fun _ _ _ => (((Below.refl _ w).alloc (Nat.le_refl _) _).alloc (by simp) _).alloc (by simp; omega) _
  go_enter Try.func73, Try.ntmps73
  go_wp2
  exact bodyPost_ret (v := .agg #[.int .i64 (wrap64 (s1 + t1)), .int .i64 (wrap64 (s2 + t2)), .int .i64 (wrap64 (s3 + t3))]) (by simp [results, Try.results73, go_sem]) rfl ⟨rfl, hb _ _ _⟩

set_option maxRecDepth 100000 in
set_option maxHeartbeats 1000000 in
theorem less_any (s t : Sp) (w : World) : Calls Try.prog 102 #[spV s, spV t] w (Told (.bool (lessB s t)) w) := by
  obtain ⟨s1, s2, s3⟩ := s
  obtain ⟨t1, t2, t3⟩ := t
  unfold spV lessB
  dsimp only
  have hb : Below w.heap.size w ((w.alloc (.cells #[.int .i64 s1, .int .i64 s2, .int .i64 s3] 88)).alloc (.cells #[.int .i64 t1, .int .i64 t2, .int .i64 t3] 88)) := ((Below.refl _ w).alloc (Nat.le_refl _) _).alloc (by simp) _
  by_cases h1 : s1 = t1
  · subst h1
    rw [if_neg (by simp)]
    by_cases h2 : s2 = t2
    · subst h2
      rw [if_neg (by simp)]
      go_enter Try.func102, Try.ntmps102
      go_wp2
      go_ret
      exact ⟨rfl, hb⟩
    · rw [if_pos h2]
      have q : (s2 != t2) = true := by rw [bne_iff_ne]; exact h2
      go_enter Try.func102, Try.ntmps102
      go_wp2
      go_ret
      exact ⟨rfl, hb⟩
  · rw [if_pos h1]
    have q : (s1 != t1) = true := by rw [bne_iff_ne]; exact h1
    go_enter Try.func102, Try.ntmps102
    go_wp2
    go_ret
    exact ⟨rfl, hb⟩

/-- What the call tells of the list within a simple selector. -/
def GreatV (d : Nat) (s : Flat × Lx d) : Prop := ∀ (a : Option Addr) (n c : Nat) (w : World), RdL (· < w.heap.size) d w a n c s.2 → Calls Try.prog 91 #[.slice a n c] w (Told (spV (greatestF d s.2)) w)

theorem beq_no {a b : Int} (h : a ≠ b) : (a == b) = false := beq_eq_false_iff_ne.2 h

/-- What the region of a list's greatest reads, and what it keeps. -/
def SpS (cs : List Value) (x y z : Int) (P Q : Nat) (w0 w' : World) : Prop :=
  Blk w' P cs 86 ∧ Blk w' Q [.int .i64 x, .int .i64 y, .int .i64 z] 88 ∧ Below w0.heap.size w0 w'
theorem SpS.later {cs : List Value} {x y z : Int} {P Q : Nat} {w0 w1 w2 : World} (h : SpS cs x y z P Q w0 w1) (hb : Below w1.heap.size w1 w2) : SpS cs x y z P Q w0 w2 := by
  obtain ⟨h1, h2, h3⟩ := h
  exact ⟨h1.later hb h1.lt, h2.later hb h2.lt, below_trans h3 hb⟩
theorem SpS.says {cs : List Value} {x y z : Int} {P Q : Nat} {a : Option Addr} {n c : Nat} {w0 w1 : World} (hc : cs[10]? = some (.slice a n c)) (h : SpS cs x y z P Q w0 w1) :
    w1.cell? ⟨P, 10, none⟩ = some (.slice a n c) ∧ w1.cell? ⟨Q, 0, none⟩ = some (.int .i64 x) ∧ w1.cell? ⟨Q, 1, none⟩ = some (.int .i64 y) ∧ w1.cell? ⟨Q, 2, none⟩ = some (.int .i64 z) :=
  ⟨h.1.cell 10 _ hc, h.2.1.cell 0 _ rfl, h.2.1.cell 1 _ rfl, h.2.1.cell 2 _ rfl⟩

set_option maxRecDepth 100000 in
set_option maxHeartbeats 4000000 in
theorem specOf_any (d : Nat) (f : Flat) (lx : Lx d) (a : Option Addr) (n c : Nat) (w : World) (hx : RdL (· < w.heap.size) d w a n c lx) (hG : GreatV d (f, lx)) :
    Calls Try.prog 74 #[sval f a n c] w (Told (spV (specS (greatestF d) (f, lx))) w) := by
  obtain ⟨k, ns, pre, name, op, text, fold, mark, fa, fb⟩ := f
  unfold sval
  dsimp only
  have hb : ∀ x y z, Below w.heap.size w ((w.alloc (.cells #[.int .i64 k, .int .i64 ns, .string pre, .string name, .int .i64 op, .string text, .bool fold, .int .i64 mark, .int .i64 fa, .int .i64 fb, .slice a n c] 86)).alloc (.cells #[.int .i64 x, .int .i64 y, .int .i64 z] 88)) := fun _ _ _ => ((Below.refl _ w).alloc (Nat.le_refl _) _).alloc (by simp) _
  by_cases h4 : k = 4
  · subst h4
    rw [show specS (greatestF d) (Flat.mk 4 ns pre name op text fold mark fa fb, lx) = (1, 0, 0) from by simp [specS]]
    go_enter Try.func74, Try.ntmps74
    go_wp2
    exact bodyPost_ret (v := .agg #[.int .i64 1, .int .i64 0, .int .i64 0]) (by simp [results, Try.results74, go_sem]) rfl ⟨rfl, hb _ _ _⟩
  have q4 := beq_no h4
  by_cases h3 : k = 3 ∨ k = 5 ∨ k = 6 ∨ k = 11 ∨ k = 12
  · rcases h3 with rfl | rfl | rfl | rfl | rfl
    all_goals
      rw [show specS (greatestF d) (Flat.mk _ ns pre name op text fold mark fa fb, lx) = (0, 1, 0) from by simp [specS]]
      go_enter Try.func74, Try.ntmps74
      go_wp2
      exact bodyPost_ret (v := .agg #[.int .i64 0, .int .i64 1, .int .i64 0]) (by simp [results, Try.results74, go_sem]) rfl ⟨rfl, hb _ _ _⟩
  have q3 := beq_no (fun h => h3 (.inl h))
  have q5 := beq_no (fun h => h3 (.inr (.inl h)))
  have q6 := beq_no (fun h => h3 (.inr (.inr (.inl h))))
  have q11 := beq_no (fun h => h3 (.inr (.inr (.inr (.inl h)))))
  have q12 := beq_no (fun h => h3 (.inr (.inr (.inr (.inr h)))))
  by_cases h1 : k = 1 ∨ k = 13
  · rcases h1 with rfl | rfl
    all_goals
      clear q4 q3 q5 q6 q11 q12
      rw [show specS (greatestF d) (Flat.mk _ ns pre name op text fold mark fa fb, lx) = (0, 0, 1) from by simp [specS]]
      go_enter Try.func74, Try.ntmps74
      go_wp2
      exact bodyPost_ret (v := .agg #[.int .i64 0, .int .i64 0, .int .i64 1]) (by simp [results, Try.results74, go_sem]) rfl ⟨rfl, hb _ _ _⟩
  have q1 := beq_no (fun h => h1 (.inl h))
  have q13 := beq_no (fun h => h1 (.inr h))
  by_cases h7 : k = 7
  · subst h7
    clear q4 q3 q5 q6 q11 q12 q1 q13 h4 h3 h1
    rw [show specS (greatestF d) (Flat.mk _ ns pre name op text fold mark fa fb, lx) = plusF (0, 1, 0) (greatestF d lx) from by simp [specS]]
    have HS0 : Hid (SpS [.int .i64 7, .int .i64 ns, .string pre, .string name, .int .i64 op, .string text, .bool fold, .int .i64 mark, .int .i64 fa, .int .i64 fb, .slice a n c] 0 1 0 w.heap.size (w.heap.size + 1) w ((w.alloc (.cells #[.int .i64 7, .int .i64 ns, .string pre, .string name, .int .i64 op, .string text, .bool fold, .int .i64 mark, .int .i64 fa, .int .i64 fb, .slice a n c] 86)).alloc (.cells #[.int .i64 0, .int .i64 1, .int .i64 0] 88))) :=
      Lib.hid ⟨(Blk.alloc _ _).alloc_old _, by have := Blk.alloc (w := w.alloc (.cells #[.int .i64 7, .int .i64 ns, .string pre, .string name, .int .i64 op, .string text, .bool fold, .int .i64 mark, .int .i64 fa, .int .i64 fb, .slice a n c] 86)) [.int .i64 0, .int .i64 1, .int .i64 0] 88; rwa [World.size_alloc] at this, hb _ _ _⟩
    go_enter Try.func74, Try.ntmps74
    go_wp2
    generalize ((w.alloc (.cells #[.int .i64 7, .int .i64 ns, .string pre, .string name, .int .i64 op, .string text, .bool fold, .int .i64 mark, .int .i64 fa, .int .i64 fb, .slice a n c] 86)).alloc (.cells #[.int .i64 0, .int .i64 1, .int .i64 0] 88)) = W0 at *
    have HS0 : Hid (SpS [.int .i64 7, .int .i64 ns, .string pre, .string name, .int .i64 op, .string text, .bool fold, .int .i64 mark, .int .i64 fa, .int .i64 fb, .slice a n c] 0 1 0 w.heap.size (w.heap.size + 1) w W0.drew) := Lib.hid ⟨HS0.out.1, HS0.out.2.1, HS0.out.2.2.drew⟩
    have hx0 : RdL (· < W0.drew.heap.size) d W0.drew a n c lx := hx.later HS0.out.2.2 (Nat.le_refl _)
    have cG := hG a n c _ hx0
    have cP := fun w => plus_any (0, 1, 0) (greatestF d lx) w
    generalize greatestF d lx = g at *
    generalize plusF (0, 1, 0) g = r at *
    obtain ⟨g1, g2, g3⟩ := g
    obtain ⟨r1, r2, r3⟩ := r
    unfold spV at cG cP ⊢
    dsimp only at cG cP ⊢
    obtain ⟨c1, c2, c3, c4⟩ := HS0.out.says rfl
    clear hx hx0 hb hG
    go_region_with (first
      | (go_at_call 91; (with_reducible refine cG.mono ?_); rintro e w5 ⟨rfl, hb5⟩; have HS1 := Lib.hid (HS0.out.later hb5); obtain ⟨c1, c2, c3, c4⟩ := HS1.out.says rfl)
      | (go_at_call 73; (with_reducible refine (cP _).mono ?_); rintro e w6 ⟨rfl, hb6⟩; have HS2 := Lib.hid (HS1.out.later hb6); obtain ⟨c1, c2, c3, c4⟩ := HS2.out.says rfl; have k1 := HS2.out.2.1.frozen 0; have k2 := HS2.out.2.1.frozen 1; have k3 := HS2.out.2.1.frozen 2))
    all_goals
      have HE := Lib.hid (show Blk (((w6.setCell ⟨w.heap.size + 1, 0, none⟩ (.int .i64 r1)).setCell ⟨w.heap.size + 1, 1, none⟩ (.int .i64 r2)).setCell ⟨w.heap.size + 1, 2, none⟩ (.int .i64 r3)) (w.heap.size + 1) [.int .i64 r1, .int .i64 r2, .int .i64 r3] 88 from ((HS2.out.2.1.setCell 0 _).setCell 1 _).setCell 2 _)
      have HF := Lib.hid (show Below w.heap.size w (((w6.setCell ⟨w.heap.size + 1, 0, none⟩ (.int .i64 r1)).setCell ⟨w.heap.size + 1, 1, none⟩ (.int .i64 r2)).setCell ⟨w.heap.size + 1, 2, none⟩ (.int .i64 r3)) from ((HS2.out.2.2.setCell (p := ⟨w.heap.size + 1, 0, none⟩) (by simp) _).setCell (p := ⟨w.heap.size + 1, 1, none⟩) (by simp) _).setCell (p := ⟨w.heap.size + 1, 2, none⟩) (by simp) _)
      clear c1 c2 c3 c4 k1 k2 k3
      generalize (((w6.setCell ⟨w.heap.size + 1, 0, none⟩ (.int .i64 r1)).setCell ⟨w.heap.size + 1, 1, none⟩ (.int .i64 r2)).setCell ⟨w.heap.size + 1, 2, none⟩ (.int .i64 r3)) = W3 at *
      have k1 := HE.out.frozen 0
      have k2 := HE.out.frozen 1
      have k3 := HE.out.frozen 2
      have c1 := HE.out.cell 0 _ rfl
      have c2 := HE.out.cell 1 _ rfl
      have c3 := HE.out.cell 2 _ rfl
      go_wp2
      have B4 : Blk _ _ [.int .i64 r1, .int .i64 r2, .int .i64 r3] _ := ((HE.out.setCell 0 (.int .i64 r1)).setCell 1 (.int .i64 r2)).setCell 2 (.int .i64 r3)
      have d1 := B4.cell 0 _ rfl
      have d2 := B4.cell 1 _ rfl
      have d3 := B4.cell 2 _ rfl
      exact bodyPost_ret (v := .agg #[.int .i64 r1, .int .i64 r2, .int .i64 r3]) (by simp [results, Try.results74, go_sem, d1, d2, d3]) rfl ⟨rfl, ((HF.out.setCell (p := ⟨w.heap.size + 1, 0, none⟩) (by simp) _).setCell (p := ⟨w.heap.size + 1, 1, none⟩) (by simp) _).setCell (p := ⟨w.heap.size + 1, 2, none⟩) (by simp) _⟩
  have q7 := beq_no h7
  by_cases h8 : k = 8
  · subst h8
    clear q4 q3 q5 q6 q11 q12 q1 q13 h4 h3 h1 q7 h7
    rw [show specS (greatestF d) (Flat.mk _ ns pre name op text fold mark fa fb, lx) = plusF (0, 0, 0) (greatestF d lx) from by simp [specS]]
    have HS0 : Hid (SpS [.int .i64 8, .int .i64 ns, .string pre, .string name, .int .i64 op, .string text, .bool fold, .int .i64 mark, .int .i64 fa, .int .i64 fb, .slice a n c] 0 0 0 w.heap.size (w.heap.size + 1) w ((w.alloc (.cells #[.int .i64 8, .int .i64 ns, .string pre, .string name, .int .i64 op, .string text, .bool fold, .int .i64 mark, .int .i64 fa, .int .i64 fb, .slice a n c] 86)).alloc (.cells #[.int .i64 0, .int .i64 0, .int .i64 0] 88))) :=
      Lib.hid ⟨(Blk.alloc _ _).alloc_old _, by have := Blk.alloc (w := w.alloc (.cells #[.int .i64 8, .int .i64 ns, .string pre, .string name, .int .i64 op, .string text, .bool fold, .int .i64 mark, .int .i64 fa, .int .i64 fb, .slice a n c] 86)) [.int .i64 0, .int .i64 0, .int .i64 0] 88; rwa [World.size_alloc] at this, hb _ _ _⟩
    go_enter Try.func74, Try.ntmps74
    go_wp2
    generalize ((w.alloc (.cells #[.int .i64 8, .int .i64 ns, .string pre, .string name, .int .i64 op, .string text, .bool fold, .int .i64 mark, .int .i64 fa, .int .i64 fb, .slice a n c] 86)).alloc (.cells #[.int .i64 0, .int .i64 0, .int .i64 0] 88)) = W0 at *
    have HS0 : Hid (SpS [.int .i64 8, .int .i64 ns, .string pre, .string name, .int .i64 op, .string text, .bool fold, .int .i64 mark, .int .i64 fa, .int .i64 fb, .slice a n c] 0 0 0 w.heap.size (w.heap.size + 1) w W0.drew) := Lib.hid ⟨HS0.out.1, HS0.out.2.1, HS0.out.2.2.drew⟩
    have hx0 : RdL (· < W0.drew.heap.size) d W0.drew a n c lx := hx.later HS0.out.2.2 (Nat.le_refl _)
    have cG := hG a n c _ hx0
    have cP := fun w => plus_any (0, 0, 0) (greatestF d lx) w
    generalize greatestF d lx = g at *
    generalize plusF (0, 0, 0) g = r at *
    obtain ⟨g1, g2, g3⟩ := g
    obtain ⟨r1, r2, r3⟩ := r
    unfold spV at cG cP ⊢
    dsimp only at cG cP ⊢
    obtain ⟨c1, c2, c3, c4⟩ := HS0.out.says rfl
    clear hx hx0 hb hG
    go_region_with (first
      | (go_at_call 91; (with_reducible refine cG.mono ?_); rintro e w5 ⟨rfl, hb5⟩; have HS1 := Lib.hid (HS0.out.later hb5); obtain ⟨c1, c2, c3, c4⟩ := HS1.out.says rfl)
      | (go_at_call 73; (with_reducible refine (cP _).mono ?_); rintro e w6 ⟨rfl, hb6⟩; have HS2 := Lib.hid (HS1.out.later hb6); obtain ⟨c1, c2, c3, c4⟩ := HS2.out.says rfl; have k1 := HS2.out.2.1.frozen 0; have k2 := HS2.out.2.1.frozen 1; have k3 := HS2.out.2.1.frozen 2))
    all_goals
      have HE := Lib.hid (show Blk (((w6.setCell ⟨w.heap.size + 1, 0, none⟩ (.int .i64 r1)).setCell ⟨w.heap.size + 1, 1, none⟩ (.int .i64 r2)).setCell ⟨w.heap.size + 1, 2, none⟩ (.int .i64 r3)) (w.heap.size + 1) [.int .i64 r1, .int .i64 r2, .int .i64 r3] 88 from ((HS2.out.2.1.setCell 0 _).setCell 1 _).setCell 2 _)
      have HF := Lib.hid (show Below w.heap.size w (((w6.setCell ⟨w.heap.size + 1, 0, none⟩ (.int .i64 r1)).setCell ⟨w.heap.size + 1, 1, none⟩ (.int .i64 r2)).setCell ⟨w.heap.size + 1, 2, none⟩ (.int .i64 r3)) from ((HS2.out.2.2.setCell (p := ⟨w.heap.size + 1, 0, none⟩) (by simp) _).setCell (p := ⟨w.heap.size + 1, 1, none⟩) (by simp) _).setCell (p := ⟨w.heap.size + 1, 2, none⟩) (by simp) _)
      clear c1 c2 c3 c4 k1 k2 k3
      generalize (((w6.setCell ⟨w.heap.size + 1, 0, none⟩ (.int .i64 r1)).setCell ⟨w.heap.size + 1, 1, none⟩ (.int .i64 r2)).setCell ⟨w.heap.size + 1, 2, none⟩ (.int .i64 r3)) = W3 at *
      have k1 := HE.out.frozen 0
      have k2 := HE.out.frozen 1
      have k3 := HE.out.frozen 2
      have c1 := HE.out.cell 0 _ rfl
      have c2 := HE.out.cell 1 _ rfl
      have c3 := HE.out.cell 2 _ rfl
      go_wp2
      have B4 : Blk _ _ [.int .i64 r1, .int .i64 r2, .int .i64 r3] _ := ((HE.out.setCell 0 (.int .i64 r1)).setCell 1 (.int .i64 r2)).setCell 2 (.int .i64 r3)
      have d1 := B4.cell 0 _ rfl
      have d2 := B4.cell 1 _ rfl
      have d3 := B4.cell 2 _ rfl
      exact bodyPost_ret (v := .agg #[.int .i64 r1, .int .i64 r2, .int .i64 r3]) (by simp [results, Try.results74, go_sem, d1, d2, d3]) rfl ⟨rfl, ((HF.out.setCell (p := ⟨w.heap.size + 1, 0, none⟩) (by simp) _).setCell (p := ⟨w.heap.size + 1, 1, none⟩) (by simp) _).setCell (p := ⟨w.heap.size + 1, 2, none⟩) (by simp) _⟩
  have q8 := beq_no h8
  by_cases h10 : k = 10
  · subst h10
    clear q4 q3 q5 q6 q11 q12 q1 q13 h4 h3 h1 q7 h7 q8 h8
    rw [show specS (greatestF d) (Flat.mk _ ns pre name op text fold mark fa fb, lx) = plusF (0, 0, 0) (greatestF d lx) from by simp [specS]]
    have HS0 : Hid (SpS [.int .i64 10, .int .i64 ns, .string pre, .string name, .int .i64 op, .string text, .bool fold, .int .i64 mark, .int .i64 fa, .int .i64 fb, .slice a n c] 0 0 0 w.heap.size (w.heap.size + 1) w ((w.alloc (.cells #[.int .i64 10, .int .i64 ns, .string pre, .string name, .int .i64 op, .string text, .bool fold, .int .i64 mark, .int .i64 fa, .int .i64 fb, .slice a n c] 86)).alloc (.cells #[.int .i64 0, .int .i64 0, .int .i64 0] 88))) :=
      Lib.hid ⟨(Blk.alloc _ _).alloc_old _, by have := Blk.alloc (w := w.alloc (.cells #[.int .i64 10, .int .i64 ns, .string pre, .string name, .int .i64 op, .string text, .bool fold, .int .i64 mark, .int .i64 fa, .int .i64 fb, .slice a n c] 86)) [.int .i64 0, .int .i64 0, .int .i64 0] 88; rwa [World.size_alloc] at this, hb _ _ _⟩
    go_enter Try.func74, Try.ntmps74
    go_wp2
    generalize ((w.alloc (.cells #[.int .i64 10, .int .i64 ns, .string pre, .string name, .int .i64 op, .string text, .bool fold, .int .i64 mark, .int .i64 fa, .int .i64 fb, .slice a n c] 86)).alloc (.cells #[.int .i64 0, .int .i64 0, .int .i64 0] 88)) = W0 at *
    have HS0 : Hid (SpS [.int .i64 10, .int .i64 ns, .string pre, .string name, .int .i64 op, .string text, .bool fold, .int .i64 mark, .int .i64 fa, .int .i64 fb, .slice a n c] 0 0 0 w.heap.size (w.heap.size + 1) w W0.drew) := Lib.hid ⟨HS0.out.1, HS0.out.2.1, HS0.out.2.2.drew⟩
    have hx0 : RdL (· < W0.drew.heap.size) d W0.drew a n c lx := hx.later HS0.out.2.2 (Nat.le_refl _)
    have cG := hG a n c _ hx0
    have cP := fun w => plus_any (0, 0, 0) (greatestF d lx) w
    generalize greatestF d lx = g at *
    generalize plusF (0, 0, 0) g = r at *
    obtain ⟨g1, g2, g3⟩ := g
    obtain ⟨r1, r2, r3⟩ := r
    unfold spV at cG cP ⊢
    dsimp only at cG cP ⊢
    obtain ⟨c1, c2, c3, c4⟩ := HS0.out.says rfl
    clear hx hx0 hb hG
    go_region_with (first
      | (go_at_call 91; (with_reducible refine cG.mono ?_); rintro e w5 ⟨rfl, hb5⟩; have HS1 := Lib.hid (HS0.out.later hb5); obtain ⟨c1, c2, c3, c4⟩ := HS1.out.says rfl)
      | (go_at_call 73; (with_reducible refine (cP _).mono ?_); rintro e w6 ⟨rfl, hb6⟩; have HS2 := Lib.hid (HS1.out.later hb6); obtain ⟨c1, c2, c3, c4⟩ := HS2.out.says rfl; have k1 := HS2.out.2.1.frozen 0; have k2 := HS2.out.2.1.frozen 1; have k3 := HS2.out.2.1.frozen 2))
    all_goals
      have HE := Lib.hid (show Blk (((w6.setCell ⟨w.heap.size + 1, 0, none⟩ (.int .i64 r1)).setCell ⟨w.heap.size + 1, 1, none⟩ (.int .i64 r2)).setCell ⟨w.heap.size + 1, 2, none⟩ (.int .i64 r3)) (w.heap.size + 1) [.int .i64 r1, .int .i64 r2, .int .i64 r3] 88 from ((HS2.out.2.1.setCell 0 _).setCell 1 _).setCell 2 _)
      have HF := Lib.hid (show Below w.heap.size w (((w6.setCell ⟨w.heap.size + 1, 0, none⟩ (.int .i64 r1)).setCell ⟨w.heap.size + 1, 1, none⟩ (.int .i64 r2)).setCell ⟨w.heap.size + 1, 2, none⟩ (.int .i64 r3)) from ((HS2.out.2.2.setCell (p := ⟨w.heap.size + 1, 0, none⟩) (by simp) _).setCell (p := ⟨w.heap.size + 1, 1, none⟩) (by simp) _).setCell (p := ⟨w.heap.size + 1, 2, none⟩) (by simp) _)
      clear c1 c2 c3 c4 k1 k2 k3
      generalize (((w6.setCell ⟨w.heap.size + 1, 0, none⟩ (.int .i64 r1)).setCell ⟨w.heap.size + 1, 1, none⟩ (.int .i64 r2)).setCell ⟨w.heap.size + 1, 2, none⟩ (.int .i64 r3)) = W3 at *
      have k1 := HE.out.frozen 0
      have k2 := HE.out.frozen 1
      have k3 := HE.out.frozen 2
      have c1 := HE.out.cell 0 _ rfl
      have c2 := HE.out.cell 1 _ rfl
      have c3 := HE.out.cell 2 _ rfl
      go_wp2
      have B4 : Blk _ _ [.int .i64 r1, .int .i64 r2, .int .i64 r3] _ := ((HE.out.setCell 0 (.int .i64 r1)).setCell 1 (.int .i64 r2)).setCell 2 (.int .i64 r3)
      have d1 := B4.cell 0 _ rfl
      have d2 := B4.cell 1 _ rfl
      have d3 := B4.cell 2 _ rfl
      exact bodyPost_ret (v := .agg #[.int .i64 r1, .int .i64 r2, .int .i64 r3]) (by simp [results, Try.results74, go_sem, d1, d2, d3]) rfl ⟨rfl, ((HF.out.setCell (p := ⟨w.heap.size + 1, 0, none⟩) (by simp) _).setCell (p := ⟨w.heap.size + 1, 1, none⟩) (by simp) _).setCell (p := ⟨w.heap.size + 1, 2, none⟩) (by simp) _⟩
  have q10 := beq_no h10
  rw [show specS (greatestF d) (Flat.mk k ns pre name op text fold mark fa fb, lx) = (0, 0, 0) from by simp [specS, h4, h3, h1, h7, h8, h10]]
  clear h4 h3 h1 h7 h8 h10
  go_enter Try.func74, Try.ntmps74
  go_wp2
  exact bodyPost_ret (v := .agg #[.int .i64 0, .int .i64 0, .int .i64 0]) (by simp [results, Try.results74, go_sem]) rfl ⟨rfl, hb _ _ _⟩
end Go.Proofs.Ytfgnepbpfglepaa
