/- Several texts of mine in one. -/
import Derived.Test.YtfgnepbpfglepaaFD
import Derived.Test.YtfgnepbpfglepaaDm6
import Derived.Test.YtfgnepbpfglepaaDm8
import Derived.Test.YtfgnepbpfglepaaFA
import Derived.Lib.SliceRun
import Derived.Test.YtfgnepbpfglepaaDo3
namespace Go.Proofs.Ytfgnepbpfglepaa
section
open Go.RowKit
set_option linter.unusedVariables false
set_option linter.unusedSimpArgs false

theorem bel_trans {w0 w1 w2 : World} (h : Below w0.heap.size w0 w1) (h2 : Below w1.heap.size w1 w2) : Below w0.heap.size w0 w2 := h.trans (h2.mono h.size)
set_option maxRecDepth 100000 in
set_option maxHeartbeats 4000000 in
theorem lawDomSame_of (hS : ∀ w, Calls Try.prog 7 #[] w (Told (.bool true) w)) (xs ys : List Nd) (a b : Option Addr) (n m c d : Nat) (w : World) (hx : RdN (· < w.heap.size) w a n c xs) (hy : RdN (· < w.heap.size) w b m d ys) :
    Calls Try.prog 3 #[.slice a n c, .slice b m d] w (Told (.bool true) w) := by
  have HX := Lib.hid (fun w' (hb : Below w.heap.size w w') => hx.later hb (Nat.le_refl _))
  have HY := Lib.hid (fun w' (hb : Below w.heap.size w w') => hy.later hb (Nat.le_refl _))
  have HN := Lib.hid hx.1
  clear hx hy
  go_enter Try.func3, Try.ntmps3
  go_wp2_with fail
  refine (hS _).mono ?_
  rintro e1 w1 ⟨rfl, hb1⟩
  go_wp2_with fail
  refine (rgreat_any xs 200 (by omega) a n c w1 (HX.out w1 hb1)).mono ?_
  rintro e2 w2 ⟨v1, rfl, hb2, hv1⟩
  have hb12 := bel_trans hb1 hb2
  rcases v1 with _ | _
  rotate_left
  · clear hv1
    go_wp2
    go_ret
    exact ⟨rfl, hb12⟩
  have hg1 := hv1 rfl
  have HG1 := Lib.hid hg1
  clear hv1 hg1
  go_wp2_with fail
  refine (rgreat_any ys 200 (by omega) b m d w2 (HY.out w2 hb12)).mono ?_
  rintro e3 w3 ⟨v2, rfl, hb3, hv2⟩
  have hb13 := bel_trans hb12 hb3
  rcases v2 with _ | _
  rotate_left
  · clear hv2
    go_wp2
    go_ret
    exact ⟨rfl, hb13⟩
  clear hv2
  go_wp2_with fail
  refine (domSame_any xs ys a b n m c d w3 (HX.out w3 hb13) (HY.out w3 hb13)).mono ?_
  rintro e4 w4 ⟨rfl, hb4⟩
  have hb14 := bel_trans hb13 hb4
  go_wp2_with fail
  refine (rsame_any xs ys a b n m c d w4 (HX.out w4 hb14) (HY.out w4 hb14)).mono ?_
  rintro e5 w5 ⟨rfl, hb5⟩
  have hb15 := bel_trans hb14 hb5
  generalize decide (xs = ys) = r at *
  have hr : (r == r) = true := beq_self_eq_true _
  have hcp := copied_any xs a n c w5 (HX.out w5 hb15) (by rw [HN.out]; exact HG1.out.1) (fun x hx => ⟨(HG1.out.2 x hx).1, (HG1.out.2 x hx).2.1⟩)
  go_wp2_with fail
  refine hcp.mono ?_
  rintro e6 w6 ⟨a6, c6, rfl, hr6, hb6⟩
  have hb16 := bel_trans hb15 hb6
  have hr6' : RdN (· < w6.heap.size) w6 a6 n c6 xs := hr6.move (fun b hb => ⟨by have := hb6.size; omega, rfl⟩)
  have hsm := domSame_any xs xs a a6 n n c c6 w6 (HX.out w6 hb16) hr6'
  rw [decide_eq_true rfl] at hsm
  clear hcp hr6 hr6'
  go_wp2_with fail
  refine hsm.mono ?_
  rintro e7 w7 ⟨rfl, hb7⟩
  go_wp2
  go_ret
  exact ⟨rfl, bel_trans hb16 hb7⟩
end

section
open Go.RowKit
set_option linter.unusedVariables false
set_option linter.unusedSimpArgs false

def CloneA (xs : List At3) (n : Nat) (w : World) (e : Ending) (w' : World) : Prop := ∃ a c, e = .returned (.slice a n c) ∧ RdA (fun b => w.heap.size ≤ b ∧ b < w'.heap.size) w' a n c xs ∧ Below w.heap.size w w'
def CloneS (xs : List ByteArray) (n : Nat) (w : World) (e : Ending) (w' : World) : Prop := ∃ a c, e = .returned (.slice a n c) ∧ RdS (fun b => w.heap.size ≤ b ∧ b < w'.heap.size) w' a n c xs ∧ Below w.heap.size w w'

set_option maxRecDepth 100000 in
set_option maxHeartbeats 2000000 in
theorem cloneA_any (xs : List At3) (a : Option Addr) (n c : Nat) (ok : Nat → Prop) (w : World) (hx : RdA ok w a n c xs) (hok : ∀ b, ok b → b < w.heap.size) (hn : n ≤ 1000000) :
    Calls Try.prog 68 #[.slice a n c] w (CloneA xs n w) := by
  have q22 : ∀ (w : World) (a : Option Addr) (n c n' c' : Nat), (binOp .eql 41 (.slice a n c) (.slice none n' c')).run Try.prog w = .ok (.bool a.isNone) w := fun w a n c n' c' => Lib.run_eql_slice_nil w _ _ a n c n' c' Try.underlying41
  rcases a with _ | ad
  · have hc := hx.2.2.1.2.2 rfl
    have h1 := hx.2.1
    subst hc
    obtain rfl : n = 0 := by omega
    have hxs : xs = [] := List.length_eq_zero_iff.1 hx.1.symm
    subst hxs
    clear hx h1
    go_enter Try.func68, Try.ntmps68
    go_wp2
    go_ret
    exact ⟨none, 0, rfl, RdOf.nil _ _ _ _ _ (by unfold maxLen; omega) (fun _ => rfl), Below.refl _ _⟩
  obtain ⟨iA, hiA, hzA⟩ := Option.map_eq_some_iff.1 TryinfoAttr
  simp only [Prod.mk.injEq] at hzA
  have HIA := Lib.hid (And.intro hiA hzA)
  have hbE := (Below.refl w.heap.size w).alloc (Nat.le_refl _) (.cells #[] 56)
  have hx' := hx.move (ok' := ok) (w' := w.alloc (.cells #[] 56)) (fun b hb => ⟨hb, hbE.block b (hok b hb)⟩)
  obtain ⟨va, hva1, hva2, hva3⟩ := rdOf_vals (w.alloc (.cells #[] 56)) hx' (by decide) (fun b o x h => attrAt_cells h)
  have HO := Lib.hid (owns_emptyN (base := w.heap.size) 3 (heap_alloc_new w (.cells #[] 56)) (Nat.le_refl _))
  have HVA1 := Lib.hid hva1
  have HVA2 := Lib.hid hva2
  have HVA3 := Lib.hid hva3
  have HX := Lib.hid hx'
  have HE := Lib.hid hbE
  have HVR := Lib.hid (vals_weak hva3)
  clear hiA hzA hbE hx hx' hva1 hva2 hva3
  go_enter Try.func68, Try.ntmps68
  go_wp2_with (at_builtin; refine wpList_append_rows rfl _ _ 41 rfl w.heap.size 56 iA _ 3 48 Try.underlying41 HIA.out.1 HIA.out.2.1 rfl (by decide) HIA.out.2.2.1 HIA.out.2.2.2 _ 0 [] rfl HO.out (some ad) n c va HVA1.out rfl HVA2.out HVR.out (fun h => by cases h) (by unfold maxLen; omega) (by omega) (by simp) ?_; intro v5 w5 hown5 hgr5; have hown6 : w5.ownsRow w.heap.size 56 3 v5 n va := (by simpa using hown5); obtain ⟨ad1, cap1, rfl, hR1⟩ := own_attrs HX.out HVA1.out HVA3.out hown6)
  go_ret
  exact ⟨ad1, cap1, rfl, hR1, HE.out.grown hgr5 (by simp) (fun k e => by cases e; exact Nat.le_refl _)⟩

set_option maxRecDepth 100000 in
set_option maxHeartbeats 2000000 in
theorem cloneL_any (xs : List ByteArray) (a : Option Addr) (n c : Nat) (ok : Nat → Prop) (w : World) (hx : RdS ok w a n c xs) (hok : ∀ b, ok b → b < w.heap.size) (hn : n ≤ 1000000) :
    Calls Try.prog 69 #[.slice a n c] w (CloneS xs n w) := by
  have q22 : ∀ (w : World) (a : Option Addr) (n c n' c' : Nat), (binOp .eql 42 (.slice a n c) (.slice none n' c')).run Try.prog w = .ok (.bool a.isNone) w := fun w a n c n' c' => Lib.run_eql_slice_nil w _ _ a n c n' c' Try.underlying42
  rcases a with _ | ad
  · have hc := hx.2.2.1.2.2 rfl
    have h1 := hx.2.1
    subst hc
    obtain rfl : n = 0 := by omega
    have hxs : xs = [] := List.length_eq_zero_iff.1 hx.1.symm
    subst hxs
    clear hx h1
    go_enter Try.func69, Try.ntmps69
    go_wp2
    go_ret
    exact ⟨none, 0, rfl, RdOf.nil _ _ _ _ _ (by unfold maxLen; omega) (fun _ => rfl), Below.refl _ _⟩
  obtain ⟨iA, hiA, hzA⟩ := Option.map_eq_some_iff.1 TryinfoStr
  simp only [Prod.mk.injEq] at hzA
  have HIA := Lib.hid (And.intro hiA hzA)
  have hbE := (Below.refl w.heap.size w).alloc (Nat.le_refl _) (.cells #[] 9)
  have hx' := hx.move (ok' := ok) (w' := w.alloc (.cells #[] 9)) (fun b hb => ⟨hb, hbE.block b (hok b hb)⟩)
  obtain ⟨va, hva1, hva2, hva3⟩ := rdOf_vals (w.alloc (.cells #[] 9)) hx' (by decide) (fun b o x h => strAt_cells h)
  have HO := Lib.hid (owns_emptyN (base := w.heap.size) 1 (heap_alloc_new w (.cells #[] 9)) (Nat.le_refl _))
  have HVA1 := Lib.hid hva1
  have HVA2 := Lib.hid hva2
  have HVA3 := Lib.hid hva3
  have HX := Lib.hid hx'
  have HE := Lib.hid hbE
  have HVR := Lib.hid (vals_weak hva3)
  clear hiA hzA hbE hx hx' hva1 hva2 hva3
  go_enter Try.func69, Try.ntmps69
  go_wp2_with (at_builtin; refine wpList_append_rows rfl _ _ 42 rfl w.heap.size 9 iA _ 1 16 Try.underlying42 HIA.out.1 HIA.out.2.1 rfl (by decide) HIA.out.2.2.1 HIA.out.2.2.2 _ 0 [] rfl HO.out (some ad) n c va HVA1.out rfl HVA2.out HVR.out (fun h => by cases h) (by unfold maxLen; omega) (by omega) (by simp) ?_; intro v5 w5 hown5 hgr5; have hown6 : w5.ownsRow w.heap.size 9 1 v5 n va := (by simpa using hown5); obtain ⟨ad1, cap1, rfl, hR1⟩ := own_strs HX.out HVA1.out HVA3.out hown6)
  go_ret
  exact ⟨ad1, cap1, rfl, hR1, HE.out.grown hgr5 (by simp) (fun k e => by cases e; exact Nat.le_refl _)⟩

/-- A node as it is told: with lists of its own. -/
def NodeP (xs : List Nd) (p : Int) (w : World) (e : Ending) (w' : World) : Prop :=
  (atI xs p = none ∧ e = .returned (.tuple #[.agg #[.int .i64 0, .int .i64 0, .string ⟨#[]⟩, .string ⟨#[]⟩, .slice none 0 0, .slice none 0 0, .string ⟨#[]⟩], .bool false]) ∧ Below w.heap.size w w') ∨
  (∃ x a n c a' n' c', atI xs p = some x ∧ e = .returned (.tuple #[.agg #[.int .i64 x.par, .int .i64 x.kind, .string x.space, .string x.name, .slice a n c, .slice a' n' c', .string x.text], .bool true]) ∧
    RdA (· < w'.heap.size) w' a n c x.attrs ∧ RdS (· < w'.heap.size) w' a' n' c' x.states ∧ Below w.heap.size w w')

set_option maxRecDepth 100000 in
set_option maxHeartbeats 4000000 in
theorem node_any {w : World} {B t b r n : Nat} {xs : List Nd} (h : TreeAt w B t b r n xs) (hsm : ∀ x ∈ xs, x.attrs.length ≤ 1000000 ∧ x.states.length ≤ 1000000) (p : Int) :
    Calls Try.prog 37 #[.pointer (some ⟨t, 0, none⟩), .int .i64 p] w (NodeP xs p w) := by
  have HT := Lib.hid h
  have HSM := Lib.hid hsm
  obtain ⟨w0, hw0⟩ : ∃ w0, w.alloc (.cells #[.int .i64 0, .int .i64 0, .string ⟨#[]⟩, .string ⟨#[]⟩, .slice none 0 0, .slice none 0 0, .string ⟨#[]⟩] 44) = w0 := ⟨_, rfl⟩
  have R0 : Blk w0 w.heap.size (ndCells 0 0 ⟨#[]⟩ ⟨#[]⟩ (.slice none 0 0) (.slice none 0 0) ⟨#[]⟩) 44 := by rw [← hw0]; exact Blk.alloc _ _
  have hb0 : Below w.heap.size w w0 := by rw [← hw0]; exact (Below.refl _ _).alloc (Nat.le_refl _) _
  have T0 := h.later (show Below w.heap.size w w0 from hb0)
  have f0 := has_any T0 p
  have HR0 := Lib.hid R0
  have HB0 := Lib.hid hb0
  clear h hsm hb0 R0
  rcases atI_cases xs p with ⟨k, x, rfl, hx, hk, ha⟩ | ⟨ha, hp⟩
  · rw [ha] at f0
    have hXM := List.mem_of_getElem? hx
    have hs := HSM.out x hXM
    have hX := Lib.hid hx
    rw [← HT.out.doc.1] at hk
    have HA := Lib.hid ha
    have h1 : (0 : Int) ≤ (k : Int) := by omega
    have h2 : (k : Int) < (n : Int) := by omega
    dsimp only [Option.isSome] at f0
    clear hx ha T0 hXM
    go_enter Try.func37, Try.ntmps37
    go_wp2_with (first | (go_at_call 67; (refine f0.mono ?_); rintro e w1 ⟨rfl, hb1⟩; have hb01 := HB0.out.trans (hb1.mono HB0.out.size); have T1 := HT.out.later hb01; have R1 := HR0.out.later hb1 HR0.out.lt; have c0 := T1.cells.cell 0 _ rfl; obtain ⟨x0, x1, x2, x3, ⟨a1, n1, c1, x4, hA1⟩, ⟨a2, n2, c2, x5, hS1⟩, x6, _⟩ := T1.node hX.out; obtain ⟨w2, hw2⟩ : ∃ w2, w1.alloc (.cells #[.int .i64 x.par, .int .i64 x.kind, .string x.space, .string x.name, .slice a1 n1 c1, .slice a2 n2 c2, .string x.text] 44) = w2 := ⟨_, rfl⟩; have HA1 := Lib.hid hA1; have HS1 := Lib.hid hS1; have HB1 := Lib.hid hb01; have HR1 := Lib.hid R1; have HW2 := Lib.hid hw2; clear T1 hA1 hS1 R1 hb01))
    clear x0 x1 x2 x3 x4 x5 x6 c0 f0 hb1
    have B2 : Blk w2 w1.heap.size (ndCells x.par x.kind x.space x.name (.slice a1 n1 c1) (.slice a2 n2 c2) x.text) 44 := by rw [← HW2.out]; exact Blk.alloc _ _
    have hb2 : Below w1.heap.size w1 w2 := by rw [← HW2.out]; exact (Below.refl _ _).alloc (Nat.le_refl _) _
    have R2 := HR1.out.later hb2 HR1.out.lt
    have hsz2 : Hid (w2.heap.size = w1.heap.size + 1) := Lib.hid (by rw [← HW2.out]; simp)
    have hbD := (HB1.out.trans (hb2.mono HB1.out.size)).drew
    have hb2D := hb2.drew
    have HC2 := Lib.hid (B2.drewN 1)
    have HR2 := Lib.hid (R2.drewN 1)
    have C4 : w2.drew.cell? ⟨w1.heap.size, 4, none⟩ = some (.slice a1 n1 c1) := (B2.drewN 1).cell 4 _ rfl
    have C5 : w2.drew.cell? ⟨w1.heap.size, 5, none⟩ = some (.slice a2 n2 c2) := (B2.drewN 1).cell 5 _ rfl
    have fA := cloneA_any x.attrs a1 n1 c1 (fun bl => B ≤ bl ∧ bl < w1.heap.size) w2.drew (HA1.out.move (fun b hb => ⟨hb, hb2D.block b hb.2⟩)) (fun b hb => Nat.lt_of_lt_of_le hb.2 hb2D.size) (by rw [HA1.out.1]; exact hs.1)
    have fS := fun w' (hb : Below w1.heap.size w1 w') => cloneL_any x.states a2 n2 c2 (fun bl => B ≤ bl ∧ bl < w1.heap.size) w' (HS1.out.move (fun b h => ⟨h, hb.block b h.2⟩)) (fun b h => Nat.lt_of_lt_of_le h.2 hb.size) (by rw [HS1.out.1]; exact hs.2)
    have HD := Lib.hid hbD
    have HD2 := Lib.hid hb2D
    clear B2 R2 hbD hb2D hb2 hs
    go_region_with (first
      | ((go_at_call 68); (with_reducible refine fA.mono ?_); rintro e w6 ⟨gA, kA, rfl, hrA, hb6⟩; have D6 := Blk.later HC2.out hb6 HC2.out.lt; have Y6 := Blk.later HR2.out hb6 HR2.out.lt; have e4 := D6.cell 4 _ rfl; have e5 := D6.cell 5 _ rfl; have hB6 := HD.out.trans (hb6.mono HD.out.size); have hB62 := HD2.out.trans (hb6.mono HD2.out.size); have fS6 := fS _ hB62; have HRA := Lib.hid hrA)
      | ((go_at_call 69); (with_reducible refine fS6.mono ?_); rintro e w7 ⟨gS, kS, rfl, hrS, hb7⟩; have D7 := D6.later hb7 D6.lt; have Y7 := Y6.later hb7 Y6.lt; have k4 := D7.cell 4 _ rfl; have k5 := D7.cell 5 _ rfl; have j4 := D7.frozen 4; have j5 := D7.frozen 5; have HRS := Lib.hid hrS))
    all_goals
      have hlw : Hid (w.heap.size < w1.heap.size) := Lib.hid (HR1.out.lt)
      have hl2 : Hid (w2.drew.heap.size = w1.heap.size + 1) := hsz2
      have Z7 := D7.set45 (.slice gA n1 kA) (.slice gS n2 kS)
      have Y9 := (Y7.kept (grown_setCell w7 w1.heap.size 4 (.slice gA n1 kA)) (by intro h; have := Option.some.inj h; have := hlw.out; omega)).kept (grown_setCell _ w1.heap.size 5 (.slice gS n2 kS)) (by intro h; have := Option.some.inj h; have := hlw.out; omega)
      have hB7 := hB6.trans (hb7.mono hB6.size)
      have hB9 := (hB7.setCell (p := ⟨w1.heap.size, 4, none⟩) (Nat.le_of_lt hlw.out) (.slice gA n1 kA)).setCell (p := ⟨w1.heap.size, 5, none⟩) (Nat.le_of_lt hlw.out) (.slice gS n2 kS)
      have hK9 : Hid (∀ b, b ≠ w1.heap.size → ((w7.setCell ⟨w1.heap.size, 4, none⟩ (.slice gA n1 kA)).setCell ⟨w1.heap.size, 5, none⟩ (.slice gS n2 kS)).heap[b]? = w7.heap[b]?) := Lib.hid (fun b hb => by rw [heap_set hb, heap_set hb])
      have hZ9 : Hid (((w7.setCell ⟨w1.heap.size, 4, none⟩ (.slice gA n1 kA)).setCell ⟨w1.heap.size, 5, none⟩ (.slice gS n2 kS)).heap.size = w7.heap.size) := Lib.hid (by rw [size_set, size_set])
      have Hb6 := Lib.hid hb6
      have Hb7 := Lib.hid hb7
      clear D6 D7 Y6 Y7 e4 e5 k4 k5 j4 j5 fS6 hb6 hb7 hrA hrS hB6 hB7 C4 C5 fA fS
      generalize hW9 : (w7.setCell ⟨w1.heap.size, 4, none⟩ (.slice gA n1 kA)).setCell ⟨w1.heap.size, 5, none⟩ (.slice gS n2 kS) = W9 at *
      clear hW9
      have z0 := Z7.cell 0 _ rfl
      have z1 := Z7.cell 1 _ rfl
      have z2 := Z7.cell 2 _ rfl
      have z3 := Z7.cell 3 _ rfl
      have z4 := Z7.cell 4 _ rfl
      have z5 := Z7.cell 5 _ rfl
      have z6 := Z7.cell 6 _ rfl
      have y0 := Y9.cell 0 _ rfl
      have y1 := Y9.cell 1 _ rfl
      have y2 := Y9.cell 2 _ rfl
      have y3 := Y9.cell 3 _ rfl
      have y4 := Y9.cell 4 _ rfl
      have y5 := Y9.cell 5 _ rfl
      have y6 := Y9.cell 6 _ rfl
      have g0 := Y9.frozen 0
      have g1 := Y9.frozen 1
      have g2 := Y9.frozen 2
      have g3 := Y9.frozen 3
      have g4 := Y9.frozen 4
      have g5 := Y9.frozen 5
      have g6 := Y9.frozen 6
      have F9 : Blk (setNd W9 w.heap.size 0 x.par x.kind x.space x.name (.slice gA n1 kA) (.slice gS n2 kS) x.text) w.heap.size (ndCells x.par x.kind x.space x.name (.slice gA n1 kA) (.slice gS n2 kS) x.text) 44 := setNd_blk Y9
      have r0 := F9.cell 0 _ rfl
      have r1 := F9.cell 1 _ rfl
      have r2 := F9.cell 2 _ rfl
      have r3 := F9.cell 3 _ rfl
      have r4 := F9.cell 4 _ rfl
      have r5 := F9.cell 5 _ rfl
      have r6 := F9.cell 6 _ rfl
      have hBF := setNd_below (o := 0) (p := x.par) (k := x.kind) (s := x.space) (nm := x.name) (t := x.text) (v4 := .slice gA n1 kA) (v5 := .slice gS n2 kS) hB9 (Nat.le_refl w.heap.size)
      have HBF := Lib.hid hBF
      clear hB9 hBF F9
      go_wp2
      change bodyPost _ _ _ _ _ (setNd W9 w.heap.size 0 x.par x.kind x.space x.name (.slice gA n1 kA) (.slice gS n2 kS) x.text)
      refine bodyPost_ret (v := .tuple #[.agg #[.int .i64 x.par, .int .i64 x.kind, .string x.space, .string x.name, .slice gA n1 kA, .slice gS n2 kS, .string x.text], .bool true]) (by simp [results, Try.results37, go_sem, r0, r1, r2, r3, r4, r5, r6]) rfl (.inr ⟨x, gA, n1, kA, gS, n2, kS, HA.out, rfl, ?_, ?_, HBF.out⟩)
      · exact HRA.out.move (fun b hb => ⟨by rw [setNd_size, hZ9.out]; have := hb.2; have := Hb7.out.size; omega, by
          have h1 := hl2.out
          have h2 := hb.1
          have h3 := hlw.out
          rw [setNd_old (by omega), hK9.out b (by omega), Hb7.out.block b hb.2]⟩)
      · exact HRS.out.move (fun b hb => ⟨by rw [setNd_size, hZ9.out]; exact hb.2, by
          have h1 := hl2.out
          have h2 := hb.1
          have h3 := Hb6.out.size
          have h4 := hlw.out
          rw [setNd_old (by omega), hK9.out b (by omega)]⟩)
  · rw [ha] at f0
    have HA := Lib.hid ha
    dsimp only [Option.isSome] at f0
    have HZ := Lib.hid (And.intro T0 hp)
    clear ha T0 hp
    go_enter Try.func37, Try.ntmps37
    go_wp2_with (first | (go_at_call 67; (refine f0.mono ?_); rintro e w1 ⟨rfl, hb1⟩; have R1 := HR0.out.later hb1 HR0.out.lt; have y0 := R1.cell 0 _ rfl; have y1 := R1.cell 1 _ rfl; have y2 := R1.cell 2 _ rfl; have y3 := R1.cell 3 _ rfl; have y4 := R1.cell 4 _ rfl; have y5 := R1.cell 5 _ rfl; have y6 := R1.cell 6 _ rfl; have g0 := R1.frozen 0; have g1 := R1.frozen 1; have g2 := R1.frozen 2; have g3 := R1.frozen 3; have g4 := R1.frozen 4; have g5 := R1.frozen 5; have g6 := R1.frozen 6))
    have F9 : Blk (setNd w1 w.heap.size 0 0 0 ⟨#[]⟩ ⟨#[]⟩ (.slice none 0 0) (.slice none 0 0) ⟨#[]⟩) w.heap.size (ndCells 0 0 ⟨#[]⟩ ⟨#[]⟩ (.slice none 0 0) (.slice none 0 0) ⟨#[]⟩) 44 := setNd_blk R1
    have r0 := F9.cell 0 _ rfl
    have r1 := F9.cell 1 _ rfl
    have r2 := F9.cell 2 _ rfl
    have r3 := F9.cell 3 _ rfl
    have r4 := F9.cell 4 _ rfl
    have r5 := F9.cell 5 _ rfl
    have r6 := F9.cell 6 _ rfl
    have hBF := setNd_below (o := 0) (p := 0) (k := 0) (s := ⟨#[]⟩) (nm := ⟨#[]⟩) (t := ⟨#[]⟩) (v4 := .slice none 0 0) (v5 := .slice none 0 0) (HB0.out.trans (hb1.mono HB0.out.size)) (Nat.le_refl w.heap.size)
    change bodyPost _ _ _ _ _ (setNd w1 w.heap.size 0 0 0 ⟨#[]⟩ ⟨#[]⟩ (.slice none 0 0) (.slice none 0 0) ⟨#[]⟩)
    refine bodyPost_ret (v := .tuple #[.agg #[.int .i64 0, .int .i64 0, .string ⟨#[]⟩, .string ⟨#[]⟩, .slice none 0 0, .slice none 0 0, .string ⟨#[]⟩], .bool false]) (by simp [results, Try.results37, go_sem, r0, r1, r2, r3, r4, r5, r6]) rfl (.inl ⟨HA.out, rfl, hBF⟩)
end

section
open Go.RowKit
set_option linter.unusedVariables false
set_option linter.unusedSimpArgs false

/-- A block that may be written. -/
def Plain (w : World) (b : Nat) : Prop := ∃ cs T, Blk w b cs T
theorem Plain.move {w w' : World} {b : Nat} (h : Plain w b) (hm : w'.heap[b]? = w.heap[b]?) : Plain w' b := by
  obtain ⟨cs, T, h⟩ := h
  exact ⟨cs, T, hm.trans h⟩
/-- Where the parts of the copy lie. -/
def NewB (lo g : Nat) (w : World) (b : Nat) : Prop := lo ≤ b ∧ b < w.heap.size ∧ b ≠ g ∧ Plain w b
theorem NewB.move {lo g : Nat} {w w' : World} {b : Nat} (h : NewB lo g w b) (hs : w.heap.size ≤ w'.heap.size) (hm : w'.heap[b]? = w.heap[b]?) : NewB lo g w' b := ⟨h.1, Nat.lt_of_lt_of_le h.2.1 hs, h.2.2.1, h.2.2.2.move hm⟩

theorem RdOf.impA {α : Type} {ok ok' : Nat → Prop} {sz : Nat} {P : Nat → Nat → α → Prop} {a : Option Addr} {n c : Nat} {xs : List α} (h : RdOf ok sz P a n c xs) (ho : xs ≠ [] → ∀ b off, a = some ⟨b, off, none⟩ → ok b → ok' b) : RdOf ok' sz P a n c xs := by
  obtain ⟨h1, h2, h3, h4⟩ := h
  refine ⟨h1, h2, h3, ?_⟩
  by_cases he : xs = []
  · exact .inl he
  · obtain ⟨b, off, ha, hb, hi⟩ := h4.resolve_left he
    exact .inr ⟨b, off, ha, ho he b off ha hb, hi⟩
theorem own_plain {w : World} {base : Nat} {e : TypeId} {sz : Nat} {n cap : Nat} {ad : Option Addr} {vs : List Value} {b off : Nat} (h : w.ownsRow base e sz (.slice ad n cap) n vs) (hn : 0 < n) (ha : ad = some ⟨b, off, none⟩) : Plain w b := by
  obtain ⟨g, cap', cs, hv', hb, hB, _⟩ := own_get h hn
  subst ha
  cases hv'
  exact ⟨cs, e, hB⟩
theorem own_strs2 {w w' : World} {base : Nat} {e : TypeId} {v : Value} {ok : Nat → Prop} {a : Option Addr} {n c : Nat} {xs : List ByteArray} {vs : List Value} (h : RdS ok w a n c xs) (hl : vs.length = n * 1)
    (hv : n = 0 ∨ ∃ b off, a = some ⟨b, off, none⟩ ∧ ok b ∧ (∀ j u, vs[j]? = some u → w.cell? ⟨b, off + j, none⟩ = some u) ∧ ∀ i x, xs[i]? = some x → StrAt w b (off + i * 1) x)
    (ho : w'.ownsRow base e 1 v n vs) : ∃ ad cap, v = .slice ad n cap ∧ RdS (fun b => base ≤ b ∧ b < w'.heap.size ∧ Plain w' b) w' ad n cap xs := by
  obtain ⟨ad, cap, rfl, hr⟩ := own_strs h hl hv ho
  exact ⟨ad, cap, rfl, RdOf.impA hr (fun hne b off ha hb => ⟨hb.1, hb.2, own_plain ho (by rw [hr.1]; exact List.length_pos_iff.2 hne) ha⟩)⟩
theorem own_attrs2 {w w' : World} {base : Nat} {e : TypeId} {v : Value} {ok : Nat → Prop} {a : Option Addr} {n c : Nat} {xs : List At3} {vs : List Value} (h : RdA ok w a n c xs) (hl : vs.length = n * 3)
    (hv : n = 0 ∨ ∃ b off, a = some ⟨b, off, none⟩ ∧ ok b ∧ (∀ j u, vs[j]? = some u → w.cell? ⟨b, off + j, none⟩ = some u) ∧ ∀ i x, xs[i]? = some x → AttrAt w b (off + i * 3) x)
    (ho : w'.ownsRow base e 3 v n vs) : ∃ ad cap, v = .slice ad n cap ∧ RdA (fun b => base ≤ b ∧ b < w'.heap.size ∧ Plain w' b) w' ad n cap xs := by
  obtain ⟨ad, cap, rfl, hr⟩ := own_attrs h hl hv ho
  exact ⟨ad, cap, rfl, RdOf.impA hr (fun hne b off ha hb => ⟨hb.1, hb.2, own_plain ho (by rw [hr.1]; exact List.length_pos_iff.2 hne) ha⟩)⟩

/-- A document copied: the row of nodes is a block of its own, all its lists lie in new blocks that may be written. -/
def CopyQ (xs : List Nd) (n : Nat) (w : World) (e : Ending) (w' : World) : Prop := ∃ g cap cs, e = .returned (.slice (some ⟨g, 0, none⟩) n cap) ∧ w.heap.size ≤ g ∧ Blk w' g cs 44 ∧ n ≤ cap ∧ cap ≤ maxLen ∧ cs.length = cap * 7 ∧
  (∀ i x, xs[i]? = some x → NdC (NewB w.heap.size g w') w' cs (i * 7) x) ∧ Below w.heap.size w w'

/-- What is known of all nodes, when one's lists have been written over by lists that read the same. -/
theorem copy_end2 {W0 wr w6 w9 : World} {g k n1 n2 c1 c2 lo : Nat} {cs : List Value} {xs : List Nd} {x : Nd} {ad1 ad2 : Option Addr} (hl : k * 7 + 5 < cs.length) (hx : xs[k]? = some x)
    (hlo : lo = W0.heap.size) (hW : Below lo W0 wr) (hg : lo ≤ g) (hgl : g < wr.heap.size) (h69 : w6.heap.size < w9.heap.size) (hr6 : wr.heap.size < w6.heap.size)
    (hN : ∀ i x, xs[i]? = some x → (i < k → NdC (NewB lo g wr) wr cs (i * 7) x) ∧ (k ≤ i → NdC (· < lo) wr cs (i * 7) x))
    (h1 : ∀ b, b < wr.heap.size → b ≠ g → w6.heap[b]? = wr.heap[b]?) (h2 : ∀ b, b < w6.heap.size → b ≠ g → w9.heap[b]? = w6.heap[b]?)
    (hA : RdA (fun b => wr.heap.size ≤ b ∧ b < w6.heap.size ∧ Plain w6 b) w6 ad1 n1 c1 x.attrs) (hS : RdS (fun b => w6.heap.size ≤ b ∧ b < w9.heap.size ∧ Plain w9 b) w9 ad2 n2 c2 x.states) :
    ∀ i x, xs[i]? = some x → (i < k + 1 → NdC (NewB lo g w9) w9 ((cs.set (k * 7 + 4) (.slice ad1 n1 c1)).set (k * 7 + 5) (.slice ad2 n2 c2)) (i * 7) x) ∧ (k + 1 ≤ i → NdC (· < lo) w9 ((cs.set (k * 7 + 4) (.slice ad1 n1 c1)).set (k * 7 + 5) (.slice ad2 n2 c2)) (i * 7) x) := by
  intro i y hy
  have hlw : lo ≤ wr.heap.size := by rw [hlo]; exact hW.size
  have h12 : ∀ b, b < wr.heap.size → b ≠ g → w9.heap[b]? = wr.heap[b]? := fun b hb hbg => (h2 b (by omega) hbg).trans (h1 b hb hbg)
  have hold : ∀ b, b < lo → b < lo ∧ w9.heap[b]? = wr.heap[b]? := fun b hb => ⟨hb, h12 b (by omega) (by omega)⟩
  have hnew : ∀ b, NewB lo g wr b → NewB lo g w9 b ∧ w9.heap[b]? = wr.heap[b]? := fun b hb => ⟨hb.move (by omega) (h12 b hb.2.1 hb.2.2.1), h12 b hb.2.1 hb.2.2.1⟩
  constructor
  · intro hi
    by_cases he : i = k
    · subst he
      rw [hx] at hy; cases hy
      have hm : NdC (fun b => b < lo) w9 cs (i * 7) x := ((hN i x hx).2 (Nat.le_refl _)).move hold
      have hA9 : RdA (NewB lo g w9) w9 ad1 n1 c1 x.attrs := hA.move (fun b hb => ⟨⟨by omega, by omega, by omega, hb.2.2.move (h2 b hb.2.1 (by omega))⟩, h2 b hb.2.1 (by omega)⟩)
      have hS9 : RdS (NewB lo g w9) w9 ad2 n2 c2 x.states := hS.move (fun b hb => ⟨⟨by omega, hb.2.1, by omega, hb.2.2⟩, rfl⟩)
      obtain ⟨p0, p1, p2, p3, _, _, p6, p7⟩ := hm
      have hne : ∀ f, f < 7 → f ≠ 4 → f ≠ 5 → ((cs.set (i * 7 + 4) (.slice ad1 n1 c1)).set (i * 7 + 5) (.slice ad2 n2 c2))[i * 7 + f]? = cs[i * 7 + f]? := fun f _ h4 h5 => by rw [List.getElem?_set_ne (by omega), List.getElem?_set_ne (by omega)]
      exact ⟨(hne 0 (by omega) (by omega) (by omega)).trans p0, (hne 1 (by omega) (by omega) (by omega)).trans p1, (hne 2 (by omega) (by omega) (by omega)).trans p2, (hne 3 (by omega) (by omega) (by omega)).trans p3,
        ⟨ad1, n1, c1, by rw [List.getElem?_set_ne (by omega), List.getElem?_set_self (by omega)], hA9⟩, ⟨ad2, n2, c2, by rw [List.getElem?_set_self (by rw [List.length_set]; omega)], hS9⟩, (hne 6 (by omega) (by omega) (by omega)).trans p6, p7⟩
    · have hm : NdC (NewB lo g w9) w9 cs (i * 7) y := ((hN i y hy).1 (by omega)).move hnew
      exact (hm.set4 (by omega) (fun e => absurd e he)).set5 (by rw [List.length_set]; omega) (fun e => absurd e he)
  · intro hi
    have hm : NdC (fun b => b < lo) w9 cs (i * 7) y := ((hN i y hy).2 (by omega)).move hold
    exact (hm.set4 (by omega) (fun e => by omega)).set5 (by rw [List.length_set]; omega) (fun e => by omega)

set_option maxRecDepth 100000 in
set_option maxHeartbeats 8000000 in
theorem copied2_any (xs : List Nd) (a : Option Addr) (n c : Nat) (w : World) (hx : RdN (· < w.heap.size) w a n c xs) (hn : n ≤ 200) (hpos : 0 < n) (hsm : ∀ x ∈ xs, x.attrs.length ≤ 20 ∧ x.states.length ≤ 20) :
    Calls Try.prog 11 #[.slice a n c] w (CopyQ xs n w) := by
  obtain ⟨iN, hiN, hzN⟩ := Option.map_eq_some_iff.1 TryinfoNode
  obtain ⟨iA, hiA, hzA⟩ := Option.map_eq_some_iff.1 TryinfoAttr
  obtain ⟨iS, hiS, hzS⟩ := Option.map_eq_some_iff.1 TryinfoStr
  simp only [Prod.mk.injEq] at hzN hzA hzS
  have HIN := Lib.hid (And.intro hiN hzN)
  have HIA := Lib.hid (And.intro hiA hzA)
  have HIS := Lib.hid (And.intro hiS hzS)
  clear hiN hzN hiA hzA hiS hzS
  obtain ⟨vs, hvl, hvo, hv⟩ := rdOf_vals w hx (by decide) (fun b o x h => nodeAt_cells h)
  have HX := Lib.hid hx
  have HVL := Lib.hid hvl
  have HVO := Lib.hid hvo
  have HV := Lib.hid hv
  have HSM := Lib.hid hsm
  have HN := Lib.hid hx.1
  have HNL := Lib.hid hx.2.2.1.2.2
  have hbE := (Below.refl w.heap.size w).alloc (Nat.le_refl _) (.cells #[] 44)
  have HE := Lib.hid hbE
  have HO := Lib.hid (owns_emptyN (base := w.heap.size) 7 (heap_alloc_new w (.cells #[] 44)) (Nat.le_refl _))
  have HR0 := Lib.hid (show n = 0 ∨ ∃ b off, a = some ⟨b, off, none⟩ ∧ ∀ (j : Nat) (u : Value), vs[j]? = some u → (w.alloc (.cells #[] 44)).cell? ⟨b, off + j, none⟩ = some u from hv.imp id (fun ⟨b, off, h1, h2, h3, _⟩ => ⟨b, off, h1, fun j u hu => (hbE.cell (p := ⟨b, off + j, none⟩) h2).trans (h3 j u hu)⟩))
  clear hx hvl hvo hv hsm hbE
  go_enter Try.func11, Try.ntmps11
  go_wp2_with (at_builtin; refine wpList_append_rows rfl _ _ 22 rfl w.heap.size 44 iN _ 7 112 Try.underlying22 HIN.out.1 HIN.out.2.1 rfl (by decide) HIN.out.2.2.1 HIN.out.2.2.2 _ 0 [] rfl HO.out a n c vs HVL.out rfl HVO.out HR0.out HNL.out (by unfold maxLen; omega) (by omega) (by simp) ?_; intro v4 w4 hown4 hgr4; have HO4 := Lib.hid hown4; have HE4 := Lib.hid (show Below w.heap.size w w4 from HE.out.grown hgr4 (by simp) (fun k e => by cases e; exact Nat.le_refl _)); have hown5 : w4.ownsRow w.heap.size 44 7 v4 n vs := (by simpa using hown4); obtain ⟨g, cap, cs0, rfl, hg, hB4, hc1, hc2, hc3, hnd⟩ := own_nodes (ok := (· < w.heap.size)) (ok' := (· < w.heap.size)) HX.out HVL.out hpos HV.out (fun b hb => ⟨hb, HE4.out.block b hb⟩) hown5; have hcapm : cap ≤ 9223372036854775807 := hc2; have hnm : n ≤ 9223372036854775807 := Nat.le_trans hc1 hc2)
  have HND0 := Lib.hid (show ∀ i x, xs[i]? = some x → (i < 0 → NdC (NewB w.heap.size g w4) w4 cs0 (i * 7) x) ∧ (0 ≤ i → NdC (· < w.heap.size) w4 cs0 (i * 7) x) from fun i x h => ⟨fun h0 => by omega, fun _ => hnd i x h⟩)
  clear hnd HO4 HE HO HR0
  go_loopw [10] (fun i wr => ∃ (k : Nat) (cs : List Value), k ≤ n ∧ i = .int .i64 k ∧ Hid (Blk wr g cs 44) ∧ Hid (cs.length = cap * 7) ∧ Hid (∀ i x, xs[i]? = some x → (i < k → NdC (NewB w.heap.size g wr) wr cs (i * 7) x) ∧ (k ≤ i → NdC (· < w.heap.size) wr cs (i * 7) x)) ∧ Hid (Below w.heap.size w wr)) (fun i _ => n - (intOf i).toNat)
  case atStart => exact ⟨0, cs0, Nat.zero_le _, rfl, Lib.hid hB4, Lib.hid hc3, HND0, HE4⟩
  case round =>
    obtain ⟨k, cs, hk, rfl, HB, HL, HND, HW⟩ := hrel
    by_cases hlt : k < n
    · obtain ⟨x, hxk⟩ : ∃ x, xs[k]? = some x := ⟨_, List.getElem?_eq_getElem (by rw [← HN.out]; exact hlt)⟩
      obtain ⟨b, off, rfl, hb, _, _, _, _, ⟨a1, n1, c1, x4, hA1⟩, ⟨a2, n2, c2, x5, hS1⟩, _⟩ := HX.out.at k x hxk
      have hsx := HSM.out x (List.mem_of_getElem? hxk)
      have hn1 : n1 ≤ 20 := by rw [hA1.1]; exact hsx.1
      have hn2 : n2 ≤ 20 := by rw [hS1.1]; exact hsx.2
      have hkI : (0 : Int) ≤ (k : Int) := by omega
      have hkI2 : (k : Int) < (n : Int) := by omega
      have hkc : (k : Int) < (cap : Int) := by omega
      have hgl := HB.out.lt
      have hwg : w.heap.size ≤ wr.heap.size := HW.out.size
      -- the world with the first empty row
      have hb1 := HW.out.alloc hwg (.cells #[] 56)
      have hx4 : (wr.alloc (.cells #[] 56)).cell? ⟨b, off + k * 7 + 4, none⟩ = some (.slice a1 n1 c1) := (hb1.cell (p := ⟨b, off + k * 7 + 4, none⟩) hb).trans x4
      have hA1' := hA1.move (ok' := (· < w.heap.size)) (w' := wr.alloc (.cells #[] 56)) (fun bl h => ⟨h, hb1.block bl h⟩)
      obtain ⟨va, hva1, hva2, hva3⟩ := rdOf_vals (wr.alloc (.cells #[] 56)) hA1' (by decide) (fun b o x h => attrAt_cells h)
      have HO1 := Lib.hid (owns_emptyN (base := wr.heap.size) 3 (heap_alloc_new wr (.cells #[] 56)) (Nat.le_refl _))
      have hBA := HB.out.alloc_old (.cells #[] 56)
      have HBA := Lib.hid hBA
      have HVA1 := Lib.hid hva1
      have HVA2 := Lib.hid hva2
      have HVA3 := Lib.hid hva3
      have HA1 := Lib.hid hA1'
      have HSS := Lib.hid hS1
      have HXK := Lib.hid hxk
      have HB1 := Lib.hid hb1
      have HVR := Lib.hid (show n1 = 0 ∨ ∃ b off, a1 = some ⟨b, off, none⟩ ∧ ∀ (j : Nat) (u : Value), va[j]? = some u → (wr.alloc (.cells #[] 56)).cell? ⟨b, off + j, none⟩ = some u from hva3.imp id (fun ⟨b, off, h1, _, h3, _⟩ => ⟨b, off, h1, h3⟩))
      have HNL1 := Lib.hid hA1'.2.2.1.2.2
      have HNL2 := Lib.hid hS1.2.2.1.2.2
      have HX5 := Lib.hid x5
      have hkl : k * 7 + 5 < cs.length := by rw [HL.out]; omega
      have HKL := Lib.hid hkl
      clear hxk hsx hA1 hS1 x4 x5 hb1 hA1' hva1 hva2 hva3 hBA hkl
      go_wp2_with (first
        | (at_builtin; refine wpList_append_rows rfl _ _ 41 rfl wr.heap.size 56 iA _ 3 48 Try.underlying41 HIA.out.1 HIA.out.2.1 rfl (by decide) HIA.out.2.2.1 HIA.out.2.2.2 _ 0 [] rfl HO1.out a1 n1 c1 va HVA1.out rfl HVA2.out HVR.out HNL1.out (by unfold maxLen; omega) (by omega) (by simp) ?_; intro v5 w5 hown5 hgr5; have hown6 : w5.ownsRow wr.heap.size 56 3 v5 n1 va := (by simpa using hown5); obtain ⟨ad1, cap1, rfl, hR1⟩ := own_attrs2 HA1.out HVA1.out HVA3.out hown6; have hF := copy_step (T3 := 9) (i4 := k * 7 + 4) HB.out (show k * 7 + 4 < cs.length from Nat.lt_trans (by omega) HKL.out) HW.out hg hgr5 (.slice ad1 n1 cap1); obtain ⟨o4, s4, f4, hB6, hb6, hb7, hz6, ho7, hk6, hs6⟩ := hF; have x5' := (hb7.cell (p := ⟨b, off + k * 7 + 5, none⟩) hb).trans HX5.out; have hS7 := HSS.out.move (ok' := (· < w.heap.size)) (w' := ((w5.setCell ⟨g, k * 7 + 4, none⟩ (.slice ad1 n1 cap1)).alloc (.cells #[] 9))) (fun bl h => ⟨h, hb7.block bl h⟩); obtain ⟨ub, hub1, hub2, hub3⟩ := rdOf_vals ((w5.setCell ⟨g, k * 7 + 4, none⟩ (.slice ad1 n1 cap1)).alloc (.cells #[] 9)) hS7 (by decide) (fun b o x h => strAt_cells h); have HO7 := Lib.hid ho7; have HUB1 := Lib.hid hub1; have HUB2 := Lib.hid hub2; have HUB3 := Lib.hid hub3; have HS7 := Lib.hid hS7; have HVU := Lib.hid (vals_weak hub3); have HB6 := Lib.hid hB6; have HW6 := Lib.hid hb6; have HW7 := Lib.hid hb7; have HZ6 := Lib.hid hz6; have HR1 := Lib.hid hR1; have HK6 := Lib.hid hk6; have HS6 := Lib.hid hs6; clear hub1 hub2 hub3 hS7 hB6 hb7 hR1 hb6 hown5 hown6 hgr5 ho7 hk6 hs6)
        | (at_builtin; refine wpList_append_rows rfl _ _ 42 rfl w5.heap.size 9 iS _ 1 16 Try.underlying42 HIS.out.1 HIS.out.2.1 rfl (by decide) HIS.out.2.2.1 HIS.out.2.2.2 _ 0 [] rfl HO7.out a2 n2 c2 ub HUB1.out rfl HUB2.out HVU.out HNL2.out (by unfold maxLen; omega) (by omega) (by simp) ?_; intro v8 w8 hown8 hgr8; have hown9 : w8.ownsRow w5.heap.size 9 1 v8 n2 ub := (by simpa using hown8); obtain ⟨ad2, cap2, rfl, hR2⟩ := own_strs2 HS7.out HUB1.out HUB3.out hown9; have hgr9 : ((w5.setCell ⟨g, k * 7 + 4, none⟩ (.slice ad1 n1 cap1)).alloc (.cells #[] 9)).grownBy w8 (some (w5.setCell ⟨g, k * 7 + 4, none⟩ (.slice ad1 n1 cap1)).heap.size) := (by rw [HZ6.out]; exact hgr8); have hF2 := copy_step (T3 := 9) (i4 := k * 7 + 5) HB6.out (show k * 7 + 5 < (cs.set (k * 7 + 4) (.slice ad1 n1 cap1)).length from (by rw [List.length_set]; exact HKL.out)) HW6.out hg hgr9 (.slice ad2 n2 cap2); obtain ⟨o5, s5, f5, hB9, hb9, _, hz9, _, hk9, hs9⟩ := hF2; have HB9 := Lib.hid hB9; have HW9 := Lib.hid hb9; have HZ9 := Lib.hid hz9; have HK9 := Lib.hid hk9; have HS9 := Lib.hid hs9; have HR2 := Lib.hid hR2; clear hB9 hb9 hz9 hk9 hs9 hR2 hown8 hown9 hgr8 hgr9))
      go_roundw
      case rel =>
        refine ⟨k + 1, _, by omega, by go_num, HB9, Lib.hid (by rw [List.length_set, List.length_set]; exact HL.out), Lib.hid ?_, HW9⟩
        have hA6 := HR1.out.move (ok' := fun b => wr.heap.size ≤ b ∧ b < (w5.setCell ⟨g, k * 7 + 4, none⟩ (.slice ad1 n1 cap1)).heap.size ∧ Plain (w5.setCell ⟨g, k * 7 + 4, none⟩ (.slice ad1 n1 cap1)) b) (w' := (w5.setCell ⟨g, k * 7 + 4, none⟩ (.slice ad1 n1 cap1))) (fun bl h => by
          have hm : (w5.setCell ⟨g, k * 7 + 4, none⟩ (.slice ad1 n1 cap1)).heap[bl]? = w5.heap[bl]? := Below.heap_setCell w5 ⟨g, k * 7 + 4, none⟩ _ bl (by show bl ≠ g; have := h.1; omega)
          exact ⟨⟨h.1, by rw [HZ6.out]; exact h.2.1, h.2.2.move hm⟩, hm⟩)
        have hS9 := HR2.out.move (ok' := fun b => (w5.setCell ⟨g, k * 7 + 4, none⟩ (.slice ad1 n1 cap1)).heap.size ≤ b ∧ b < (w8.setCell ⟨g, k * 7 + 5, none⟩ (.slice ad2 n2 cap2)).heap.size ∧ Plain (w8.setCell ⟨g, k * 7 + 5, none⟩ (.slice ad2 n2 cap2)) b) (w' := w8.setCell ⟨g, k * 7 + 5, none⟩ (.slice ad2 n2 cap2)) (fun bl h => by
          have hm : (w8.setCell ⟨g, k * 7 + 5, none⟩ (.slice ad2 n2 cap2)).heap[bl]? = w8.heap[bl]? := Below.heap_setCell w8 ⟨g, k * 7 + 5, none⟩ _ bl (by show bl ≠ g; have := h.1; have := HS6.out; omega)
          exact ⟨⟨by rw [HZ6.out]; exact h.1, by rw [HZ9.out]; exact h.2.1, h.2.2.move hm⟩, hm⟩)
        exact copy_end2 HKL.out HXK.out rfl HW.out hg hgl (by rw [HZ9.out]; exact HS9.out) (by rw [HZ6.out]; exact HS6.out) HND.out HK6.out HK9.out hA6 hS9
      case measure => simp [intOf]; omega
    · have hkI : ¬ (k : Int) < (n : Int) := by omega
      have hgl := HB.out.lt
      go_wp2
      go_ret
      refine ⟨g, cap, cs, rfl, hg, HB.out, hc1, hc2, HL.out, fun i x hx => (HND.out i x hx).1 ?_, HW.out⟩
      have := (List.getElem?_eq_some_iff.1 hx).1
      rw [← HN.out] at this
      omega
end

section
open Go.RowKit
set_option linter.unusedVariables false
set_option linter.unusedSimpArgs false

/-- Where the parts of the copy lie, ahead of some place. -/
def NewH (lo hi g : Nat) (w : World) (b : Nat) : Prop := lo ≤ b ∧ b < hi ∧ b ≠ g ∧ Plain w b
/-- All is as it was, but for what lies in a stretch of memory. -/
def Fr (lo hi : Nat) (w wr : World) : Prop := Below lo w wr ∧ ∀ b, hi ≤ b → b < w.heap.size → wr.heap[b]? = w.heap[b]?
theorem Fr.set {lo hi : Nat} {w wr : World} (h : Fr lo hi w wr) {p : Nat} (h1 : lo ≤ p) (h2 : p < hi) (i : Nat) (v : Value) : Fr lo hi w (wr.setCell ⟨p, i, none⟩ v) :=
  ⟨h.1.setCell (p := ⟨p, i, none⟩) h1 v, fun b hb hl => (heap_set (by omega)).trans (h.2 b hb hl)⟩
/-- A row in a stretch of memory that may be written. -/
def RowW (w : World) (lo hi g sz : Nat) (a : Option Addr) (n : Nat) : Prop := n = 0 ∨ ∃ b off cs T, a = some ⟨b, off, none⟩ ∧ lo ≤ b ∧ b < hi ∧ b ≠ g ∧ Blk w b cs T ∧ off + n * sz ≤ cs.length
theorem RowW.set {w : World} {lo hi g sz : Nat} {a : Option Addr} {n : Nat} (h : RowW w lo hi g sz a n) (p i : Nat) (v : Value) : RowW (w.setCell ⟨p, i, none⟩ v) lo hi g sz a n := by
  rcases h with h | ⟨b, off, cs, T, h1, h2, h3, h4, h5, h6⟩
  · exact .inl h
  · by_cases he : p = b
    · subst he
      exact .inr ⟨p, off, _, T, h1, h2, h3, h4, h5.setCell i v, by rw [List.length_set]; exact h6⟩
    · exact .inr ⟨b, off, cs, T, h1, h2, h3, h4, (heap_set (fun e => he e.symm)).trans h5, h6⟩
theorem rowA_of {w : World} {lo hi g : Nat} {a : Option Addr} {n c : Nat} {xs : List At3} (h : RdA (NewH lo hi g w) w a n c xs) : RowW w lo hi g 3 a n := by
  rcases Nat.eq_zero_or_pos n with h0 | hp
  · exact .inl h0
  · obtain ⟨x, hx⟩ : ∃ x, xs[n - 1]? = some x := ⟨_, List.getElem?_eq_getElem (by rw [← h.1]; omega)⟩
    obtain ⟨b, off, ha, ⟨h1, h2, h3, cs, T, hB⟩, _, _, hc, _⟩ := h.at (n - 1) x hx
    rw [cell_of_row w b _ _ T _ hB] at hc
    have hlt := (Array.getElem?_eq_some_iff.1 hc).1
    simp at hlt
    exact .inr ⟨b, off, cs, T, ha, h1, h2, h3, hB, by omega⟩
theorem rowS_of {w : World} {lo hi g : Nat} {a : Option Addr} {n c : Nat} {xs : List ByteArray} (h : RdS (NewH lo hi g w) w a n c xs) : RowW w lo hi g 1 a n := by
  rcases Nat.eq_zero_or_pos n with h0 | hp
  · exact .inl h0
  · obtain ⟨x, hx⟩ : ∃ x, xs[n - 1]? = some x := ⟨_, List.getElem?_eq_getElem (by rw [← h.1]; omega)⟩
    obtain ⟨b, off, ha, ⟨h1, h2, h3, cs, T, hB⟩, hc, _⟩ := h.at (n - 1) x hx
    rw [cell_of_row w b _ _ T _ hB] at hc
    have hlt := (Array.getElem?_eq_some_iff.1 hc).1
    simp at hlt
    exact .inr ⟨b, off, cs, T, ha, h1, h2, h3, hB, by omega⟩
/-- A document while it is written over. -/
structure SpS (w0 wr : World) (lo hi g n : Nat) (cs cs' : List Value) : Prop where
  blk : Blk wr g cs' 44
  len : cs'.length = cs.length
  same : ∀ j, j < n → cs'[j * 7 + 4]? = cs[j * 7 + 4]? ∧ cs'[j * 7 + 5]? = cs[j * 7 + 5]?
  rA : ∀ j a m c, j < n → cs[j * 7 + 4]? = some (.slice a m c) → RowW wr lo hi g 3 a m
  rS : ∀ j a m c, j < n → cs[j * 7 + 5]? = some (.slice a m c) → RowW wr lo hi g 1 a m
  fr : Fr lo hi w0 wr
  hg : lo ≤ g ∧ g < hi
theorem SpS.setRow {w0 wr : World} {lo hi g n : Nat} {cs cs' : List Value} (h : SpS w0 wr lo hi g n cs cs') {p : Nat} (hp : p ≠ g) (h1 : lo ≤ p) (h2 : p < hi) (i : Nat) (v : Value) : SpS w0 (wr.setCell ⟨p, i, none⟩ v) lo hi g n cs cs' :=
  ⟨(heap_set (fun e => hp e.symm)).trans h.blk, h.len, h.same, fun j a m c hj ha => (h.rA j a m c hj ha).set p i v, fun j a m c hj ha => (h.rS j a m c hj ha).set p i v, h.fr.set h1 h2 i v, h.hg⟩
theorem SpS.setKind {w0 wr : World} {lo hi g n : Nat} {cs cs' : List Value} (h : SpS w0 wr lo hi g n cs cs') (k : Nat) (v : Value) : SpS w0 (wr.setCell ⟨g, k * 7 + 1, none⟩ v) lo hi g n cs (cs'.set (k * 7 + 1) v) :=
  ⟨h.blk.setCell _ v, by rw [List.length_set]; exact h.len, fun j hj => ⟨by rw [List.getElem?_set_ne (by omega)]; exact (h.same j hj).1, by rw [List.getElem?_set_ne (by omega)]; exact (h.same j hj).2⟩,
    fun j a m c hj ha => (h.rA j a m c hj ha).set g _ v, fun j a m c hj ha => (h.rS j a m c hj ha).set g _ v, h.fr.set h.hg.1 h.hg.2 _ v, h.hg⟩

set_option maxRecDepth 100000 in
set_option maxHeartbeats 4000000 in
theorem spoil_any (xs : List Nd) (g n cap lo hi : Nat) (cs : List Value) (w : World) (hg : lo ≤ g ∧ g < hi) (hB : Blk w g cs 44) (hn : n = xs.length) (hc : n ≤ cap) (hc2 : cap ≤ maxLen) (hl : cs.length = cap * 7)
    (hN : ∀ i x, xs[i]? = some x → NdC (NewH lo hi g w) w cs (i * 7) x) :
    Calls Try.prog 14 #[.slice (some ⟨g, 0, none⟩) n cap] w fun e w' => e = .returned (.tuple #[]) ∧ Fr lo hi w w' := by
  have S0 : SpS w w lo hi g n cs cs := ⟨hB, rfl, fun j _ => ⟨rfl, rfl⟩, fun j a m c hj ha => by
      obtain ⟨_, _, _, _, ⟨a1, n1, c1, e4, hA⟩, _⟩ := hN j _ (List.getElem?_eq_getElem (by rw [← hn]; exact hj))
      rw [ha] at e4
      cases e4
      exact rowA_of hA, fun j a m c hj ha => by
      obtain ⟨_, _, _, _, _, ⟨a1, n1, c1, e5, hA⟩, _⟩ := hN j _ (List.getElem?_eq_getElem (by rw [← hn]; exact hj))
      rw [ha] at e5
      cases e5
      exact rowS_of hA, ⟨Below.refl _ _, fun _ _ _ => rfl⟩, hg⟩
  have HS0 := Lib.hid S0
  have H45 := Lib.hid (show ∀ j, j < n → ∃ a1 n1 c1 a2 n2 c2, cs[j * 7 + 4]? = some (.slice a1 n1 c1) ∧ cs[j * 7 + 5]? = some (.slice a2 n2 c2) ∧ n1 ≤ 140737488351232 ∧ n2 ≤ 140737488351232 from fun j hj => by
      obtain ⟨_, _, _, _, ⟨a1, n1, c1, e4, hA⟩, ⟨a2, n2, c2, e5, hS⟩, _⟩ := hN j _ (List.getElem?_eq_getElem (by rw [← hn]; exact hj))
      exact ⟨a1, n1, c1, a2, n2, c2, e4, e5, hA.2.2.1.2.1, hS.2.2.1.2.1⟩)
  have HL := Lib.hid hl
  have hcm : cap ≤ 9223372036854775807 := hc2
  have hnm : n ≤ 9223372036854775807 := by omega
  clear S0 hN hB hn hl hc2
  go_enter Try.func14, Try.ntmps14
  go_wp2_with fail
  go_loopw [7] (fun i wr => ∃ (k : Nat) (cs' : List Value), k ≤ n ∧ i = .int .i64 k ∧ Hid (SpS w wr lo hi g n cs cs')) (fun i _ => n - (intOf i).toNat)
  case atStart => exact ⟨0, cs, Nat.zero_le _, rfl, HS0⟩
  case round =>
    obtain ⟨k, cs', hk, rfl, HS⟩ := hrel
    by_cases hlt : k < n
    · obtain ⟨a1, n1, c1, a2, n2, c2, e4, e5, hm1, hm2⟩ := H45.out k hlt
      have hkI : (0 : Int) ≤ (k : Int) := by omega
      have hkI2 : (k : Int) < (n : Int) := by omega
      have hmm1 : n1 ≤ 9223372036854775807 := by omega
      have hmm2 : n2 ≤ 9223372036854775807 := by omega
      have HE4 := Lib.hid e4
      have HE5 := Lib.hid e5
      have d4 := HS.out.blk.cell _ _ ((HS.out.same k hlt).1.trans e4)
      clear e4 e5
      go_wp2_with fail
      clear d4
      go_loopw [16] (fun i w2 => ∃ (j : Nat), j ≤ n1 ∧ i = .int .i64 j ∧ Hid (SpS w w2 lo hi g n cs cs')) (fun i _ => n1 - (intOf i).toNat)
      case atStart => exact ⟨0, Nat.zero_le _, rfl, HS⟩
      case round =>
        clear HS
        obtain ⟨j, hj, rfl, HS⟩ := hrel
        by_cases hlt1 : j < n1
        · have hjI : (0 : Int) ≤ (j : Int) := by omega
          have hjI2 : (j : Int) < (n1 : Int) := by omega
          have d4 := HS.out.blk.cell _ _ ((HS.out.same k hlt).1.trans HE4.out)
          obtain ⟨b, off, csB, T, rfl, hb1, hb2, hb3, hB, hle⟩ := (HS.out.rA k a1 n1 c1 hlt HE4.out).resolve_left (by omega)
          obtain ⟨o0, ho0⟩ : ∃ o, csB[off + j * 3]? = some o := ⟨_, List.getElem?_eq_getElem (by omega)⟩
          obtain ⟨o1, ho1⟩ : ∃ o, csB[off + j * 3 + 1]? = some o := ⟨_, List.getElem?_eq_getElem (by omega)⟩
          obtain ⟨o2, ho2⟩ : ∃ o, csB[off + j * 3 + 2]? = some o := ⟨_, List.getElem?_eq_getElem (by omega)⟩
          have d0 := hB.cell _ _ ho0
          have d1 := hB.cell _ _ ho1
          have d2 := hB.cell _ _ ho2
          have g0 := hB.frozen (off + j * 3)
          have g1 := hB.frozen (off + j * 3 + 1)
          have g2 := hB.frozen (off + j * 3 + 2)
          have HS3 := Lib.hid (((HS.out.setRow hb3 hb1 hb2 (off + j * 3) (.string ⟨#[]⟩)).setRow hb3 hb1 hb2 (off + j * 3 + 1) (.string ⟨#[33]⟩)).setRow hb3 hb1 hb2 (off + j * 3 + 2) (.string ⟨#[]⟩))
          clear hB ho0 ho1 ho2
          go_wp2
          go_roundw
          case rel => exact ⟨j + 1, by omega, by go_num, HS3⟩
          case measure => simp [intOf]; omega
        · obtain rfl : j = n1 := by omega
          have hjI2 : ¬ (j : Int) < (j : Int) := by omega
          have d5 := HS.out.blk.cell _ _ ((HS.out.same k hlt).2.trans HE5.out)
          go_wp2_with fail
          clear d5
          go_loopw [34] (fun i w2 => ∃ (j : Nat), j ≤ n2 ∧ i = .int .i64 j ∧ Hid (SpS w w2 lo hi g n cs cs')) (fun i _ => n2 - (intOf i).toNat)
          case atStart => exact ⟨0, Nat.zero_le _, rfl, HS⟩
          case round =>
            clear HS
            obtain ⟨j, hj, rfl, HS⟩ := hrel
            by_cases hlt1 : j < n2
            · have hjI : (0 : Int) ≤ (j : Int) := by omega
              have hjI2 : (j : Int) < (n2 : Int) := by omega
              have d5 := HS.out.blk.cell _ _ ((HS.out.same k hlt).2.trans HE5.out)
              obtain ⟨b, off, csB, T, rfl, hb1, hb2, hb3, hB, hle⟩ := (HS.out.rS k a2 n2 c2 hlt HE5.out).resolve_left (by omega)
              obtain ⟨o0, ho0⟩ : ∃ o, csB[off + j]? = some o := ⟨_, List.getElem?_eq_getElem (by omega)⟩
              have d0 := hB.cell _ _ ho0
              have g0 := hB.frozen (off + j)
              have HS3 := Lib.hid (HS.out.setRow hb3 hb1 hb2 (off + j) (.string ⟨#[33]⟩))
              clear hB ho0
              go_wp2
              go_roundw
              case rel => exact ⟨j + 1, by omega, by go_num, HS3⟩
              case measure => simp [intOf]; omega
            · obtain rfl : j = n2 := by omega
              have hjI2 : ¬ (j : Int) < (j : Int) := by omega
              obtain ⟨o0, ho0⟩ : ∃ o, cs'[k * 7 + 1]? = some o := ⟨_, List.getElem?_eq_getElem (by rw [HS.out.len, HL.out]; omega)⟩
              have d0 := HS.out.blk.cell _ _ ho0
              have g0 := HS.out.blk.frozen (k * 7 + 1)
              have HS3 := Lib.hid (HS.out.setKind k (.int .i64 77))
              clear ho0
              go_wp2
              go_roundw
              case rel => exact ⟨k + 1, _, by omega, by go_num, HS3⟩
              case measure => simp [intOf]; omega
    · have hkI : ¬ (k : Int) < (n : Int) := by omega
      go_wp2
      go_end0
      exact ⟨rfl, HS.out.fr⟩
end
end Go.Proofs.Ytfgnepbpfglepaa
