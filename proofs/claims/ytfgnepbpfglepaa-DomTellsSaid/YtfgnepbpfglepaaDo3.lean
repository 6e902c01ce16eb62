/- A node copied, by the program: a walk. -/
import Derived.Test.YtfgnepbpfglepaaDo2
namespace Go.Proofs.Ytfgnepbpfglepaa
open Go.RowKit
set_option linter.unusedVariables false
set_option linter.unusedSimpArgs false

/-- A node's cells. -/
def ndCells (p k : Int) (s nm : ByteArray) (v4 v5 : Value) (t : ByteArray) : List Value := [.int .i64 p, .int .i64 k, .string s, .string nm, v4, v5, .string t]
theorem Blk.cells236 {w : World} {g : Nat} {p k : Int} {s nm t : ByteArray} {v4 v5 : Value} {T : TypeId} (h : Blk w g (ndCells p k s nm v4 v5 t) T) : w.cell? ⟨g, 2, none⟩ = some (.string s) ∧ w.cell? ⟨g, 3, none⟩ = some (.string nm) ∧ w.cell? ⟨g, 6, none⟩ = some (.string t) := ⟨h.cell 2 _ rfl, h.cell 3 _ rfl, h.cell 6 _ rfl⟩
theorem Blk.set2 {w : World} {g : Nat} {p k : Int} {s nm t : ByteArray} {v4 v5 : Value} {T : TypeId} (h : Blk w g (ndCells p k s nm v4 v5 t) T) : Blk (w.setCell ⟨g, 2, none⟩ (.string s)) g (ndCells p k s nm v4 v5 t) T := h.setCell 2 (.string s)
theorem Blk.set3 {w : World} {g : Nat} {p k : Int} {s nm t : ByteArray} {v4 v5 : Value} {T : TypeId} (h : Blk w g (ndCells p k s nm v4 v5 t) T) : Blk (w.setCell ⟨g, 3, none⟩ (.string nm)) g (ndCells p k s nm v4 v5 t) T := h.setCell 3 (.string nm)
theorem Blk.set6 {w : World} {g : Nat} {p k : Int} {s nm t : ByteArray} {v4 v5 : Value} {T : TypeId} (h : Blk w g (ndCells p k s nm v4 v5 t) T) : Blk (w.setCell ⟨g, 6, none⟩ (.string t)) g (ndCells p k s nm v4 v5 t) T := h.setCell 6 (.string t)
theorem Blk.set45 {w : World} {g : Nat} {p k : Int} {s nm t : ByteArray} {v4 v5 : Value} {T : TypeId} (h : Blk w g (ndCells p k s nm v4 v5 t) T) (u4 u5 : Value) :
    Blk ((w.setCell ⟨g, 4, none⟩ u4).setCell ⟨g, 5, none⟩ u5) g (ndCells p k s nm u4 u5 t) T := (h.setCell 4 u4).setCell 5 u5

theorem heap_set {w : World} {g i b : Nat} {v : Value} (h : b ≠ g) : (w.setCell ⟨g, i, none⟩ v).heap[b]? = w.heap[b]? := Below.heap_setCell w ⟨g, i, none⟩ v b h
theorem size_set {w : World} {g i : Nat} {v : Value} : (w.setCell ⟨g, i, none⟩ v).heap.size = w.heap.size := by simp
/-- A node's cells, written one by one. -/
def setNd (w : World) (g o : Nat) (p k : Int) (s nm : ByteArray) (v4 v5 : Value) (t : ByteArray) : World :=
  ((((((w.setCell ⟨g, o, none⟩ (.int .i64 p)).setCell ⟨g, o + 1, none⟩ (.int .i64 k)).setCell ⟨g, o + 2, none⟩ (.string s)).setCell ⟨g, o + 3, none⟩ (.string nm)).setCell ⟨g, o + 4, none⟩ v4).setCell ⟨g, o + 5, none⟩ v5).setCell ⟨g, o + 6, none⟩ (.string t)
theorem setNd_old {w : World} {g o b : Nat} {p k : Int} {s nm t : ByteArray} {v4 v5 : Value} (h : b ≠ g) : (setNd w g o p k s nm v4 v5 t).heap[b]? = w.heap[b]? := by
  unfold setNd; simp only [heap_set h]
theorem setNd_size {w : World} {g o : Nat} {p k : Int} {s nm t : ByteArray} {v4 v5 : Value} : (setNd w g o p k s nm v4 v5 t).heap.size = w.heap.size := by
  unfold setNd; simp only [size_set]
theorem setNd_below {w w0 : World} {B g o : Nat} {p k : Int} {s nm t : ByteArray} {v4 v5 : Value} (h : Below B w0 w) (hg : B ≤ g) : Below B w0 (setNd w g o p k s nm v4 v5 t) :=
  ((((((h.setCell (p := ⟨g, o, none⟩) hg _).setCell (p := ⟨g, o + 1, none⟩) hg _).setCell (p := ⟨g, o + 2, none⟩) hg _).setCell (p := ⟨g, o + 3, none⟩) hg _).setCell (p := ⟨g, o + 4, none⟩) hg _).setCell (p := ⟨g, o + 5, none⟩) hg _).setCell (p := ⟨g, o + 6, none⟩) hg _
def setsNd (cs : List Value) (o : Nat) (p k : Int) (s nm : ByteArray) (v4 v5 : Value) (t : ByteArray) : List Value :=
  ((((((cs.set o (.int .i64 p)).set (o + 1) (.int .i64 k)).set (o + 2) (.string s)).set (o + 3) (.string nm)).set (o + 4) v4).set (o + 5) v5).set (o + 6) (.string t)
theorem setNd_blk {w : World} {g o : Nat} {p k : Int} {s nm t : ByteArray} {v4 v5 : Value} {cs : List Value} {T : TypeId} (h : Blk w g cs T) : Blk (setNd w g o p k s nm v4 v5 t) g (setsNd cs o p k s nm v4 v5 t) T :=
  ((((((h.setCell _ _).setCell _ _).setCell _ _).setCell _ _).setCell _ _).setCell _ _).setCell _ _

/-- The copy of a node: its lists lie in new memory. -/
def CopyN (p k : Int) (s nm t : ByteArray) (ats : List At3) (ss : List ByteArray) (n n' : Nat) (w : World) (e : Ending) (w' : World) : Prop :=
  ∃ g1 g2, e = .returned (.agg #[.int .i64 p, .int .i64 k, .string s, .string nm, .slice (some ⟨g1, 0, none⟩) n n, .slice (some ⟨g2, 0, none⟩) n' n', .string t]) ∧
    RdA (fun b => w.heap.size ≤ b ∧ b < w'.heap.size) w' (some ⟨g1, 0, none⟩) n n ats ∧ RdS (fun b => w.heap.size ≤ b ∧ b < w'.heap.size) w' (some ⟨g2, 0, none⟩) n' n' ss ∧ Below w.heap.size w w'

set_option maxRecDepth 100000 in
set_option maxHeartbeats 4000000 in
theorem copyNode_any (p k : Int) (s nm t : ByteArray) (ats : List At3) (ss : List ByteArray) (a a' : Option Addr) (n n' c c' : Nat) (w : World)
    (hA : RdA (· < w.heap.size) w a n c ats) (hS : RdS (· < w.heap.size) w a' n' c' ss) (hs : s.size ≤ 140737488351232) (hnm : nm.size ≤ 140737488351232) (ht : t.size ≤ 140737488351232) (hn : n ≤ 1000000) (hn' : n' ≤ 1000000) :
    Calls Try.prog 35 #[.agg #[.int .i64 p, .int .i64 k, .string s, .string nm, .slice a n c, .slice a' n' c', .string t]] w (CopyN p k s nm t ats ss n n' w) := by
  have f0 := fun w => cloneS_any s w hs
  have f1 := fun w => cloneS_any nm w hnm
  have f2 := fun w => cloneS_any t w ht
  have HNA := Lib.hid hA.1
  have HNS := Lib.hid hS.1
  obtain ⟨w0, hw0⟩ : ∃ w0, (w.alloc (.cells #[.int .i64 p, .int .i64 k, .string s, .string nm, .slice a n c, .slice a' n' c', .string t] 44)).alloc (.cells #[.int .i64 0, .int .i64 0, .string ⟨#[]⟩, .string ⟨#[]⟩, .slice none 0 0, .slice none 0 0, .string ⟨#[]⟩] 44) = w0 := ⟨_, rfl⟩
  have B1 : Blk w0 w.heap.size (ndCells p k s nm (.slice a n c) (.slice a' n' c') t) 44 := by rw [← hw0]; exact (Blk.alloc (ndCells p k s nm (.slice a n c) (.slice a' n' c') t) _).alloc_old _
  have B2 : Blk w0 (w.heap.size + 1) (ndCells 0 0 ⟨#[]⟩ ⟨#[]⟩ (.slice none 0 0) (.slice none 0 0) ⟨#[]⟩) 44 := by
    rw [← hw0]
    have := Blk.alloc (w := w.alloc (.cells #[.int .i64 p, .int .i64 k, .string s, .string nm, .slice a n c, .slice a' n' c', .string t] 44)) (ndCells 0 0 ⟨#[]⟩ ⟨#[]⟩ (.slice none 0 0) (.slice none 0 0) ⟨#[]⟩) 44
    rwa [show (w.alloc (.cells #[.int .i64 p, .int .i64 k, .string s, .string nm, .slice a n c, .slice a' n' c', .string t] 44)).heap.size = w.heap.size + 1 from by simp] at this
  have hb0 : Below w.heap.size w w0 := by
    rw [← hw0]
    have := (Below.refl w.heap.size w).alloc (Nat.le_refl _) (.cells #[.int .i64 p, .int .i64 k, .string s, .string nm, .slice a n c, .slice a' n' c', .string t] 44)
    exact this.alloc this.size _
  have HW0 := Lib.hid hw0
  have HB0 := Lib.hid hb0.drew
  have HB2 := Lib.hid (B2.drewN 1)
  have HB1 := Lib.hid (B1.drewN 1)
  have HA := Lib.hid hA
  have HS := Lib.hid hS
  obtain ⟨d0, d1, d2⟩ := (B1.drewN 1).cells236
  clear hb0 B2 B1 hA hS
  go_enter Try.func35, Try.ntmps35
  go_wp2
  go_region_held3 (fun w' => w'.cell? ⟨w.heap.size, 2, none⟩ = some (.string s) ∧ w'.cell? ⟨w.heap.size, 3, none⟩ = some (.string nm) ∧ w'.cell? ⟨w.heap.size, 6, none⟩ = some (.string t)) (first | exact ⟨d0, d1, d2⟩ | exact a3 | exact a4 | exact a5 | exact a6 | exact a7 | exact a8) (first
    | ((go_at_call 62); (with_reducible refine (f0 _).mono ?_); rintro e w3 ⟨rfl, hb3⟩; have C3 := Blk.later HB1.out hb3 HB1.out.lt; have a3 := C3.cells236; have X3 := Blk.later HB2.out hb3 HB2.out.lt)
    | ((go_at_call 62); (with_reducible refine (f1 _).mono ?_); rintro e w4 ⟨rfl, hb4⟩; have C4 := C3.later hb4 C3.lt; have a4 := C4.cells236; have X4 := X3.later hb4 X3.lt)
    | ((go_at_call 62); (with_reducible refine (f2 _).mono ?_); rintro e w5 ⟨rfl, hb5⟩; have C5 := C4.later hb5 C4.lt; have a5 := C5.cells236; have X5 := X4.later hb5 X4.lt; have g0 := C5.frozen 2; have g1 := C5.frozen 3; have g2 := C5.frozen 6; have C6 := C5.set2; have a6 := C6.cells236; have C7 := C6.set3; have a7 := C7.cells236; have C8 := C7.set6; have a8 := C8.cells236))
  have X6 := ((X5.kept (grown_setCell w5 w.heap.size 2 (.string s)) (by simp)).kept (grown_setCell _ w.heap.size 3 (.string nm)) (by simp)).kept (grown_setCell _ w.heap.size 6 (.string t)) (by simp)
  have hbe := ((((HB0.out.trans (hb3.mono HB0.out.size)).trans (hb4.mono (HB0.out.trans (hb3.mono HB0.out.size)).size)).trans (hb5.mono ((HB0.out.trans (hb3.mono HB0.out.size)).trans (hb4.mono (HB0.out.trans (hb3.mono HB0.out.size)).size)).size)))
  have hb8 := ((hbe.setCell (p := ⟨w.heap.size, 2, none⟩) (Nat.le_refl _) (.string s)).setCell (p := ⟨w.heap.size, 3, none⟩) (Nat.le_refl _) (.string nm)).setCell (p := ⟨w.heap.size, 6, none⟩) (Nat.le_refl _) (.string t)
  clear C3 C4 C5 C6 C7 a3 a4 a5 a6 a7 a8 g0 g1 g2 X3 X4 X5 hbe hb3 hb4 hb5 d0 d1 d2 f0 f1 f2
  generalize hW8 : ((w5.setCell ⟨w.heap.size, 2, none⟩ (.string s)).setCell ⟨w.heap.size, 3, none⟩ (.string nm)).setCell ⟨w.heap.size, 6, none⟩ (.string t) = W8 at *
  clear hW8
  have C4 : W8.drew.cell? ⟨w.heap.size, 4, none⟩ = some (.slice a n c) := (C8.drewN 1).cell 4 _ rfl
  have C5 : W8.drew.cell? ⟨w.heap.size, 5, none⟩ = some (.slice a' n' c') := (C8.drewN 1).cell 5 _ rfl
  have hbD := hb8.drew
  have fA := copiedA_any ats a n c (· < w.heap.size) W8.drew (HA.out.move (fun b hb => ⟨hb, hbD.block b hb⟩)) (fun b hb => Nat.lt_of_lt_of_le hb hbD.size) hn
  have fS := fun w' (hb : Below w.heap.size w w') => copiedS_any ss a' n' c' (· < w.heap.size) w' (HS.out.move (fun b h => ⟨h, hb.block b h⟩)) (fun b h => Nat.lt_of_lt_of_le h hb.size) hn'
  have HC8 := Lib.hid (C8.drewN 1)
  have HX8 := Lib.hid (X6.drewN 1)
  have HD := Lib.hid hbD
  clear C8 X6 hb8 hbD
  go_wp2
  go_region_with (first
    | ((go_at_call 63); (with_reducible refine fA.mono ?_); rintro e w6 ⟨gA, rfl, hrA, hb6⟩; have D6 := Blk.later HC8.out hb6 HC8.out.lt; have Y6 := Blk.later HX8.out hb6 HX8.out.lt; have e4 := D6.cell 4 _ rfl; have e5 := D6.cell 5 _ rfl; have hB6 := HD.out.trans (hb6.mono HD.out.size); have fS6 := fS _ hB6; have HRA := Lib.hid hrA)
    | ((go_at_call 65); (with_reducible refine fS6.mono ?_); rintro e w7 ⟨gS, rfl, hrS, hb7⟩; have D7 := D6.later hb7 D6.lt; have Y7 := Y6.later hb7 Y6.lt; have k4 := D7.cell 4 _ rfl; have k5 := D7.cell 5 _ rfl; have j4 := D7.frozen 4; have j5 := D7.frozen 5; have HRS := Lib.hid hrS))
  all_goals
    have Z7 := D7.set45 (.slice (some ⟨gA, 0, none⟩) n n) (.slice (some ⟨gS, 0, none⟩) n' n')
    have Y9 := (Y7.kept (grown_setCell w7 w.heap.size 4 (.slice (some ⟨gA, 0, none⟩) n n)) (by simp)).kept (grown_setCell _ w.heap.size 5 (.slice (some ⟨gS, 0, none⟩) n' n')) (by simp)
    have hB7 := hB6.trans (hb7.mono hB6.size)
    have hB9 := (hB7.setCell (p := ⟨w.heap.size, 4, none⟩) (Nat.le_refl _) (.slice (some ⟨gA, 0, none⟩) n n)).setCell (p := ⟨w.heap.size, 5, none⟩) (Nat.le_refl _) (.slice (some ⟨gS, 0, none⟩) n' n')
    have hK9 : Hid (∀ b, b ≠ w.heap.size → ((w7.setCell ⟨w.heap.size, 4, none⟩ (.slice (some ⟨gA, 0, none⟩) n n)).setCell ⟨w.heap.size, 5, none⟩ (.slice (some ⟨gS, 0, none⟩) n' n')).heap[b]? = w7.heap[b]?) := Lib.hid (fun b hb => by rw [heap_set hb, heap_set hb])
    have hZ9 : Hid (((w7.setCell ⟨w.heap.size, 4, none⟩ (.slice (some ⟨gA, 0, none⟩) n n)).setCell ⟨w.heap.size, 5, none⟩ (.slice (some ⟨gS, 0, none⟩) n' n')).heap.size = w7.heap.size) := Lib.hid (by rw [size_set, size_set])
    have hl8 : Hid (w.heap.size + 1 < W8.drew.heap.size) := Lib.hid HX8.out.lt
    have Hb6 := Lib.hid hb6
    have Hb7 := Lib.hid hb7
    clear D6 D7 Y6 Y7 e4 e5 k4 k5 j4 j5 fS6 hb6 hb7 hrA hrS hB6 hB7
    generalize hW9 : (w7.setCell ⟨w.heap.size, 4, none⟩ (.slice (some ⟨gA, 0, none⟩) n n)).setCell ⟨w.heap.size, 5, none⟩ (.slice (some ⟨gS, 0, none⟩) n' n') = W9 at *
    clear hW9
    have z0 := Z7.cell 0 _ rfl
    have z1 := Z7.cell 1 _ rfl
    have z2 := Z7.cell 2 _ rfl
    have z3 := Z7.cell 3 _ rfl
    have z4 := Z7.cell 4 _ rfl
    have z5 := Z7.cell 5 _ rfl
    have z6 := Z7.cell 6 _ rfl
    have y0 := Y9.cell 0 _ rfl
    have y1 := Y9.cell 1 _ rfl
    have y2 := Y9.cell 2 _ rfl
    have y3 := Y9.cell 3 _ rfl
    have y4 := Y9.cell 4 _ rfl
    have y5 := Y9.cell 5 _ rfl
    have y6 := Y9.cell 6 _ rfl
    have g0 := Y9.frozen 0
    have g1 := Y9.frozen 1
    have g2 := Y9.frozen 2
    have g3 := Y9.frozen 3
    have g4 := Y9.frozen 4
    have g5 := Y9.frozen 5
    have g6 := Y9.frozen 6
    have F9 : Blk (setNd W9 (w.heap.size + 1) 0 p k s nm (.slice (some ⟨gA, 0, none⟩) n n) (.slice (some ⟨gS, 0, none⟩) n' n') t) (w.heap.size + 1) (ndCells p k s nm (.slice (some ⟨gA, 0, none⟩) n n) (.slice (some ⟨gS, 0, none⟩) n' n') t) 44 := setNd_blk Y9
    have r0 := F9.cell 0 _ rfl
    have r1 := F9.cell 1 _ rfl
    have r2 := F9.cell 2 _ rfl
    have r3 := F9.cell 3 _ rfl
    have r4 := F9.cell 4 _ rfl
    have r5 := F9.cell 5 _ rfl
    have r6 := F9.cell 6 _ rfl
    have hBF := setNd_below (o := 0) (p := p) (k := k) (s := s) (nm := nm) (t := t) (v4 := .slice (some ⟨gA, 0, none⟩) n n) (v5 := .slice (some ⟨gS, 0, none⟩) n' n') hB9 (Nat.le_succ w.heap.size)
    have HBF := Lib.hid hBF
    clear hB9 hBF F9
    go_wp2
    change bodyPost _ _ _ _ _ (setNd W9 (w.heap.size + 1) 0 p k s nm (.slice (some ⟨gA, 0, none⟩) n n) (.slice (some ⟨gS, 0, none⟩) n' n') t)
    refine bodyPost_ret (v := .agg #[.int .i64 p, .int .i64 k, .string s, .string nm, .slice (some ⟨gA, 0, none⟩) n n, .slice (some ⟨gS, 0, none⟩) n' n', .string t]) (by simp [results, Try.results35, go_sem, r0, r1, r2, r3, r4, r5, r6]) rfl ⟨gA, gS, rfl, ?_, ?_, HBF.out⟩
    · exact HRA.out.move (fun b hb => ⟨⟨by have := hl8.out; have := hb.1; omega, by rw [setNd_size, hZ9.out]; have := hb.2; have := Hb7.out.size; omega⟩, by
        have h1 := hl8.out
        have h2 := hb.1
        rw [setNd_old (by omega), hK9.out b (by omega), Hb7.out.block b hb.2]⟩)
    · exact HRS.out.move (fun b hb => ⟨⟨by have := hl8.out; have := hb.1; have := Hb6.out.size; omega, by rw [setNd_size, hZ9.out]; exact hb.2⟩, by
        have h1 := hl8.out
        have h2 := hb.1
        have h3 := Hb6.out.size
        rw [setNd_old (by omega), hK9.out b (by omega)]⟩)
end Go.Proofs.Ytfgnepbpfglepaa
