/- Texts, attributes, lists of them copied, by the program: walks. -/
import Derived.Test.YtfgnepbpfglepaaDo0
import Derived.Test.YtfgnepbpfglepaaDm8
import Derived.Test.YtfgnepbpfglepaaShelf
import Derived.Deep.RegionWith
import Derived.Deep.RegionHeld3
namespace Go.Proofs.Ytfgnepbpfglepaa
open Go.RowKit
set_option linter.unusedVariables false
set_option linter.unusedSimpArgs false

set_option maxRecDepth 100000 in
set_option maxHeartbeats 1000000 in
theorem cloneS_any (s : ByteArray) (w : World) (hs : s.size ≤ 140737488351232) : Calls Try.prog 62 #[.string s] w (Told (.string s) w) := by
  have hC := fun w => Try.stringslite_Clone s w (by omega)
  go_enter Try.func62, Try.ntmps62
  go_wp2_with fail
  refine (hC _).mono ?_
  rintro e w1 ⟨rfl, hb⟩
  go_wp2
  go_ret
  exact ⟨rfl, hb⟩

theorem Blk.cells3 {w : World} {p : Nat} {a b c : Value} {T : TypeId} (h : Blk w p [a, b, c] T) : w.cell? ⟨p, 0, none⟩ = some a ∧ w.cell? ⟨p, 1, none⟩ = some b ∧ w.cell? ⟨p, 2, none⟩ = some c := ⟨h.cell 0 _ rfl, h.cell 1 _ rfl, h.cell 2 _ rfl⟩

set_option maxRecDepth 100000 in
set_option maxHeartbeats 1000000 in
theorem copyAttr_any (s nm v : ByteArray) (w : World) (hs : s.size ≤ 140737488351232) (hn : nm.size ≤ 140737488351232) (hv : v.size ≤ 140737488351232) :
    Calls Try.prog 64 #[.agg #[.string s, .string nm, .string v]] w (Told (.agg #[.string s, .string nm, .string v]) w) := by
  have f0 := fun w => cloneS_any s w hs
  have f1 := fun w => cloneS_any nm w hn
  have f2 := fun w => cloneS_any v w hv
  obtain ⟨w0, hw0⟩ : ∃ w0, (w.alloc (.cells #[.string s, .string nm, .string v] 56)).alloc (.cells #[.string ⟨#[]⟩, .string ⟨#[]⟩, .string ⟨#[]⟩] 56) = w0 := ⟨_, rfl⟩
  have hsz : w0.heap.size = w.heap.size + 1 + 1 := by rw [← hw0]; simp
  have B1 : Blk w0 w.heap.size [.string s, .string nm, .string v] 56 := by rw [← hw0]; exact (Blk.alloc [.string s, .string nm, .string v] _).alloc_old _
  have B2 : Blk w0 (w.heap.size + 1) [.string ⟨#[]⟩, .string ⟨#[]⟩, .string ⟨#[]⟩] 56 := by
    rw [← hw0]
    have := Blk.alloc (w := w.alloc (.cells #[.string s, .string nm, .string v] 56)) [.string ⟨#[]⟩, .string ⟨#[]⟩, .string ⟨#[]⟩] 56
    rwa [show (w.alloc (.cells #[.string s, .string nm, .string v] 56)).heap.size = w.heap.size + 1 from by simp] at this
  have hb0 : Below w.heap.size w w0 := by
    rw [← hw0]
    have := (Below.refl w.heap.size w).alloc (Nat.le_refl _) (.cells #[.string s, .string nm, .string v] 56)
    exact this.alloc this.size _
  have HW0 := Lib.hid hw0
  have HSZ := Lib.hid hsz
  have HB0 := Lib.hid hb0
  have HB2 := Lib.hid B2
  have HB1 := Lib.hid B1
  clear hsz hb0 B2
  go_enter Try.func64, Try.ntmps64
  go_wp2
  have D0 := (HB1.out.drewN 1).cells3
  obtain ⟨d0, d1, d2⟩ := D0
  go_region_held3 (fun w' => w'.cell? ⟨w.heap.size, 0, none⟩ = some (.string s) ∧ w'.cell? ⟨w.heap.size, 1, none⟩ = some (.string nm) ∧ w'.cell? ⟨w.heap.size, 2, none⟩ = some (.string v)) (first | exact ⟨d0, d1, d2⟩ | exact a3 | exact a4 | exact a5 | exact a6) (first
    | ((go_at_call 62); (with_reducible refine (f0 _).mono ?_); rintro e w3 ⟨rfl, hb3⟩; have C3 := Blk.later (B1.drewN 1) hb3 B1.lt; have a3 := C3.cells3; have X3 := Blk.later (HB2.out.drewN 1) hb3 HB2.out.lt)
    | ((go_at_call 62); (with_reducible refine (f1 _).mono ?_); rintro e w4 ⟨rfl, hb4⟩; have C4 := C3.later hb4 C3.lt; have a4 := C4.cells3; have X4 := X3.later hb4 X3.lt)
    | ((go_at_call 62); (with_reducible refine (f2 _).mono ?_); rintro e w5 ⟨rfl, hb5⟩; have C5 := C4.later hb5 C4.lt; have a5 := C5.cells3; have X5 := X4.later hb5 X4.lt; have y0 := X5.cell 0 _ rfl; have y1 := X5.cell 1 _ rfl; have y2 := X5.cell 2 _ rfl; have g0 := X5.frozen 0; have g1 := X5.frozen 1; have g2 := X5.frozen 2; have C6 := ((C5.kept (grown_setCell w5 (w.heap.size + 1) 0 (.string s)) (by simp)).kept (grown_setCell _ (w.heap.size + 1) 1 (.string nm)) (by simp)).kept (grown_setCell _ (w.heap.size + 1) 2 (.string v)) (by simp); have a6 := C6.cells3; have X6 := ((X5.setCell 0 (.string s)).setCell 1 (.string nm)).setCell 2 (.string v)))
  obtain ⟨r0, r1, r2⟩ := X6.cells3
  have hbe : Below w.heap.size w w5 := ((HB0.out.drew.trans (hb3.mono HB0.out.drew.size)).trans (hb4.mono (HB0.out.drew.trans (hb3.mono HB0.out.drew.size)).size)).trans (hb5.mono ((HB0.out.drew.trans (hb3.mono HB0.out.drew.size)).trans (hb4.mono (HB0.out.drew.trans (hb3.mono HB0.out.drew.size)).size)).size)
  have hbz := ((hbe.setCell (p := ⟨w.heap.size + 1, 0, none⟩) (Nat.le_succ _) (.string s)).setCell (p := ⟨w.heap.size + 1, 1, none⟩) (Nat.le_succ _) (.string nm)).setCell (p := ⟨w.heap.size + 1, 2, none⟩) (Nat.le_succ _) (.string v)
  go_wp2
  refine bodyPost_ret (v := .agg #[.string s, .string nm, .string v]) (by simp [results, Try.results64, go_sem, r0, r1, r2]) rfl ⟨rfl, hbz⟩
end Go.Proofs.Ytfgnepbpfglepaa
