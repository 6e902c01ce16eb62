/- The document's examples on tokens: a walk. -/
import Derived.Test.YtdopmkiogmejaaaDoorFA
import Derived.Test.YtdopmkiogmejaaaDoorCvb
namespace Go.Proofs.YtdopmkiogmejaaaDoor
open Go.RowKit Go.Shelf
set_option linter.unusedVariables false
set_option linter.unusedSimpArgs false

theorem toks_a : toksF [97, 92, 50, 54, 32, 98] = [⟨1, 0, 6, [97, 38, 98], [], false⟩, ⟨0, 6, 6, [], [], false⟩] := by decide +kernel
theorem toks_b : toksF [49, 46, 53, 101, 51, 112, 120] = [⟨12, 0, 7, [112, 120], [49, 46, 53, 101, 51], false⟩, ⟨0, 7, 7, [], [], false⟩] := by decide +kernel

set_option maxRecDepth 100000 in
set_option maxHeartbeats 2000000 in
theorem speaks3_any (w : World) (hT : TkW w) : Calls Tryd.prog 4 #[] w (Told (.bool true) w) := by
  have hb0 : ∀ o, Below w.heap.size w (w.alloc o) := fun o => (Below.refl _ w).alloc (Nat.le_refl _) o
  have hr0 := reads_marked w .u8 [97, 92, 50, 54, 32, 98] 5 (6, 7) 6 rfl (by unfold maxLen; omega)
  have c1 := tread_any _ 6 6 [97, 92, 50, 54, 32, 98] _ rfl hr0 (by intro z hz; simp at hz; omega) (by omega) (hT.later (hb0 _))
  rw [toks_a] at c1
  have cv := conv_bytes w #[.int .u8 97, .int .u8 92, .int .u8 50, .int .u8 54, .int .u8 32, .int .u8 98] 6 6
  have HT := Lib.hid hT
  clear hT hr0
  go_enter Tryd.func4, Tryd.ntmps4
  go_wp2_with fail
  refine c1.mono ?_
  rintro e w1 ⟨a1, d1, rfl, hr1, hb1⟩
  have hbw1 := (hb0 (.cells ([97, 92, 50, 54, 32, 98].map (Value.int .u8)).toArray 5 (6, 7))).trans (hb1.mono (by simp))
  have hb10 : ∀ o, Below w1.heap.size w1 (w1.alloc o) := fun o => (Below.refl _ w1).alloc (Nat.le_refl _) o
  have hr0 := reads_marked w1 .u8 [49, 46, 53, 101, 51, 112, 120] 5 (7, 8) 7 rfl (by unfold maxLen; omega)
  have c2 := tread_any _ 7 7 [49, 46, 53, 101, 51, 112, 120] _ rfl hr0 (by intro z hz; simp at hz; omega) (by omega) ((HT.out.later hbw1).later (hb10 _))
  rw [toks_b] at c2
  have cv2 := conv_bytes w1 #[.int .u8 49, .int .u8 46, .int .u8 53, .int .u8 101, .int .u8 51, .int .u8 112, .int .u8 120] 7 7
  clear c1 cv hr0 hb1 hb0
  have HR1 := Lib.hid hr1
  have HBW := Lib.hid hbw1
  clear hr1 hbw1
  go_wp2_with fail
  refine c2.mono ?_
  rintro e w2 ⟨a2, d2, rfl, hr2, hb2⟩
  have hb12 : Below w1.heap.size w1 w2 := (hb10 _).trans (hb2.mono (by simp))
  have hr1 := HR1.out.later hb12
  have hbw2 := below_trans HBW.out hb12
  obtain ⟨hc1, hc1', b1, rfl, hlt1, hcell1⟩ := hr1
  obtain ⟨hc2, hc2', b2, rfl, hlt2, hcell2⟩ := hr2
  have x0 := hcell1 0 _ rfl
  have x3 : w2.cell? ⟨b1, 3, none⟩ = some (.string ⟨#[97, 38, 98]⟩) := hcell1 3 _ rfl
  have y0 := hcell2 0 _ rfl
  have y3 : w2.cell? ⟨b2, 3, none⟩ = some (.string ⟨#[112, 120]⟩) := hcell2 3 _ rfl
  have y4 : w2.cell? ⟨b2, 4, none⟩ = some (.string ⟨#[49, 46, 53, 101, 51]⟩) := hcell2 4 _ rfl
  clear c2 cv2 hb2 hb12 hb10 hcell1 hcell2
  go_wp2
  go_ret
  exact ⟨rfl, hbw2⟩
end Go.Proofs.YtdopmkiogmejaaaDoor
