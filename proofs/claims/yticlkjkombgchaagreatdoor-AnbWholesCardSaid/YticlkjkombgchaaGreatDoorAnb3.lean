/- The head of "2n + 1", read from its tokens: walks. -/
import Derived.Test.YticlkjkombgchaaGreatDoorAnb2
namespace Go.Proofs.YticlkjkombgchaaGreatDoor
open Go.RowKit

theorem whole_t0 (w : World) : Calls Tryz.prog 57 #[.agg #[.int .i64 12, .int .i64 0, .int .i64 2, .string ⟨#[110]⟩, .string ⟨#[50]⟩, .bool true], .int .i64 12] w (Told (.bool true) w) := by
  have h := isWhole_any ⟨12, 0, 2, [110], [50], true⟩ 12 w (by decide +kernel)
  rw [show wholeT ⟨12, 0, 2, [110], [50], true⟩ 12 = true from by decide +kernel] at h
  unfold tkV tkCells at h
  dsimp only at h
  rw [nn, n2] at h
  exact h
theorem whole_t0n (w : World) : Calls Tryz.prog 57 #[.agg #[.int .i64 12, .int .i64 0, .int .i64 2, .string ⟨#[110]⟩, .string ⟨#[50]⟩, .bool true], .int .i64 10] w (Told (.bool false) w) := by
  have h := isWhole_any ⟨12, 0, 2, [110], [50], true⟩ 10 w (by decide +kernel)
  rw [show wholeT ⟨12, 0, 2, [110], [50], true⟩ 10 = false from by decide +kernel] at h
  unfold tkV tkCells at h
  dsimp only at h
  rw [nn, n2] at h
  exact h
theorem whole_t2 (w : World) : Calls Tryz.prog 57 #[.agg #[.int .i64 9, .int .i64 3, .int .i64 4, .string ⟨#[43]⟩, .string ⟨#[]⟩, .bool false], .int .i64 10] w (Told (.bool false) w) := by
  have h := isWhole_any ⟨9, 3, 4, [43], [], false⟩ 10 w (by decide +kernel)
  rw [show wholeT ⟨9, 3, 4, [43], [], false⟩ 10 = false from by decide +kernel] at h
  unfold tkV tkCells at h
  dsimp only at h
  rw [np, n0] at h
  exact h
theorem sign_t2 (w : World) : Calls Tryz.prog 108 #[.agg #[.int .i64 9, .int .i64 3, .int .i64 4, .string ⟨#[43]⟩, .string ⟨#[]⟩, .bool false], .string ⟨#[43]⟩] w (Told (.bool true) w) := by
  have h := isSign_any ⟨9, 3, 4, [43], [], false⟩ ⟨#[43]⟩ w
  rw [show signT ⟨9, 3, 4, [43], [], false⟩ ⟨#[43]⟩ = true from by decide +kernel] at h
  unfold tkV tkCells at h
  dsimp only at h
  rw [np, n0] at h
  exact h

set_option maxRecDepth 100000 in
set_option maxHeartbeats 2000000 in
theorem readHead_0 (a : Option Addr) (cap : Nat) (w : World) (h : ReadsT w a cap T0) :
    Calls Tryz.prog 58 #[.slice a 6 cap, .int .i64 0] w (Told (.tuple #[.agg #[.string ⟨#[50]⟩, .string ⟨#[]⟩, .int .i64 1], .bool true]) w) := by
  obtain ⟨b, rfl, hbl, hcap1, hcap2, hc⟩ := T0_cells h
  have hW := h.later ((Below.refl _ w).alloc (Nat.le_refl _) (.cells [.string ⟨#[]⟩, .string ⟨#[]⟩, .int .i64 0].toArray 84))
  have hbW := (Below.refl w.heap.size w).alloc (Nat.le_refl _) (.cells [.string ⟨#[]⟩, .string ⟨#[]⟩, .int .i64 0].toArray 84)
  have hB : Blk (w.alloc (.cells [.string ⟨#[]⟩, .string ⟨#[]⟩, .int .i64 0].toArray 84)) w.heap.size [.string ⟨#[]⟩, .string ⟨#[]⟩, .int .i64 0] 84 := Blk.alloc _ _
  have hZ : (w.alloc (.cells [.string ⟨#[]⟩, .string ⟨#[]⟩, .int .i64 0].toArray 84)).heap.size = w.heap.size + 1 := by simp
  have c3 := hc 3 _ rfl
  rw [nn] at c3
  have hcap1' : (6 : Int) ≤ (cap : Int) := by omega
  have fL := fun w => lower_n w
  clear hc h
  go_enter Tryz.func58, Tryz.ntmps58
  go_wp2_with fail
  refine (fL _).mono ?_
  rintro e w1 ⟨rfl, hb1⟩
  have h1 := hW.later hb1
  have B1 := hB.later hb1 (by omega)
  have hbw1 := hbW.trans (hb1.mono (by omega))
  have hz1 := hb1.size
  rw [hZ] at hz1
  clear hW hB hb1 hbW hZ c3 hcap1
  obtain ⟨_, e1, _, _, _, hc⟩ := T0_cells h1
  cases e1
  have c0 := hc 0 _ rfl
  have c1 := hc 1 _ rfl
  have c2 := hc 2 _ rfl
  have c3 := hc 3 _ rfl
  have c4 := hc 4 _ rfl
  have c5 := hc 5 _ rfl
  rw [nn] at c3
  rw [n2] at c4
  clear hc
  have hb1' : b < w1.heap.size := by omega
  go_wp2_with fail
  have hbA := hbw1.alloc hbw1.size (.cells [.string ⟨#[49]⟩, .string ⟨#[]⟩, .int .i64 1].toArray 84)
  have hbB := hbA.alloc hbA.size (.cells [.int .i64 12, .int .i64 0, .int .i64 2, .string ⟨#[110]⟩, .string ⟨#[50]⟩, .bool true].toArray 32)
  have BA : Blk (w1.alloc (.cells [.string ⟨#[49]⟩, .string ⟨#[]⟩, .int .i64 1].toArray 84)) w1.heap.size [.string ⟨#[49]⟩, .string ⟨#[]⟩, .int .i64 1] 84 := Blk.alloc _ _
  have BAB := BA.alloc_old (.cells [.int .i64 12, .int .i64 0, .int .i64 2, .string ⟨#[110]⟩, .string ⟨#[50]⟩, .bool true].toArray 32)
  have BB : Blk ((w1.alloc (.cells [.string ⟨#[49]⟩, .string ⟨#[]⟩, .int .i64 1].toArray 84)).alloc (.cells [.int .i64 12, .int .i64 0, .int .i64 2, .string ⟨#[110]⟩, .string ⟨#[50]⟩, .bool true].toArray 32)) (w1.alloc (.cells [.string ⟨#[49]⟩, .string ⟨#[]⟩, .int .i64 1].toArray 84)).heap.size [.int .i64 12, .int .i64 0, .int .i64 2, .string ⟨#[110]⟩, .string ⟨#[50]⟩, .bool true] 32 := Blk.alloc _ _
  have B1B := (B1.alloc_old (.cells [.string ⟨#[49]⟩, .string ⟨#[]⟩, .int .i64 1].toArray 84)).alloc_old (.cells [.int .i64 12, .int .i64 0, .int .i64 2, .string ⟨#[110]⟩, .string ⟨#[50]⟩, .bool true].toArray 32)
  have hzB : ((w1.alloc (.cells [.string ⟨#[49]⟩, .string ⟨#[]⟩, .int .i64 1].toArray 84)).alloc (.cells [.int .i64 12, .int .i64 0, .int .i64 2, .string ⟨#[110]⟩, .string ⟨#[50]⟩, .bool true].toArray 32)).heap.size = w1.heap.size + 2 := by simp
  rw [show (w1.alloc (.cells [.string ⟨#[49]⟩, .string ⟨#[]⟩, .int .i64 1].toArray 84)).heap.size = w1.heap.size + 1 from by simp] at BB
  refine (whole_t0 _).mono ?_
  rintro e w2 ⟨rfl, hb2⟩
  have BA2 := BAB.later hb2 (by omega)
  have BB2 := BB.later hb2 (by omega)
  have B12 := B1B.later hb2 (by omega)
  have hbw2 := hbB.trans (hb2.mono (by omega))
  have hne1 : ¬ w.heap.size = w1.heap.size := by omega
  have hne2 : ¬ w1.heap.size = w.heap.size := by omega
  clear c0 c1 c2 c3 c4 c5 hbA hbB BA BAB BB B1B hzB hb2 B1 h1 hbw1
  have c4 := BB2.cell 4 _ rfl
  have a0 := BA2.cell 0 _ rfl
  have a1 := BA2.cell 1 _ rfl
  have a2 := BA2.cell 2 _ rfl
  have x0 := BA2.frozen 0
  have x1 := BA2.frozen 1
  have x2 := BA2.frozen 2
  have r0 := B12.cell 0 _ rfl
  have r1 := B12.cell 1 _ rfl
  have r2 := B12.cell 2 _ rfl
  have y0 := B12.frozen 0
  have y1 := B12.frozen 1
  have y2 := B12.frozen 2
  generalize w1.heap.size = p at *
  have fC := fun w => cutPrefix_n w
  go_wp2_with (go_at_call 109; refine (fC _).mono ?_; rintro e wq ⟨rfl, hwq⟩; replace hwq := hwq.symm; subst hwq)
  refine bodyPost_ret (v := .tuple #[.agg #[.string ⟨#[50]⟩, .string ⟨#[]⟩, .int .i64 1], .bool true]) (by simp [results, Tryz.results58, go_sem, r0, r1, r2]) rfl ⟨rfl, ?_⟩
  exact ((((hbw2.setCell (p := ⟨p, 0, none⟩) (by show w.heap.size ≤ p; omega) _).setCell (p := ⟨p, 1, none⟩) (by show w.heap.size ≤ p; omega) _).setCell (p := ⟨w.heap.size, 0, none⟩) (Nat.le_refl _) _).setCell (p := ⟨w.heap.size, 1, none⟩) (Nat.le_refl _) _).setCell (p := ⟨w.heap.size, 2, none⟩) (Nat.le_refl _) _
end Go.Proofs.YticlkjkombgchaaGreatDoor
