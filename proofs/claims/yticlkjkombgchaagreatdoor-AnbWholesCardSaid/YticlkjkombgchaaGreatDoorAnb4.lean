/- The rest of "2n + 1", read from its tokens: walks. -/
import Derived.Test.YticlkjkombgchaaGreatDoorAnb3
namespace Go.Proofs.YticlkjkombgchaaGreatDoor
open Go.RowKit

theorem blanks_T0 (a : Option Addr) (cap : Nat) (w : World) (h : ReadsT w a cap T0) (i : Int) (k r : Nat) (hi : i = (k : Int)) (hk : k ≤ 6) (hr : blF T0 k = r) :
    Calls Tryz.prog 55 #[.slice a 6 cap, .int .i64 i] w (Tells (.int .i64 r) w) := by
  have := passBlanks_any T0 6 cap a i k w h rfl (by decide) hi hk
  rwa [hr] at this
theorem plain_T0 (a : Option Addr) (cap : Nat) (w : World) (h : ReadsT w a cap T0) : Calls Tryz.prog 111 #[.slice a 6 cap, .int .i64 4] w (Told (.bool true) w) := by
  have := isPlain_any T0 6 cap a 4 4 w h rfl (by decide) rfl (by decide +kernel)
  rwa [show plainT T0 4 = true from by decide +kernel] at this

set_option maxRecDepth 100000 in
set_option maxHeartbeats 2000000 in
theorem behind_1 (a : Option Addr) (cap : Nat) (w : World) (h : ReadsT w a cap T0) :
    Calls Tryz.prog 110 #[.slice a 6 cap, .int .i64 1] w (Told (.tuple #[.string ⟨#[43, 49]⟩, .int .i64 5]) w) := by
  obtain ⟨b, rfl, hbl, hcap1, hcap2, hc⟩ := T0_cells h
  have f0 := blanks_T0 _ cap w h 1 1 2 rfl (by decide) (by decide +kernel)
  have c0 := hc 12 _ rfl
  have c1 := hc 13 _ rfl
  have c2 := hc 14 _ rfl
  have c3 := hc 15 _ rfl
  have c4 := hc 16 _ rfl
  have c5 := hc 17 _ rfl
  rw [np] at c3
  rw [n0] at c4
  have hcap1' : (6 : Int) ≤ (cap : Int) := by omega
  clear hc
  go_enter Tryz.func110, Tryz.ntmps110
  go_wp2_with (go_at_call 55; refine f0.mono ?_; rintro e wq ⟨rfl, hwq⟩; replace hwq := hwq.symm; subst hwq)
  have hbA := (Below.refl w.heap.size w).alloc (Nat.le_refl _) (.cells [.int .i64 9, .int .i64 3, .int .i64 4, .string ⟨#[43]⟩, .string ⟨#[]⟩, .bool false].toArray 32)
  have BA : Blk (w.alloc (.cells [.int .i64 9, .int .i64 3, .int .i64 4, .string ⟨#[43]⟩, .string ⟨#[]⟩, .bool false].toArray 32)) w.heap.size [.int .i64 9, .int .i64 3, .int .i64 4, .string ⟨#[43]⟩, .string ⟨#[]⟩, .bool false] 32 := Blk.alloc _ _
  have hA := h.later hbA
  have hzA : (w.alloc (.cells [.int .i64 9, .int .i64 3, .int .i64 4, .string ⟨#[43]⟩, .string ⟨#[]⟩, .bool false].toArray 32)).heap.size = w.heap.size + 1 := by simp
  refine (whole_t2 _).mono ?_
  rintro e w1 ⟨rfl, hb1⟩
  have h1 := hA.later hb1
  have B1 := BA.later hb1 (by omega)
  have hbw1 := hbA.trans (hb1.mono (by omega))
  have hz1 := hb1.size
  clear hA BA hbA hb1 c0 c1 c2 c3 c4 c5 f0
  have f1 := blanks_T0 _ cap w1 h1 3 3 4 rfl (by decide) (by decide +kernel)
  have d0 := B1.cell 0 _ rfl
  have d1 := B1.cell 1 _ rfl
  have d2 := B1.cell 2 _ rfl
  have d3 := B1.cell 3 _ rfl
  have d4 := B1.cell 4 _ rfl
  have d5 := B1.cell 5 _ rfl
  have fS := fun w => sign_t2 w
  have hst : ∀ {w' : World}, Below w1.heap.size w1 w' → ReadsT w' (some ⟨b, 0, none⟩) cap T0 := fun hb => h1.later hb
  go_wp2_with (first | (go_at_call 55; refine f1.mono ?_; rintro e wq ⟨rfl, hwq⟩; replace hwq := hwq.symm; subst hwq) | (go_at_call 108; refine (fS _).mono ?_; rintro e w2 ⟨rfl, hb2⟩) | (go_at_call 111; refine (plain_T0 _ _ _ (hst hb2)).mono ?_; rintro e w3 ⟨rfl, hb3⟩))
  have hb23 := hb2.trans (hb3.mono hb2.size)
  have h3 := h1.later hb23
  have B3 := B1.later hb23 (by omega)
  have hbw3 := hbw1.trans (hb23.mono (by omega))
  obtain ⟨_, e1, hbl3, _, _, hc⟩ := T0_cells h3
  cases e1
  have g4 := hc 28 _ rfl
  rw [n1] at g4
  have g3 := B3.cell 3 _ rfl
  clear d0 d1 d2 d3 d4 d5 hc f1 hst hb2 hb3 hb23 h1 B1
  have hap : (ByteArray.mk #[43] ++ ByteArray.mk #[49] : ByteArray) = ⟨#[43, 49]⟩ := by decide +kernel
  go_quiet (fail)
  go_wp2
  go_ret2
  exact ⟨by first | rfl | (simp [hap]), below_drewN hbw3 _⟩

set_option maxRecDepth 100000 in
set_option maxHeartbeats 2000000 in
theorem row_0 (a : Option Addr) (cap : Nat) (w : World) (h : ReadsT w a cap T0) :
    Calls Tryz.prog 59 #[.agg #[.string ⟨#[50]⟩, .string ⟨#[]⟩, .int .i64 1], .slice a 6 cap] w (Told (.tuple #[.agg #[.string ⟨#[50]⟩, .string ⟨#[43, 49]⟩, .int .i64 5], .bool true]) w) := by
  have hbA := (Below.refl w.heap.size w).alloc (Nat.le_refl _) (.cells [.string ⟨#[50]⟩, .string ⟨#[]⟩, .int .i64 1].toArray 84)
  have hbB := hbA.alloc hbA.size (.cells [.string ⟨#[]⟩, .string ⟨#[]⟩, .int .i64 0].toArray 60)
  have hB := h.later hbB
  go_enter Tryz.func59, Tryz.ntmps59
  go_wp2_with fail
  have BA := (Blk.alloc (w := w) [.string ⟨#[50]⟩, .string ⟨#[]⟩, .int .i64 1] 84).alloc_old (.cells [.string ⟨#[]⟩, .string ⟨#[]⟩, .int .i64 0].toArray 60)
  have BB := Blk.alloc (w := w.alloc (.cells [.string ⟨#[50]⟩, .string ⟨#[]⟩, .int .i64 1].toArray 84)) [.string ⟨#[]⟩, .string ⟨#[]⟩, .int .i64 0] 60
  rw [show (w.alloc (.cells [.string ⟨#[50]⟩, .string ⟨#[]⟩, .int .i64 1].toArray 84)).heap.size = w.heap.size + 1 from by simp] at BB
  have hzB : ((w.alloc (.cells [.string ⟨#[50]⟩, .string ⟨#[]⟩, .int .i64 1].toArray 84)).alloc (.cells [.string ⟨#[]⟩, .string ⟨#[]⟩, .int .i64 0].toArray 60)).heap.size = w.heap.size + 2 := by simp
  refine (behind_1 _ _ _ hB).mono ?_
  rintro e w1 ⟨rfl, hb1⟩
  have B1 := BA.later hb1 (by omega)
  have R1 := BB.later hb1 (by omega)
  have hbw1 := hbB.trans (hb1.mono (by omega))
  clear BA BB hb1 hzB hB hbA hbB
  have a0 := B1.cell 0 _ rfl
  have r0 := R1.cell 0 _ rfl
  have r1 := R1.cell 1 _ rfl
  have r2 := R1.cell 2 _ rfl
  have y0 := R1.frozen 0
  have y1 := R1.frozen 1
  have y2 := R1.frozen 2
  go_wp2
  refine bodyPost_ret (v := .tuple #[.agg #[.string ⟨#[50]⟩, .string ⟨#[43, 49]⟩, .int .i64 5], .bool true]) (by simp [results, Tryz.results59, go_sem, r0, r1, r2]) rfl ⟨rfl, ?_⟩
  exact ((hbw1.setCell (p := ⟨w.heap.size + 1, 0, none⟩) (by show w.heap.size ≤ w.heap.size + 1; omega) _).setCell (p := ⟨w.heap.size + 1, 1, none⟩) (by show w.heap.size ≤ w.heap.size + 1; omega) _).setCell (p := ⟨w.heap.size + 1, 2, none⟩) (by show w.heap.size ≤ w.heap.size + 1; omega) _

set_option maxRecDepth 100000 in
set_option maxHeartbeats 2000000 in
theorem find_0 (a : Option Addr) (cap : Nat) (w : World) (h : ReadsT w a cap T0) :
    Calls Tryz.prog 36 #[.slice a 6 cap] w (Told (.tuple #[.agg #[.string ⟨#[50]⟩, .string ⟨#[43, 49]⟩, .int .i64 5], .bool true]) w) := by
  have hbA := (Below.refl w.heap.size w).alloc (Nat.le_refl _) (.cells [.string ⟨#[]⟩, .string ⟨#[]⟩, .int .i64 0].toArray 60)
  have hzA : (w.alloc (.cells [.string ⟨#[]⟩, .string ⟨#[]⟩, .int .i64 0].toArray 60)).heap.size = w.heap.size + 1 := by simp
  have hA := h.later hbA
  have BA : Blk (w.alloc (.cells [.string ⟨#[]⟩, .string ⟨#[]⟩, .int .i64 0].toArray 60)) w.heap.size [.string ⟨#[]⟩, .string ⟨#[]⟩, .int .i64 0] 60 := Blk.alloc _ _
  obtain ⟨b, rfl, hbl, hcap1, hcap2, hc⟩ := T0_cells hA
  have f0 := blanks_T0 _ cap _ hA 0 0 0 rfl (by decide) (by decide +kernel)
  have hcap1' : (6 : Int) ≤ (cap : Int) := by omega
  go_enter Tryz.func36, Tryz.ntmps36
  go_wp2_with fail
  generalize w.alloc (.cells [.string ⟨#[]⟩, .string ⟨#[]⟩, .int .i64 0].toArray 60) = w1 at *
  have c0 := hc 0 _ rfl
  have c1 := hc 1 _ rfl
  have c2 := hc 2 _ rfl
  have c3 := hc 3 _ rfl
  have c4 := hc 4 _ rfl
  have c5 := hc 5 _ rfl
  rw [nn] at c3
  rw [n2] at c4
  clear hc
  refine f0.mono ?_
  rintro e wq ⟨rfl, hwq⟩; replace hwq := hwq.symm; subst hwq
  go_wp2_with fail
  have hbB := hbA.alloc hbA.size (.cells [.int .i64 12, .int .i64 0, .int .i64 2, .string ⟨#[110]⟩, .string ⟨#[50]⟩, .bool true].toArray 32)
  have hB := hA.later ((Below.refl w1.heap.size w1).alloc (Nat.le_refl _) (.cells [.int .i64 12, .int .i64 0, .int .i64 2, .string ⟨#[110]⟩, .string ⟨#[50]⟩, .bool true].toArray 32))
  have BB := BA.alloc_old (.cells [.int .i64 12, .int .i64 0, .int .i64 2, .string ⟨#[110]⟩, .string ⟨#[50]⟩, .bool true].toArray 32)
  have hzB : (w1.alloc (.cells [.int .i64 12, .int .i64 0, .int .i64 2, .string ⟨#[110]⟩, .string ⟨#[50]⟩, .bool true].toArray 32)).heap.size = w1.heap.size + 1 := by simp
  refine (whole_t0n _).mono ?_
  rintro e w2 ⟨rfl, hb2⟩
  have h2 := hB.later hb2
  have B2 := BB.later hb2 (by omega)
  have hbw2 := hbB.trans (hb2.mono (by omega))
  have hz2 := hb2.size
  clear hB BB hb2 hbB c0 c1 c2 c3 c4 c5 hA BA hbA f0
  go_wp2_with fail
  refine (readHead_0 _ _ _ h2).mono ?_
  rintro e w3 ⟨rfl, hb3⟩
  have h3 := h2.later hb3
  have B3 := B2.later hb3 (by omega)
  have hbw3 := hbw2.trans (hb3.mono (by omega))
  have hz3 := hb3.size
  clear h2 B2 hbw2 hb3
  go_wp2_with fail
  have hb4 := (Below.refl w3.heap.size w3).alloc (Nat.le_refl _) (.cells [.string ⟨#[50]⟩, .string ⟨#[]⟩, .int .i64 1].toArray 84)
  have h4 := h3.later hb4
  have B4 := B3.later hb4 (by omega)
  have hbw4 := hbw3.trans (hb4.mono (by omega))
  have hz4 := hb4.size
  refine (row_0 _ _ _ h4).mono ?_
  rintro e w5 ⟨rfl, hb5⟩
  have B5 := B4.later hb5 (by omega)
  have hbw5 := hbw4.trans (hb5.mono (by omega))
  have r0 := B5.cell 0 _ rfl
  have r1 := B5.cell 1 _ rfl
  have r2 := B5.cell 2 _ rfl
  have y0 := B5.frozen 0
  have y1 := B5.frozen 1
  have y2 := B5.frozen 2
  clear h3 B3 hbw3 hb4 h4 B4 hbw4 hb5
  go_wp2
  refine bodyPost_ret (v := .tuple #[.agg #[.string ⟨#[50]⟩, .string ⟨#[43, 49]⟩, .int .i64 5], .bool true]) (by simp [results, Tryz.results36, go_sem, r0, r1, r2]) rfl ⟨rfl, ?_⟩
  exact ((hbw5.setCell (p := ⟨w.heap.size, 0, none⟩) (Nat.le_refl _) _).setCell (p := ⟨w.heap.size, 1, none⟩) (Nat.le_refl _) _).setCell (p := ⟨w.heap.size, 2, none⟩) (Nat.le_refl _) _
end Go.Proofs.YticlkjkombgchaaGreatDoor
