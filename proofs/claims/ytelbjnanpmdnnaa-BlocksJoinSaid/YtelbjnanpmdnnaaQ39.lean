/- Texts of mine in one: R9. -/
import Derived.Test.YtelbjnanpmdnnaaQ38
namespace Go.Proofs.Ytelbjnanpmdnnaa
section
open Go.RowKit
set_option maxRecDepth 100000 in
set_option maxHeartbeats 4000000 in
theorem rnext_end {a : Option Addr} {n cap : Nat} {l : List Int} {w : World} (i : Int) (k : Nat) (h : Src w a n cap l) (hi : i = (k : Int)) (hk : k ≤ n) (j : Nat) (hj : behindF l k = j) (hjn : n ≤ j) :
    Calls Try.prog 32 #[.slice a n cap, .int .i64 i] w (Told (tkV (nextF l k)) w) := by
  subst hi
  have hlen := h.len
  have hsm := h.small
  obtain ⟨hcap1, hcap2⟩ := h.cap
  have hkn : ¬ (n : Int) < (k : Int) := by omega
  have hN : Hid (nextF l k = ⟨0, n, n, [], [], false⟩) := Lib.hid (by
    unfold nextF tokAt
    rw [hj]
    rw [if_pos (by rw [hlen]; exact hjn), hlen])
  have HP := Lib.hid h
  have hS1 : ∀ o, Src (w.alloc o) a n cap l := fun o => h.later ((Below.refl _ w).alloc (Nat.le_refl _) _)
  generalize nextF l k = T at *
  go_enter Try.func32, Try.ntmps32
  go_wp2_with fail
  generalize hW1 : w.alloc (.cells [.int .i64 0, .int .i64 0, .int .i64 0, .string ⟨#[]⟩, .string ⟨#[]⟩, .bool false].toArray 52) = w1 at *
  have hz1 : w1.heap.size = w.heap.size + 1 := by rw [← hW1]; simp
  have hb1 : Below w.heap.size w w1 := by rw [← hW1]; exact (Below.refl _ w).alloc (Nat.le_refl _) _
  have B1 : Blk w1 w.heap.size [.int .i64 0, .int .i64 0, .int .i64 0, .string ⟨#[]⟩, .string ⟨#[]⟩, .bool false] 52 := by rw [← hW1]; exact Blk.alloc _ _
  have hS := HP.out.later hb1
  clear hW1 hS1 h
  have fb := rbehind_any (k : Int) k hS rfl hk
  rw [hj] at fb
  have hjn' : (n : Int) ≤ (j : Int) := by omega
  have r0 := B1.cell 0 _ rfl
  have r1 := B1.cell 1 _ rfl
  have r2 := B1.cell 2 _ rfl
  have r3 := B1.cell 3 _ rfl
  have r4 := B1.cell 4 _ rfl
  have r5 := B1.cell 5 _ rfl
  have zr0 := B1.frozen 0
  have zr1 := B1.frozen 1
  have zr2 := B1.frozen 2
  have zr3 := B1.frozen 3
  have zr4 := B1.frozen 4
  have zr5 := B1.frozen 5
  go_wp2_with ((first | (go_at_call 47; with_reducible refine fb.mono ?_)); rintro e wq ⟨rfl, hwq⟩; replace hwq := hwq.symm; subst hwq)
  refine bodyPost_ret (v := .agg #[.int .i64 0, .int .i64 n, .int .i64 n, .string ⟨#[]⟩, .string ⟨#[]⟩, .bool false]) (by simp [results, Try.results32, go_sem, r0, r1, r2, r3, r4, r5]) rfl ⟨by rw [hN.out]; rfl, ?_⟩
  exact (((((hb1.setCell (p := ⟨w.heap.size, 0, none⟩) (Nat.le_refl _) _).setCell (p := ⟨w.heap.size, 1, none⟩) (Nat.le_refl _) _).setCell (p := ⟨w.heap.size, 2, none⟩) (Nat.le_refl _) _).setCell (p := ⟨w.heap.size, 3, none⟩) (Nat.le_refl _) _).setCell (p := ⟨w.heap.size, 4, none⟩) (Nat.le_refl _) _).setCell (p := ⟨w.heap.size, 5, none⟩) (Nat.le_refl _) _
set_option maxRecDepth 100000 in
set_option maxHeartbeats 4000000 in
theorem rnext_num {b off n cap : Nat} {l : List Int} {w : World} (i : Int) (k : Nat) (h : Src w (some ⟨b, off, none⟩) n cap l) (hi : i = (k : Int)) (hk : k ≤ n) (j : Nat) (hj : behindF l k = j) (hjn : j < n) (hsp : spB l j = false) (hq1 : isB l j 34 = false) (hq2 : isB l j 39 = false) (hnu : numAt l j = true) :
    Calls Try.prog 32 #[.slice (some ⟨b, off, none⟩) n cap, .int .i64 i] w (Told (tkV (nextF l k)) w) := by
  subst hi
  have hlen := h.len
  have hsm := h.small
  obtain ⟨hcap1, hcap2⟩ := h.cap
  have hkn : ¬ (n : Int) < (k : Int) := by omega
  have hN : Hid (nextF l k = numericF l j) := Lib.hid (by
    unfold nextF tokAt
    rw [hj]
    rw [if_neg (by rw [hlen]; omega), if_neg (by rw [hsp]; decide), if_neg (by rw [hq1, hq2]; decide), if_pos hnu])
  have HP := Lib.hid h
  have hS1 : ∀ o, Src (w.alloc o) (some ⟨b, off, none⟩) n cap l := fun o => h.later ((Below.refl _ w).alloc (Nat.le_refl _) _)
  generalize nextF l k = T at *
  go_enter Try.func32, Try.ntmps32
  go_wp2_with fail
  generalize hW1 : w.alloc (.cells [.int .i64 0, .int .i64 0, .int .i64 0, .string ⟨#[]⟩, .string ⟨#[]⟩, .bool false].toArray 52) = w1 at *
  have hz1 : w1.heap.size = w.heap.size + 1 := by rw [← hW1]; simp
  have hb1 : Below w.heap.size w w1 := by rw [← hW1]; exact (Below.refl _ w).alloc (Nat.le_refl _) _
  have B1 : Blk w1 w.heap.size [.int .i64 0, .int .i64 0, .int .i64 0, .string ⟨#[]⟩, .string ⟨#[]⟩, .bool false] 52 := by rw [← hW1]; exact Blk.alloc _ _
  have hS := HP.out.later hb1
  clear hW1 hS1 h
  have fb := rbehind_any (k : Int) k hS rfl hk
  rw [hj] at fb
  have fn := rnumAt_any (j : Int) j hS rfl (by omega)
  obtain ⟨_, _, e0, hc⟩ := hS.cell j hjn
  cases e0
  have hch := chA_ch hS.pre j
  have hjn' : ¬ (n : Int) ≤ (j : Int) := by omega
  have fs := fun w => rspace_any (chA l j) w hch
  rw [show spaceB (chA l j) = false from hsp] at fs
  rw [hnu] at fn
  have q1 : (chA l j == 34) = false := hq1
  have q2 : (chA l j == 39) = false := hq2
  have r0 := B1.cell 0 _ rfl
  have r1 := B1.cell 1 _ rfl
  have r2 := B1.cell 2 _ rfl
  have r3 := B1.cell 3 _ rfl
  have r4 := B1.cell 4 _ rfl
  have r5 := B1.cell 5 _ rfl
  have zr0 := B1.frozen 0
  have zr1 := B1.frozen 1
  have zr2 := B1.frozen 2
  have zr3 := B1.frozen 3
  have zr4 := B1.frozen 4
  have zr5 := B1.frozen 5
  clear hsp hq1 hq2 hnu hj
  have fz := rnumeric_any (j : Int) j hS rfl hjn
  generalize numericF l j = U at *
  generalize chA l j = c at *
  go_wp2_with ((first | (go_at_call 47; with_reducible refine fb.mono ?_) | (go_at_call 48; with_reducible refine (fs _).mono ?_) | (go_at_call 51; with_reducible refine fn.mono ?_)); rintro e wq ⟨rfl, hwq⟩; replace hwq := hwq.symm; subst hwq)
  refine fz.mono ?_
  rintro e w2 ⟨rfl, hb2⟩
  have B2 := B1.later hb2 (by omega)
  have hbw2 := hb1.trans (hb2.mono (by omega))
  clear r0 r1 r2 r3 r4 r5 zr0 zr1 zr2 zr3 zr4 zr5 fs fb fn hS
  unfold tkV tkCells
  have r0 := B2.cell 0 _ rfl
  have r1 := B2.cell 1 _ rfl
  have r2 := B2.cell 2 _ rfl
  have r3 := B2.cell 3 _ rfl
  have r4 := B2.cell 4 _ rfl
  have r5 := B2.cell 5 _ rfl
  have zr0 := B2.frozen 0
  have zr1 := B2.frozen 1
  have zr2 := B2.frozen 2
  have zr3 := B2.frozen 3
  have zr4 := B2.frozen 4
  have zr5 := B2.frozen 5
  go_wp2
  refine bodyPost_ret (v := .agg #[.int .i64 U.kind, .int .i64 U.frm, .int .i64 U.to, .string (strOfNums U.text), .string (strOfNums U.num), .bool U.whole]) (by simp [results, Try.results32, go_sem, r0, r1, r2, r3, r4, r5]) rfl ⟨by rw [hN.out]; rfl, ?_⟩
  exact (((((hbw2.setCell (p := ⟨w.heap.size, 0, none⟩) (Nat.le_refl _) _).setCell (p := ⟨w.heap.size, 1, none⟩) (Nat.le_refl _) _).setCell (p := ⟨w.heap.size, 2, none⟩) (Nat.le_refl _) _).setCell (p := ⟨w.heap.size, 3, none⟩) (Nat.le_refl _) _).setCell (p := ⟨w.heap.size, 4, none⟩) (Nat.le_refl _) _).setCell (p := ⟨w.heap.size, 5, none⟩) (Nat.le_refl _) _
end
end Go.Proofs.Ytelbjnanpmdnnaa
