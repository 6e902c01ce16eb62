/- Texts of mine in one: R9b. -/
import Derived.Test.YtelbjnanpmdnnaaQ39
namespace Go.Proofs.Ytelbjnanpmdnnaa
section
open Go.RowKit
set_option maxRecDepth 100000 in
set_option maxHeartbeats 4000000 in
theorem rnext_space {b off n cap : Nat} {l : List Int} {w : World} (i : Int) (k : Nat) (h : Src w (some ⟨b, off, none⟩) n cap l) (hi : i = (k : Int)) (hk : k ≤ n) (j : Nat) (hj : behindF l k = j) (hjn : j < n) (hsp : spB l j = true) :
    Calls Try.prog 32 #[.slice (some ⟨b, off, none⟩) n cap, .int .i64 i] w (Told (tkV (nextF l k)) w) := by
  subst hi
  have hlen := h.len
  have hsm := h.small
  obtain ⟨hcap1, hcap2⟩ := h.cap
  have hkn : ¬ (n : Int) < (k : Int) := by omega
  have hN : Hid (nextF l k = ⟨13, j, spacesF l j, [], [], false⟩) := Lib.hid (by
    unfold nextF tokAt
    rw [hj]
    rw [if_neg (by rw [hlen]; omega), if_pos hsp])
  have HP := Lib.hid h
  have hS1 : ∀ o, Src (w.alloc o) (some ⟨b, off, none⟩) n cap l := fun o => h.later ((Below.refl _ w).alloc (Nat.le_refl _) _)
  generalize nextF l k = T at *
  go_enter Try.func32, Try.ntmps32
  go_wp2_with fail
  generalize hW1 : w.alloc (.cells [.int .i64 0, .int .i64 0, .int .i64 0, .string ⟨#[]⟩, .string ⟨#[]⟩, .bool false].toArray 52) = w1 at *
  have hz1 : w1.heap.size = w.heap.size + 1 := by rw [← hW1]; simp
  have hb1 : Below w.heap.size w w1 := by rw [← hW1]; exact (Below.refl _ w).alloc (Nat.le_refl _) _
  have B1 : Blk w1 w.heap.size [.int .i64 0, .int .i64 0, .int .i64 0, .string ⟨#[]⟩, .string ⟨#[]⟩, .bool false] 52 := by rw [← hW1]; exact Blk.alloc _ _
  have hS := HP.out.later hb1
  clear hW1 hS1 h
  have fb := rbehind_any (k : Int) k hS rfl hk
  rw [hj] at fb
  obtain ⟨_, _, e0, hc⟩ := hS.cell j hjn
  cases e0
  have hch := chA_ch hS.pre j
  have hjn' : ¬ (n : Int) ≤ (j : Int) := by omega
  have fs := fun w => rspace_any (chA l j) w hch
  rw [show spaceB (chA l j) = true from hsp] at fs
  have r0 := B1.cell 0 _ rfl
  have r1 := B1.cell 1 _ rfl
  have r2 := B1.cell 2 _ rfl
  have r3 := B1.cell 3 _ rfl
  have r4 := B1.cell 4 _ rfl
  have r5 := B1.cell 5 _ rfl
  have zr0 := B1.frozen 0
  have zr1 := B1.frozen 1
  have zr2 := B1.frozen 2
  have zr3 := B1.frozen 3
  have zr4 := B1.frozen 4
  have zr5 := B1.frozen 5
  have HL := Lib.hid hlen
  generalize hR : spacesF l j = R at *
  unfold spacesF at hR
  rw [hlen] at hR
  have HR := Lib.hid hR; clear hR hlen
  generalize chA l j = c at *
  go_wp2_with ((first | (go_at_call 47; with_reducible refine fb.mono ?_) | (go_at_call 48; with_reducible refine (fs _).mono ?_)); rintro e wq ⟨rfl, hwq⟩; replace hwq := hwq.symm; subst hwq)
  go_loopw [7] (fun v wr => ∃ (f q : Nat), v = .int .i64 q ∧ Hid (spacesGo f l q = R) ∧ n < q + f ∧ q ≤ n ∧ wr = w1) (fun v _ => n - (intOf v).toNat)
  case atStart => exact ⟨n + 1, j, rfl, HR, by omega, by omega, rfl⟩
  case round =>
    obtain ⟨f, q, rfl, hG, hf, hq, rfl⟩ := hrel
    have g0 := rspaceAt (q : Int) q hS rfl
    rcases hd : spB l q with _ | _
    · have hE : R = q := by rw [← hG.out]; exact spacesGo_stop f hd
      rw [hd] at g0
      clear hG hd
      go_wp2_with fail
      refine g0.mono ?_
      rintro e wq ⟨rfl, hwq⟩; replace hwq := hwq.symm; subst hwq
      go_wp2
      refine bodyPost_ret (v := .agg #[.int .i64 13, .int .i64 j, .int .i64 q, .string ⟨#[]⟩, .string ⟨#[]⟩, .bool false]) (by simp [results, Try.results32, go_sem, r0, r1, r2, r3, r4, r5]) rfl ⟨by rw [hN.out, hE]; rfl, ?_⟩
      exact (((((hb1.setCell (p := ⟨w.heap.size, 0, none⟩) (Nat.le_refl _) _).setCell (p := ⟨w.heap.size, 1, none⟩) (Nat.le_refl _) _).setCell (p := ⟨w.heap.size, 2, none⟩) (Nat.le_refl _) _).setCell (p := ⟨w.heap.size, 3, none⟩) (Nat.le_refl _) _).setCell (p := ⟨w.heap.size, 4, none⟩) (Nat.le_refl _) _).setCell (p := ⟨w.heap.size, 5, none⟩) (Nat.le_refl _) _
    · have hqn : q < n := by have := lt_of_spB hd; rw [HP.out.len] at this; exact this
      obtain ⟨f, rfl⟩ : ∃ g, f = g + 1 := ⟨f - 1, by omega⟩
      have hG2 : Hid (spacesGo f l (q + 1) = R) := Lib.hid (by rw [← hG.out]; conv => rhs; rw [spacesGo, if_pos hd])
      rw [hd] at g0
      clear hG hd
      go_wp2_with fail
      refine g0.mono ?_
      rintro e wq ⟨rfl, hwq⟩; replace hwq := hwq.symm; subst hwq
      go_wp2
      go_roundw
      case rel => exact ⟨f, q + 1, by go_num, hG2, by omega, by omega, by first | rfl | trivial⟩
      case measure => simp [intOf]; omega
end
end Go.Proofs.Ytelbjnanpmdnnaa
