/- Texts of mine in one: R8. -/
import Derived.Test.YtelbjnanpmdnnaaQ37
namespace Go.Proofs.Ytelbjnanpmdnnaa
section
open Go.RowKit
set_option maxRecDepth 100000 in
set_option maxHeartbeats 4000000 in
theorem rcalled_ident {b off n cap : Nat} {l : List Int} {w : World} (i : Int) (k : Nat) (h : Src w (some ⟨b, off, none⟩) n cap l) (hi : i = (k : Int)) (hk : k < n) (hid : isB l (namesF l k).2 40 = false) :
    Calls Try.prog 55 #[.slice (some ⟨b, off, none⟩) n cap, .int .i64 i] w (Told (tkV (calledF l k)) w) := by
  subst hi
  have hlen := h.len
  have hsm := h.small
  obtain ⟨hcap1, hcap2⟩ := h.cap
  obtain ⟨hn1, hn2⟩ := namesF_le l k
  have hn2 := hn2 (by omega)
  rw [hlen] at hn2
  have hN : Hid (calledF l k = ⟨1, k, (namesF l k).2, bytesF (namesF l k).1, [], false⟩) := Lib.hid (by unfold calledF; rw [hid]; rfl)
  have HP := Lib.hid h
  have hS1 : ∀ o, Src (w.alloc o) (some ⟨b, off, none⟩) n cap l := fun o => h.later ((Below.refl _ w).alloc (Nat.le_refl _) _)
  go_enter Try.func55, Try.ntmps55
  go_wp2_with fail
  generalize hW1 : w.alloc (.cells [.int .i64 0, .int .i64 0, .int .i64 0, .string ⟨#[]⟩, .string ⟨#[]⟩, .bool false].toArray 52) = w1 at *
  have hz1 : w1.heap.size = w.heap.size + 1 := by rw [← hW1]; simp
  have hb1 : Below w.heap.size w w1 := by rw [← hW1]; exact (Below.refl _ w).alloc (Nat.le_refl _) _
  have B1 : Blk w1 w.heap.size [.int .i64 0, .int .i64 0, .int .i64 0, .string ⟨#[]⟩, .string ⟨#[]⟩, .bool false] 52 := by rw [← hW1]; exact Blk.alloc _ _
  have hS := HP.out.later hb1
  clear hW1 hS1 h
  refine (rnames_any (k : Int) k hS rfl (by omega)).mono ?_
  rintro e w2 ⟨rfl, hb2⟩
  have hS2 := hS.later hb2
  have B2 := B1.later hb2 (by omega)
  have hbw2 := hb1.trans (hb2.mono (by omega))
  have f1 := ris_any ((namesF l k).2 : Int) (namesF l k).2 40 hS2 rfl (by decide)
  rw [hid] at f1
  clear hb1 hb2 B1 hS hid
  generalize calledF l k = T at *
  generalize bytesF (namesF l k).1 = txt at *
  generalize (namesF l k).2 = m at *
  have r0 := B2.cell 0 _ rfl
  have r1 := B2.cell 1 _ rfl
  have r2 := B2.cell 2 _ rfl
  have r3 := B2.cell 3 _ rfl
  have r4 := B2.cell 4 _ rfl
  have r5 := B2.cell 5 _ rfl
  have zr0 := B2.frozen 0
  have zr1 := B2.frozen 1
  have zr2 := B2.frozen 2
  have zr3 := B2.frozen 3
  have zr4 := B2.frozen 4
  have zr5 := B2.frozen 5
  go_wp2_with fail
  refine f1.mono ?_
  rintro e wq ⟨rfl, hwq⟩; replace hwq := hwq.symm; subst hwq
  go_wp2
  refine bodyPost_ret (v := .agg #[.int .i64 1, .int .i64 k, .int .i64 m, .string (strOfNums txt), .string ⟨#[]⟩, .bool false]) (by simp [results, Try.results55, go_sem, r0, r1, r2, r3, r4, r5]) rfl ⟨by rw [hN.out]; rfl, ?_⟩
  exact (((((hbw2.setCell (p := ⟨w.heap.size, 0, none⟩) (Nat.le_refl _) _).setCell (p := ⟨w.heap.size, 1, none⟩) (Nat.le_refl _) _).setCell (p := ⟨w.heap.size, 2, none⟩) (Nat.le_refl _) _).setCell (p := ⟨w.heap.size, 3, none⟩) (Nat.le_refl _) _).setCell (p := ⟨w.heap.size, 4, none⟩) (Nat.le_refl _) _).setCell (p := ⟨w.heap.size, 5, none⟩) (Nat.le_refl _) _
end
end Go.Proofs.Ytelbjnanpmdnnaa
