/- Texts of mine in one: R7. -/
import Derived.Test.YtelbjnanpmdnnaaQ36
namespace Go.Proofs.Ytelbjnanpmdnnaa
section
open Go.RowKit
set_option maxRecDepth 100000 in
set_option maxHeartbeats 4000000 in
theorem rnumeric_any {b off n cap : Nat} {l : List Int} {w : World} (i : Int) (k : Nat) (h : Src w (some ⟨b, off, none⟩) n cap l) (hi : i = (k : Int)) (hk : k < n) :
    Calls Try.prog 52 #[.slice (some ⟨b, off, none⟩) n cap, .int .i64 i] w (Told (tkV (numericF l k)) w) := by
  subst hi
  have hlen := h.len
  have hsm := h.small
  obtain ⟨hcap1, hcap2⟩ := h.cap
  obtain ⟨hn1, hn2⟩ := numberF_le l k
  have hn2 := hn2 (by omega)
  rw [hlen] at hn2
  have hN : Hid (numericF l k = if nameAt l (numberF l k).1 then ⟨12, k, (namesF l (numberF l k).1).2, bytesF (namesF l (numberF l k).1).1, bytesF (sliceF l k (numberF l k).1), (numberF l k).2⟩
    else if isB l (numberF l k).1 37 then ⟨11, k, (numberF l k).1 + 1, [], bytesF (sliceF l k (numberF l k).1), (numberF l k).2⟩
    else ⟨10, k, (numberF l k).1, [], bytesF (sliceF l k (numberF l k).1), (numberF l k).2⟩) := Lib.hid rfl
  have HP := Lib.hid h
  have hS1 : ∀ o, Src (w.alloc o) (some ⟨b, off, none⟩) n cap l := fun o => h.later ((Below.refl _ w).alloc (Nat.le_refl _) _)
  have f0 := fun o => rdigits_any (k : Int) k (hS1 o) rfl (by omega)
  generalize numericF l k = T at *
  generalize (numberF l k).1 = m at *
  generalize (numberF l k).2 = wh at *
  clear h hlen
  go_enter Try.func52, Try.ntmps52
  go_wp2_with fail
  refine (f0 _).mono ?_
  rintro e w2 ⟨rfl, rfl⟩
  go_wp2_with fail
  generalize hW1 : w.alloc (.cells #[.int .i64 0, .int .i64 0, .int .i64 0, .string ⟨#[]⟩, .string ⟨#[]⟩, .bool false] 52) = w1 at *
  have hz1 : w1.heap.size = w.heap.size + 1 := by rw [← hW1]; simp
  have hb1 : Below w.heap.size w w1 := by rw [← hW1]; exact (Below.refl _ w).alloc (Nat.le_refl _) _
  have B1 : Blk w1 w.heap.size [.int .i64 0, .int .i64 0, .int .i64 0, .string ⟨#[]⟩, .string ⟨#[]⟩, .bool false] 52 := by rw [← hW1]; exact Blk.alloc _ _
  have hS := HP.out.later hb1
  obtain ⟨hrd, hrl⟩ := hS.part k m hn1 hn2
  clear hW1 f0 hS1
  refine (rtext_any _ _ (m - k) (sliceF l k m) w1 hrl hrd (by omega)).mono ?_
  rintro e w2 ⟨rfl, hb2⟩
  have hS2 := hS.later hb2
  have B2 := B1.later hb2 (by omega)
  have hz2 := hb2.size
  have hbw2 := hb1.trans (hb2.mono (by omega))
  generalize bytesF (sliceF l k m) = num at *
  clear hrd hrl B1 hb1 hb2 hS
  go_wp2_with fail
  have hS3 := hS2.later ((Below.refl _ w2).alloc (Nat.le_refl _) (.cells [.int .i64 10, .int .i64 k, .int .i64 m, .string ⟨#[]⟩, .string (strOfNums num), .bool wh].toArray 52))
  have B3 : Blk (w2.alloc (.cells [.int .i64 10, .int .i64 k, .int .i64 m, .string ⟨#[]⟩, .string (strOfNums num), .bool wh].toArray 52)) w2.heap.size [.int .i64 10, .int .i64 k, .int .i64 m, .string ⟨#[]⟩, .string (strOfNums num), .bool wh] 52 := Blk.alloc _ _
  have B3r := B2.alloc_old (.cells [.int .i64 10, .int .i64 k, .int .i64 m, .string ⟨#[]⟩, .string (strOfNums num), .bool wh].toArray 52)
  have hbw3 := hbw2.alloc hbw2.size (.cells [.int .i64 10, .int .i64 k, .int .i64 m, .string ⟨#[]⟩, .string (strOfNums num), .bool wh].toArray 52)
  generalize hW3 : w2.alloc (.cells [.int .i64 10, .int .i64 k, .int .i64 m, .string ⟨#[]⟩, .string (strOfNums num), .bool wh].toArray 52) = w3 at *
  have hz3 : w3.heap.size = w2.heap.size + 1 := by rw [← hW3]; simp
  have hpq : w.heap.size < w2.heap.size := by omega
  generalize w2.heap.size = p at *
  clear hW3 hS2 B2 hbw2
  have f1 := rnameAt_any (m : Int) m hS3 rfl (by omega)
  rcases hna : nameAt l m with _ | _
  · rw [hna] at f1
    have f2 := ris_any (m : Int) m 37 hS3 rfl (by decide)
    rcases hpc : isB l m 37 with _ | _
    · have hT : T = ⟨10, k, m, [], num, wh⟩ := by rw [hN.out, if_neg (by rw [hna]; decide), if_neg (by rw [hpc]; decide)]
      rw [hpc] at f2
      have c0 := B3.cell 0 _ rfl
      have c1 := B3.cell 1 _ rfl
      have c2 := B3.cell 2 _ rfl
      have c3 := B3.cell 3 _ rfl
      have c4 := B3.cell 4 _ rfl
      have c5 := B3.cell 5 _ rfl
      refine f1.mono ?_
      rintro e w4 ⟨rfl, hw4⟩; replace hw4 := hw4.symm; subst hw4
      go_wp2_with fail
      refine f2.mono ?_
      rintro e w4 ⟨rfl, hw4⟩; replace hw4 := hw4.symm; subst hw4
      have r0 := B3r.cell 0 _ rfl
      have r1 := B3r.cell 1 _ rfl
      have r2 := B3r.cell 2 _ rfl
      have r3 := B3r.cell 3 _ rfl
      have r4 := B3r.cell 4 _ rfl
      have r5 := B3r.cell 5 _ rfl
      have q0 := B3r.frozen 0
      have q1 := B3r.frozen 1
      have q2 := B3r.frozen 2
      have q3 := B3r.frozen 3
      have q4 := B3r.frozen 4
      have q5 := B3r.frozen 5
      go_wp2
      refine bodyPost_ret (v := .agg #[.int .i64 10, .int .i64 k, .int .i64 m, .string ⟨#[]⟩, .string (strOfNums num), .bool wh]) (by simp [results, Try.results52, go_sem, r0, r1, r2, r3, r4, r5]) rfl ⟨by rw [hT]; rfl, ?_⟩
      exact (((((hbw3.setCell (p := ⟨w.heap.size, 0, none⟩) (Nat.le_refl _) _).setCell (p := ⟨w.heap.size, 1, none⟩) (Nat.le_refl _) _).setCell (p := ⟨w.heap.size, 2, none⟩) (Nat.le_refl _) _).setCell (p := ⟨w.heap.size, 3, none⟩) (Nat.le_refl _) _).setCell (p := ⟨w.heap.size, 4, none⟩) (Nat.le_refl _) _).setCell (p := ⟨w.heap.size, 5, none⟩) (Nat.le_refl _) _
    · have hT : T = ⟨11, k, m + 1, [], num, wh⟩ := by rw [hN.out, if_neg (by rw [hna]; decide), if_pos hpc]
      rw [hpc] at f2
      have hne1 : ¬ w.heap.size = p := by omega
      have hne2 : ¬ p = w.heap.size := by omega
      have c0 := B3.cell 0 _ rfl
      have c1 := B3.cell 1 _ rfl
      have c2 := B3.cell 2 _ rfl
      have c3 := B3.cell 3 _ rfl
      have c4 := B3.cell 4 _ rfl
      have c5 := B3.cell 5 _ rfl
      have zc0 := B3.frozen 0
      have zc1 := B3.frozen 1
      have zc2 := B3.frozen 2
      have zc3 := B3.frozen 3
      have zc4 := B3.frozen 4
      have zc5 := B3.frozen 5
      have r0 := B3r.cell 0 _ rfl
      have r1 := B3r.cell 1 _ rfl
      have r2 := B3r.cell 2 _ rfl
      have r3 := B3r.cell 3 _ rfl
      have r4 := B3r.cell 4 _ rfl
      have r5 := B3r.cell 5 _ rfl
      have zr0 := B3r.frozen 0
      have zr1 := B3r.frozen 1
      have zr2 := B3r.frozen 2
      have zr3 := B3r.frozen 3
      have zr4 := B3r.frozen 4
      have zr5 := B3r.frozen 5
      refine f1.mono ?_
      rintro e w4 ⟨rfl, hw4⟩; replace hw4 := hw4.symm; subst hw4
      go_wp2_with fail
      refine f2.mono ?_
      rintro e w4 ⟨rfl, hw4⟩; replace hw4 := hw4.symm; subst hw4
      go_wp2
      refine bodyPost_ret (v := .agg #[.int .i64 11, .int .i64 k, .int .i64 (m + 1), .string ⟨#[]⟩, .string (strOfNums num), .bool wh]) (by simp [results, Try.results52, go_sem, r0, r1, r2, r3, r4, r5]) rfl ⟨by rw [hT]; rfl, ?_⟩
      exact (((((((hbw3.setCell (p := ⟨p, 0, none⟩) (by show w.heap.size ≤ p; omega) _).setCell (p := ⟨p, 2, none⟩) (by show w.heap.size ≤ p; omega) _).setCell (p := ⟨w.heap.size, 0, none⟩) (Nat.le_refl _) _).setCell (p := ⟨w.heap.size, 1, none⟩) (Nat.le_refl _) _).setCell (p := ⟨w.heap.size, 2, none⟩) (Nat.le_refl _) _).setCell (p := ⟨w.heap.size, 3, none⟩) (Nat.le_refl _) _).setCell (p := ⟨w.heap.size, 4, none⟩) (Nat.le_refl _) _).setCell (p := ⟨w.heap.size, 5, none⟩) (Nat.le_refl _) _
  · have hT : T = ⟨12, k, (namesF l m).2, bytesF (namesF l m).1, num, wh⟩ := by rw [hN.out, if_pos hna]
    rw [hna] at f1
    have hne1 : ¬ w.heap.size = p := by omega
    have hne2 : ¬ p = w.heap.size := by omega
    have c0 := B3.cell 0 _ rfl
    have c1 := B3.cell 1 _ rfl
    have c2 := B3.cell 2 _ rfl
    have c3 := B3.cell 3 _ rfl
    have c4 := B3.cell 4 _ rfl
    have c5 := B3.cell 5 _ rfl
    have zc0 := B3.frozen 0
    have zc1 := B3.frozen 1
    have zc2 := B3.frozen 2
    have zc3 := B3.frozen 3
    have zc4 := B3.frozen 4
    have zc5 := B3.frozen 5
    refine f1.mono ?_
    rintro e w4 ⟨rfl, hw4⟩; replace hw4 := hw4.symm; subst hw4
    have B4 := B3.setCell 0 (.int .i64 12)
    have B4r : Blk (w3.setCell ⟨p, 0, none⟩ (.int .i64 12)) w.heap.size [.int .i64 0, .int .i64 0, .int .i64 0, .string ⟨#[]⟩, .string ⟨#[]⟩, .bool false] 52 := B3r.kept (grown_setCell w3 p 0 _) (by simpa using hne2)
    have hbw4 := hbw3.setCell (p := ⟨p, 0, none⟩) (by show w.heap.size ≤ p; omega) (.int .i64 12)
    have hz4 : (w3.setCell ⟨p, 0, none⟩ (.int .i64 12)).heap.size = w3.heap.size := by simp
    go_wp2_with fail
    clear c0 c1 c2 c3 c4 c5 zc0 zc1 zc2 zc3 zc4 zc5 f1
    generalize w3.setCell ⟨p, 0, none⟩ (.int .i64 12) = w4 at *
    have hS4 := HP.out.later hbw4
    refine (rnames_any (m : Int) m hS4 rfl hn2).mono ?_
    rintro e w5 ⟨rfl, hb5⟩
    have B5 := B4.later hb5 (by omega)
    have B5r := B4r.later hb5 (by omega)
    have hbw5 := hbw4.trans (hb5.mono (by omega))
    clear B4 B4r hb5 hS4 hbw4 B3 B3r hS3 hbw3 hN
    generalize bytesF (namesF l m).1 = txt at *
    generalize (namesF l m).2 = m2 at *
    have c0 := B5.cell 0 _ rfl
    have c1 := B5.cell 1 _ rfl
    have c2 := B5.cell 2 _ rfl
    have c3 := B5.cell 3 _ rfl
    have c4 := B5.cell 4 _ rfl
    have c5 := B5.cell 5 _ rfl
    have zc0 := B5.frozen 0
    have zc1 := B5.frozen 1
    have zc2 := B5.frozen 2
    have zc3 := B5.frozen 3
    have zc4 := B5.frozen 4
    have zc5 := B5.frozen 5
    have r0 := B5r.cell 0 _ rfl
    have r1 := B5r.cell 1 _ rfl
    have r2 := B5r.cell 2 _ rfl
    have r3 := B5r.cell 3 _ rfl
    have r4 := B5r.cell 4 _ rfl
    have r5 := B5r.cell 5 _ rfl
    have zr0 := B5r.frozen 0
    have zr1 := B5r.frozen 1
    have zr2 := B5r.frozen 2
    have zr3 := B5r.frozen 3
    have zr4 := B5r.frozen 4
    have zr5 := B5r.frozen 5
    go_wp2
    refine bodyPost_ret (v := .agg #[.int .i64 12, .int .i64 k, .int .i64 m2, .string (strOfNums txt), .string (strOfNums num), .bool wh]) (by simp [results, Try.results52, go_sem, r0, r1, r2, r3, r4, r5]) rfl ⟨by rw [hT]; rfl, ?_⟩
    exact (((((((hbw5.setCell (p := ⟨p, 3, none⟩) (by show w.heap.size ≤ p; omega) _).setCell (p := ⟨p, 2, none⟩) (by show w.heap.size ≤ p; omega) _).setCell (p := ⟨w.heap.size, 0, none⟩) (Nat.le_refl _) _).setCell (p := ⟨w.heap.size, 1, none⟩) (Nat.le_refl _) _).setCell (p := ⟨w.heap.size, 2, none⟩) (Nat.le_refl _) _).setCell (p := ⟨w.heap.size, 3, none⟩) (Nat.le_refl _) _).setCell (p := ⟨w.heap.size, 4, none⟩) (Nat.le_refl _) _).setCell (p := ⟨w.heap.size, 5, none⟩) (Nat.le_refl _) _
end
end Go.Proofs.Ytelbjnanpmdnnaa
