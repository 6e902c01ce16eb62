/- Several texts of mine in one. -/
import Derived.Test.YtickcbmfboajiaaGreatDoorFH
import Derived.Test.YtickcbmfboajiaaGreatDoorFB
import Derived.Lib.SlBytesConst
namespace Go.Proofs.YtickcbmfboajiaaGreatDoor
section
open Go.RowKit

set_option maxRecDepth 100000 in
set_option maxHeartbeats 4000000 in
theorem rnames_any {a : Option Addr} {n cap : Nat} {l : List Int} {w : World} (i : Int) (k : Nat) (h : Src w a n cap l) (hi : i = (k : Int)) (hk : k ≤ n) :
    Calls Tryz.prog 79 #[.slice a n cap, .int .i64 i] w (Told (.tuple #[.string (strOfNums (bytesF (namesF l k).1)), .int .i64 ((namesF l k).2 : Nat)]) w) := by
  subst hi
  obtain ⟨i0, hi, hz0, hz1, hz2⟩ := info_parts Tryz.info3
  have hlen := h.len
  have hsm := h.small
  obtain ⟨hcap1, hcap2⟩ := h.cap
  have own0 := World.ownsRow_made (base := w.heap.size) (e := 3) (size := 1) w #[] 0 (Nat.le_refl _) (by simp [maxLen]) (by simp)
  generalize hR : namesF l k = R
  unfold namesF at hR
  rw [hlen] at hR
  have HR := Lib.hid hR; clear hR
  have HL := Lib.hid hlen; clear hlen
  have HP := Lib.hid h; clear h
  go_enter Tryz.func79, Tryz.ntmps79
  go_wp2_with fail
  go_loopw [1, 6] (fun at_ v wr => ∃ (f j : Nat) (acc : List Int), at_ = .int .i64 j ∧ wr.ownsRow w.heap.size 3 1 v acc.length (acc.map (Value.int .i64)) ∧ Hid (namesGo f l j acc = R) ∧ n < j + f ∧ j ≤ n ∧ acc.length ≤ j ∧ Below w.heap.size w wr)
    (fun at_ _ _ => n - (intOf at_).toNat)
  case atStart => exact ⟨n + 1, k, [], rfl, own0, HR, by omega, hk, by simp, (Below.refl _ w).alloc (Nat.le_refl _) _⟩
  case round =>
    obtain ⟨f, j, acc, rfl, hown, hG, hf, hj, hal, hbl⟩ := hrel
    have hS := Lib.hid (HP.out.later hbl)
    have hsz := hbl.size
    obtain ⟨f, rfl⟩ : ∃ g, f = g + 1 := ⟨f - 1, by omega⟩
    have f0 := rinnerAt (j : Int) j hS.out rfl
    rcases hnm : nmB l j with _ | _
    · have f1 := resc_any (j : Int) j hS.out rfl (by omega)
      rw [hnm] at f0
      rcases hes : escB l j with _ | _
      · have hE : R = (acc, j) := by rw [← hG.out, namesGo, if_neg (by rw [hnm]; decide), if_neg (by rw [hes]; decide)]
        rw [hes] at f1
        obtain ⟨a2, c2, hv, hrd⟩ := Reads.of_owns hown
        subst hv
        clear hG hnm hes hown
        go_wp2_with ((first | (go_at_call 80; with_reducible refine f0.mono ?_) | (go_at_call 81; with_reducible refine f1.mono ?_)); rintro e w1 ⟨rfl, hw1⟩; replace hw1 := hw1.symm; subst hw1)
        refine (rtext_any a2 c2 acc.length acc wr rfl hrd (by omega)).mono ?_
        rintro e w2 ⟨rfl, hb2⟩
        go_wp2
        go_ret2
        exact ⟨by rw [hE]; rfl, hbl.trans (hb2.mono hbl.size)⟩
      · have hjn : j < n := by have := lt_of_escB hes; rw [HL.out] at this; exact this
        obtain ⟨hv1, hv2⟩ := valueF_bd (l := l) (j := j) (by rw [HL.out]; exact hjn)
        rw [HL.out] at hv2
        have hG2 : Hid (namesGo f l (valueF l j).2 (acc ++ [(valueF l j).1]) = R) := Lib.hid (by rw [← hG.out]; conv => rhs; rw [namesGo, if_neg (by rw [hnm]; decide), if_pos hes])
        rw [hes] at f1
        have f2 := rvalue_any (j : Int) j hS.out rfl (by omega)
        clear hG hnm hes
        generalize (valueF l j).2 = j2 at *
        generalize (valueF l j).1 = c at *
        go_wp2_with ((first | (go_at_call 80; with_reducible refine f0.mono ?_) | (go_at_call 81; with_reducible refine f1.mono ?_)); rintro e w1 ⟨rfl, hw1⟩; replace hw1 := hw1.symm; subst hw1)
        refine f2.mono ?_
        rintro e w2 ⟨rfl, hb2⟩
        have hown2 := owns_later hown hb2
        have hbl2 := hbl.trans (hb2.mono hbl.size)
        have hsz2 := hbl2.size
        clear hown f0 f1 f2
        go_wp2_with (at_builtin; refine wpList_append_reads rfl _ _ 28 rfl w.heap.size 3 i0 .i64 8 Tryz.underlying28 hi hz0 hz1 hz2 _ acc.length acc rfl (hown2.alloc _) rfl (some ⟨w2.heap.size, 0, none⟩) 1 1 [c] rfl rfl (reads_new w2 .i64 _ 3 1 rfl (by unfold maxLen; omega)) (fun h => by cases h) (by unfold maxLen; omega) (by omega) (by simp <;> omega) ?_; intro v' w3 hown3 hgrow3)
        have hbl3 : Below w.heap.size w w3 := (hbl2.alloc hsz2 _).grown hgrow3 (by simp <;> omega) (fun j hj => (hown2.lt j hj).1)
        go_roundw
        case rel => exact ⟨f, j2, acc ++ [c], by go_num, hown3, hG2, by omega, by omega, by rw [List.length_append]; simp; omega, hbl3⟩
        case measure => simp [intOf]; omega
    · have hjn : j < n := by have := lt_of_nmB hnm; rw [HL.out] at this; exact this
      have hG2 : Hid (namesGo f l (j + 1) (acc ++ [chA l j]) = R) := Lib.hid (by rw [← hG.out]; conv => rhs; rw [namesGo, if_pos hnm])
      obtain ⟨b, off, rfl, hc⟩ := hS.out.cell j hjn
      rw [hnm] at f0
      clear hG hnm
      generalize chA l j = c at *
      go_wp2_with ((first | (go_at_call 80; (with_reducible refine f0.mono ?_); rintro e w1 ⟨rfl, hw1⟩; replace hw1 := hw1.symm; subst hw1) | (at_builtin; refine wpList_append_reads rfl _ _ 28 rfl w.heap.size 3 i0 .i64 8 Tryz.underlying28 hi hz0 hz1 hz2 _ acc.length acc rfl (hown.alloc _) rfl (some ⟨wr.heap.size, 0, none⟩) 1 1 [c] rfl rfl (reads_new wr .i64 _ 3 1 rfl (by unfold maxLen; omega)) (fun h => by cases h) (by unfold maxLen; omega) (by omega) (by simp <;> omega) ?_; intro v' w3 hown3 hgrow3)))
      have hbl3 : Below w.heap.size w w3 := (hbl.alloc hsz _).grown hgrow3 (by simp <;> omega) (fun j hj => (hown.lt j hj).1)
      go_roundw
      case rel => exact ⟨f, j + 1, acc ++ [c], by go_num, hown3, hG2, by omega, by omega, by rw [List.length_append]; simp; omega, hbl3⟩
      case measure => simp [intOf]; omega
end

section
open Go.RowKit

set_option maxRecDepth 100000 in
set_option maxHeartbeats 4000000 in
theorem rnumeric_any {b off n cap : Nat} {l : List Int} {w : World} (i : Int) (k : Nat) (h : Src w (some ⟨b, off, none⟩) n cap l) (hi : i = (k : Int)) (hk : k < n) :
    Calls Tryz.prog 75 #[.slice (some ⟨b, off, none⟩) n cap, .int .i64 i] w (Told (tkV (numericF l k)) w) := by
  subst hi
  have hlen := h.len
  have hsm := h.small
  obtain ⟨hcap1, hcap2⟩ := h.cap
  obtain ⟨hn1, hn2⟩ := numberF_le l k
  have hn2 := hn2 (by omega)
  rw [hlen] at hn2
  have hN : Hid (numericF l k = if nameAt l (numberF l k).1 then ⟨12, k, (namesF l (numberF l k).1).2, bytesF (namesF l (numberF l k).1).1, bytesF (sliceF l k (numberF l k).1), (numberF l k).2⟩
    else if isB l (numberF l k).1 37 then ⟨11, k, (numberF l k).1 + 1, [], bytesF (sliceF l k (numberF l k).1), (numberF l k).2⟩
    else ⟨10, k, (numberF l k).1, [], bytesF (sliceF l k (numberF l k).1), (numberF l k).2⟩) := Lib.hid rfl
  have HP := Lib.hid h

  have hS1 : ∀ o, Src (w.alloc o) (some ⟨b, off, none⟩) n cap l := fun o => h.later ((Below.refl _ w).alloc (Nat.le_refl _) _)
  have f0 := fun o => rdigits_any (k : Int) k (hS1 o) rfl (by omega)
  generalize numericF l k = T at *
  generalize (numberF l k).1 = m at *
  generalize (numberF l k).2 = wh at *
  clear h hlen
  go_enter Tryz.func75, Tryz.ntmps75
  go_wp2_with fail
  refine (f0 _).mono ?_
  rintro e w2 ⟨rfl, rfl⟩
  go_wp2_with fail
  generalize hW1 : w.alloc (.cells #[.int .i64 0, .int .i64 0, .int .i64 0, .string ⟨#[]⟩, .string ⟨#[]⟩, .bool false] 32) = w1 at *
  have hz1 : w1.heap.size = w.heap.size + 1 := by rw [← hW1]; simp
  have hb1 : Below w.heap.size w w1 := by rw [← hW1]; exact (Below.refl _ w).alloc (Nat.le_refl _) _
  have B1 : Blk w1 w.heap.size [.int .i64 0, .int .i64 0, .int .i64 0, .string ⟨#[]⟩, .string ⟨#[]⟩, .bool false] 32 := by rw [← hW1]; exact Blk.alloc _ _
  have hS := HP.out.later hb1
  obtain ⟨hrd, hrl⟩ := hS.part k m hn1 hn2
  clear hW1 f0 hS1
  refine (rtext_any _ _ (m - k) (sliceF l k m) w1 hrl hrd (by omega)).mono ?_
  rintro e w2 ⟨rfl, hb2⟩
  have hS2 := hS.later hb2
  have B2 := B1.later hb2 (by omega)
  have hz2 := hb2.size
  have hbw2 := hb1.trans (hb2.mono (by omega))
  generalize bytesF (sliceF l k m) = num at *
  clear hrd hrl B1 hb1 hb2 hS
  go_wp2_with fail
  have hS3 := hS2.later ((Below.refl _ w2).alloc (Nat.le_refl _) (.cells [.int .i64 10, .int .i64 k, .int .i64 m, .string ⟨#[]⟩, .string (strOfNums num), .bool wh].toArray 32))
  have B3 : Blk (w2.alloc (.cells [.int .i64 10, .int .i64 k, .int .i64 m, .string ⟨#[]⟩, .string (strOfNums num), .bool wh].toArray 32)) w2.heap.size [.int .i64 10, .int .i64 k, .int .i64 m, .string ⟨#[]⟩, .string (strOfNums num), .bool wh] 32 := Blk.alloc _ _
  have B3r := B2.alloc_old (.cells [.int .i64 10, .int .i64 k, .int .i64 m, .string ⟨#[]⟩, .string (strOfNums num), .bool wh].toArray 32)
  have hbw3 := hbw2.alloc hbw2.size (.cells [.int .i64 10, .int .i64 k, .int .i64 m, .string ⟨#[]⟩, .string (strOfNums num), .bool wh].toArray 32)
  generalize hW3 : w2.alloc (.cells [.int .i64 10, .int .i64 k, .int .i64 m, .string ⟨#[]⟩, .string (strOfNums num), .bool wh].toArray 32) = w3 at *
  have hz3 : w3.heap.size = w2.heap.size + 1 := by rw [← hW3]; simp
  have hpq : w.heap.size < w2.heap.size := by omega
  generalize w2.heap.size = p at *
  clear hW3 hS2 B2 hbw2
  have f1 := rnameAt_any (m : Int) m hS3 rfl (by omega)
  rcases hna : nameAt l m with _ | _
  · rw [hna] at f1
    have f2 := ris_any (m : Int) m 37 hS3 rfl (by decide)
    rcases hpc : isB l m 37 with _ | _
    · have hT : T = ⟨10, k, m, [], num, wh⟩ := by rw [hN.out, if_neg (by rw [hna]; decide), if_neg (by rw [hpc]; decide)]
      rw [hpc] at f2
      have c0 := B3.cell 0 _ rfl
      have c1 := B3.cell 1 _ rfl
      have c2 := B3.cell 2 _ rfl
      have c3 := B3.cell 3 _ rfl
      have c4 := B3.cell 4 _ rfl
      have c5 := B3.cell 5 _ rfl
      refine f1.mono ?_
      rintro e w4 ⟨rfl, hw4⟩; replace hw4 := hw4.symm; subst hw4
      go_wp2_with fail
      refine f2.mono ?_
      rintro e w4 ⟨rfl, hw4⟩; replace hw4 := hw4.symm; subst hw4
      have r0 := B3r.cell 0 _ rfl
      have r1 := B3r.cell 1 _ rfl
      have r2 := B3r.cell 2 _ rfl
      have r3 := B3r.cell 3 _ rfl
      have r4 := B3r.cell 4 _ rfl
      have r5 := B3r.cell 5 _ rfl
      have q0 := B3r.frozen 0
      have q1 := B3r.frozen 1
      have q2 := B3r.frozen 2
      have q3 := B3r.frozen 3
      have q4 := B3r.frozen 4
      have q5 := B3r.frozen 5
      go_wp2
      refine bodyPost_ret (v := .agg #[.int .i64 10, .int .i64 k, .int .i64 m, .string ⟨#[]⟩, .string (strOfNums num), .bool wh]) (by simp [results, Tryz.results75, go_sem, r0, r1, r2, r3, r4, r5]) rfl ⟨by rw [hT]; rfl, ?_⟩
      exact (((((hbw3.setCell (p := ⟨w.heap.size, 0, none⟩) (Nat.le_refl _) _).setCell (p := ⟨w.heap.size, 1, none⟩) (Nat.le_refl _) _).setCell (p := ⟨w.heap.size, 2, none⟩) (Nat.le_refl _) _).setCell (p := ⟨w.heap.size, 3, none⟩) (Nat.le_refl _) _).setCell (p := ⟨w.heap.size, 4, none⟩) (Nat.le_refl _) _).setCell (p := ⟨w.heap.size, 5, none⟩) (Nat.le_refl _) _
    · have hT : T = ⟨11, k, m + 1, [], num, wh⟩ := by rw [hN.out, if_neg (by rw [hna]; decide), if_pos hpc]
      rw [hpc] at f2
      have hne1 : ¬ w.heap.size = p := by omega
      have hne2 : ¬ p = w.heap.size := by omega
      have c0 := B3.cell 0 _ rfl
      have c1 := B3.cell 1 _ rfl
      have c2 := B3.cell 2 _ rfl
      have c3 := B3.cell 3 _ rfl
      have c4 := B3.cell 4 _ rfl
      have c5 := B3.cell 5 _ rfl
      have zc0 := B3.frozen 0
      have zc1 := B3.frozen 1
      have zc2 := B3.frozen 2
      have zc3 := B3.frozen 3
      have zc4 := B3.frozen 4
      have zc5 := B3.frozen 5
      have r0 := B3r.cell 0 _ rfl
      have r1 := B3r.cell 1 _ rfl
      have r2 := B3r.cell 2 _ rfl
      have r3 := B3r.cell 3 _ rfl
      have r4 := B3r.cell 4 _ rfl
      have r5 := B3r.cell 5 _ rfl
      have zr0 := B3r.frozen 0
      have zr1 := B3r.frozen 1
      have zr2 := B3r.frozen 2
      have zr3 := B3r.frozen 3
      have zr4 := B3r.frozen 4
      have zr5 := B3r.frozen 5
      refine f1.mono ?_
      rintro e w4 ⟨rfl, hw4⟩; replace hw4 := hw4.symm; subst hw4
      go_wp2_with fail
      refine f2.mono ?_
      rintro e w4 ⟨rfl, hw4⟩; replace hw4 := hw4.symm; subst hw4
      go_wp2
      refine bodyPost_ret (v := .agg #[.int .i64 11, .int .i64 k, .int .i64 (m + 1), .string ⟨#[]⟩, .string (strOfNums num), .bool wh]) (by simp [results, Tryz.results75, go_sem, r0, r1, r2, r3, r4, r5]) rfl ⟨by rw [hT]; rfl, ?_⟩
      exact (((((((hbw3.setCell (p := ⟨p, 0, none⟩) (by show w.heap.size ≤ p; omega) _).setCell (p := ⟨p, 2, none⟩) (by show w.heap.size ≤ p; omega) _).setCell (p := ⟨w.heap.size, 0, none⟩) (Nat.le_refl _) _).setCell (p := ⟨w.heap.size, 1, none⟩) (Nat.le_refl _) _).setCell (p := ⟨w.heap.size, 2, none⟩) (Nat.le_refl _) _).setCell (p := ⟨w.heap.size, 3, none⟩) (Nat.le_refl _) _).setCell (p := ⟨w.heap.size, 4, none⟩) (Nat.le_refl _) _).setCell (p := ⟨w.heap.size, 5, none⟩) (Nat.le_refl _) _
  · have hT : T = ⟨12, k, (namesF l m).2, bytesF (namesF l m).1, num, wh⟩ := by rw [hN.out, if_pos hna]
    rw [hna] at f1
    have hne1 : ¬ w.heap.size = p := by omega
    have hne2 : ¬ p = w.heap.size := by omega
    have c0 := B3.cell 0 _ rfl
    have c1 := B3.cell 1 _ rfl
    have c2 := B3.cell 2 _ rfl
    have c3 := B3.cell 3 _ rfl
    have c4 := B3.cell 4 _ rfl
    have c5 := B3.cell 5 _ rfl
    have zc0 := B3.frozen 0
    have zc1 := B3.frozen 1
    have zc2 := B3.frozen 2
    have zc3 := B3.frozen 3
    have zc4 := B3.frozen 4
    have zc5 := B3.frozen 5
    refine f1.mono ?_
    rintro e w4 ⟨rfl, hw4⟩; replace hw4 := hw4.symm; subst hw4
    have B4 := B3.setCell 0 (.int .i64 12)
    have B4r : Blk (w3.setCell ⟨p, 0, none⟩ (.int .i64 12)) w.heap.size [.int .i64 0, .int .i64 0, .int .i64 0, .string ⟨#[]⟩, .string ⟨#[]⟩, .bool false] 32 := B3r.kept (grown_setCell w3 p 0 _) (by simpa using hne2)
    have hbw4 := hbw3.setCell (p := ⟨p, 0, none⟩) (by show w.heap.size ≤ p; omega) (.int .i64 12)
    have hz4 : (w3.setCell ⟨p, 0, none⟩ (.int .i64 12)).heap.size = w3.heap.size := by simp
    go_wp2_with fail
    clear c0 c1 c2 c3 c4 c5 zc0 zc1 zc2 zc3 zc4 zc5 f1
    generalize w3.setCell ⟨p, 0, none⟩ (.int .i64 12) = w4 at *
    have hS4 := HP.out.later hbw4
    refine (rnames_any (m : Int) m hS4 rfl hn2).mono ?_
    rintro e w5 ⟨rfl, hb5⟩
    have B5 := B4.later hb5 (by omega)
    have B5r := B4r.later hb5 (by omega)
    have hbw5 := hbw4.trans (hb5.mono (by omega))
    clear B4 B4r hb5 hS4 hbw4 B3 B3r hS3 hbw3 hN
    generalize bytesF (namesF l m).1 = txt at *
    generalize (namesF l m).2 = m2 at *
    have c0 := B5.cell 0 _ rfl
    have c1 := B5.cell 1 _ rfl
    have c2 := B5.cell 2 _ rfl
    have c3 := B5.cell 3 _ rfl
    have c4 := B5.cell 4 _ rfl
    have c5 := B5.cell 5 _ rfl
    have zc0 := B5.frozen 0
    have zc1 := B5.frozen 1
    have zc2 := B5.frozen 2
    have zc3 := B5.frozen 3
    have zc4 := B5.frozen 4
    have zc5 := B5.frozen 5
    have r0 := B5r.cell 0 _ rfl
    have r1 := B5r.cell 1 _ rfl
    have r2 := B5r.cell 2 _ rfl
    have r3 := B5r.cell 3 _ rfl
    have r4 := B5r.cell 4 _ rfl
    have r5 := B5r.cell 5 _ rfl
    have zr0 := B5r.frozen 0
    have zr1 := B5r.frozen 1
    have zr2 := B5r.frozen 2
    have zr3 := B5r.frozen 3
    have zr4 := B5r.frozen 4
    have zr5 := B5r.frozen 5
    go_wp2
    refine bodyPost_ret (v := .agg #[.int .i64 12, .int .i64 k, .int .i64 m2, .string (strOfNums txt), .string (strOfNums num), .bool wh]) (by simp [results, Tryz.results75, go_sem, r0, r1, r2, r3, r4, r5]) rfl ⟨by rw [hT]; rfl, ?_⟩
    exact (((((((hbw5.setCell (p := ⟨p, 3, none⟩) (by show w.heap.size ≤ p; omega) _).setCell (p := ⟨p, 2, none⟩) (by show w.heap.size ≤ p; omega) _).setCell (p := ⟨w.heap.size, 0, none⟩) (Nat.le_refl _) _).setCell (p := ⟨w.heap.size, 1, none⟩) (Nat.le_refl _) _).setCell (p := ⟨w.heap.size, 2, none⟩) (Nat.le_refl _) _).setCell (p := ⟨w.heap.size, 3, none⟩) (Nat.le_refl _) _).setCell (p := ⟨w.heap.size, 4, none⟩) (Nat.le_refl _) _).setCell (p := ⟨w.heap.size, 5, none⟩) (Nat.le_refl _) _
end

section
open Go.RowKit

set_option maxRecDepth 100000 in
set_option maxHeartbeats 4000000 in
theorem rcalled_ident {b off n cap : Nat} {l : List Int} {w : World} (i : Int) (k : Nat) (h : Src w (some ⟨b, off, none⟩) n cap l) (hi : i = (k : Int)) (hk : k < n) (hid : isB l (namesF l k).2 40 = false) :
    Calls Tryz.prog 78 #[.slice (some ⟨b, off, none⟩) n cap, .int .i64 i] w (Told (tkV (calledF l k)) w) := by
  subst hi
  have hlen := h.len
  have hsm := h.small
  obtain ⟨hcap1, hcap2⟩ := h.cap
  obtain ⟨hn1, hn2⟩ := namesF_le l k
  have hn2 := hn2 (by omega)
  rw [hlen] at hn2
  have hN : Hid (calledF l k = ⟨1, k, (namesF l k).2, bytesF (namesF l k).1, [], false⟩) := Lib.hid (by unfold calledF; rw [hid]; rfl)
  have HP := Lib.hid h
  have hS1 : ∀ o, Src (w.alloc o) (some ⟨b, off, none⟩) n cap l := fun o => h.later ((Below.refl _ w).alloc (Nat.le_refl _) _)
  go_enter Tryz.func78, Tryz.ntmps78
  go_wp2_with fail
  generalize hW1 : w.alloc (.cells [.int .i64 0, .int .i64 0, .int .i64 0, .string ⟨#[]⟩, .string ⟨#[]⟩, .bool false].toArray 32) = w1 at *
  have hz1 : w1.heap.size = w.heap.size + 1 := by rw [← hW1]; simp
  have hb1 : Below w.heap.size w w1 := by rw [← hW1]; exact (Below.refl _ w).alloc (Nat.le_refl _) _
  have B1 : Blk w1 w.heap.size [.int .i64 0, .int .i64 0, .int .i64 0, .string ⟨#[]⟩, .string ⟨#[]⟩, .bool false] 32 := by rw [← hW1]; exact Blk.alloc _ _
  have hS := HP.out.later hb1
  clear hW1 hS1 h
  refine (rnames_any (k : Int) k hS rfl (by omega)).mono ?_
  rintro e w2 ⟨rfl, hb2⟩
  have hS2 := hS.later hb2
  have B2 := B1.later hb2 (by omega)
  have hbw2 := hb1.trans (hb2.mono (by omega))
  have f1 := ris_any ((namesF l k).2 : Int) (namesF l k).2 40 hS2 rfl (by decide)
  rw [hid] at f1
  clear hb1 hb2 B1 hS hid
  generalize calledF l k = T at *
  generalize bytesF (namesF l k).1 = txt at *
  generalize (namesF l k).2 = m at *
  have r0 := B2.cell 0 _ rfl
  have r1 := B2.cell 1 _ rfl
  have r2 := B2.cell 2 _ rfl
  have r3 := B2.cell 3 _ rfl
  have r4 := B2.cell 4 _ rfl
  have r5 := B2.cell 5 _ rfl
  have zr0 := B2.frozen 0
  have zr1 := B2.frozen 1
  have zr2 := B2.frozen 2
  have zr3 := B2.frozen 3
  have zr4 := B2.frozen 4
  have zr5 := B2.frozen 5
  go_wp2_with fail
  refine f1.mono ?_
  rintro e wq ⟨rfl, hwq⟩; replace hwq := hwq.symm; subst hwq
  go_wp2
  refine bodyPost_ret (v := .agg #[.int .i64 1, .int .i64 k, .int .i64 m, .string (strOfNums txt), .string ⟨#[]⟩, .bool false]) (by simp [results, Tryz.results78, go_sem, r0, r1, r2, r3, r4, r5]) rfl ⟨by rw [hN.out]; rfl, ?_⟩
  exact (((((hbw2.setCell (p := ⟨w.heap.size, 0, none⟩) (Nat.le_refl _) _).setCell (p := ⟨w.heap.size, 1, none⟩) (Nat.le_refl _) _).setCell (p := ⟨w.heap.size, 2, none⟩) (Nat.le_refl _) _).setCell (p := ⟨w.heap.size, 3, none⟩) (Nat.le_refl _) _).setCell (p := ⟨w.heap.size, 4, none⟩) (Nat.le_refl _) _).setCell (p := ⟨w.heap.size, 5, none⟩) (Nat.le_refl _) _
end

section
open Go.RowKit
set_option linter.unusedVariables false
set_option linter.unusedSimpArgs false

def zeroTkR : List Value := [.int .i64 0, .int .i64 0, .int .i64 0, .string ⟨#[]⟩, .string ⟨#[]⟩, .bool false]
theorem below_set6R {B p : Nat} {w wr : World} (h : Below B w wr) (hp : B ≤ p) (v0 v1 v2 v3 v4 v5 : Value) :
    Below B w ((((((wr.setCell ⟨p, 0, none⟩ v0).setCell ⟨p, 1, none⟩ v1).setCell ⟨p, 2, none⟩ v2).setCell ⟨p, 3, none⟩ v3).setCell ⟨p, 4, none⟩ v4).setCell ⟨p, 5, none⟩ v5) :=
  (((((h.setCell (p := ⟨p, 0, none⟩) hp _).setCell (p := ⟨p, 1, none⟩) hp _).setCell (p := ⟨p, 2, none⟩) hp _).setCell (p := ⟨p, 3, none⟩) hp _).setCell (p := ⟨p, 4, none⟩) hp _).setCell (p := ⟨p, 5, none⟩) hp _
theorem rsGo_fuel (l : List Int) (frm : Nat) : ∀ (f g i : Nat), l.length < i + f → l.length < i + g → restGo f l frm i = restGo g l frm i
  | f, g, i, hf, hg => by
    by_cases h1 : l.length ≤ i
    · have : ∀ f, restGo f l frm i = ⟨8, frm, l.length, [], [], false⟩ := fun f => by cases f with | zero => rfl | succ f => rw [restGo, if_pos h1]
      rw [this, this]
    · obtain ⟨f, rfl⟩ : ∃ f', f = f' + 1 := ⟨f - 1, by omega⟩
      obtain ⟨g, rfl⟩ : ∃ g', g = g' + 1 := ⟨g - 1, by omega⟩
      rw [restGo, restGo, if_neg h1, if_neg h1]
      by_cases h2 : isB l i 41 = true
      · rw [if_pos h2, if_pos h2]
      · rw [if_neg h2, if_neg h2]
        by_cases h3 : escB l i = true
        · rw [if_pos h3, if_pos h3]
          have := (valueF_bd (lt_of_escB h3)).1
          exact rsGo_fuel l frm f g _ (by omega) (by omega)
        · rw [if_neg h3, if_neg h3]
          exact rsGo_fuel l frm f g _ (by omega) (by omega)
theorem rsF_end {l : List Int} {i frm : Nat} (h : l.length ≤ i) : restF l frm i = ⟨8, frm, l.length, [], [], false⟩ := by unfold restF; rw [restGo, if_pos h]
theorem rsF_close {l : List Int} {i frm : Nat} (h : i < l.length) (h2 : isB l i 41 = true) : restF l frm i = ⟨8, frm, i + 1, [], [], false⟩ := by unfold restF; rw [restGo, if_neg (by omega), if_pos h2]
theorem rsF_esc {l : List Int} {i frm : Nat} (h2 : isB l i 41 = false) (h3 : escB l i = true) : restF l frm i = restF l frm (valueF l i).2 := by
  have h := lt_of_escB h3
  unfold restF
  rw [restGo, if_neg (by omega), if_neg (by rw [h2]; decide), if_pos h3]
  have := (valueF_bd h).1
  exact rsGo_fuel l frm _ _ _ (by omega) (by omega)
theorem rsF_other {l : List Int} {i frm : Nat} (h : i < l.length) (h2 : isB l i 41 = false) (h3 : escB l i = false) : restF l frm i = restF l frm (i + 1) := by
  unfold restF
  rw [restGo, if_neg (by omega), if_neg (by rw [h2]; decide), if_neg (by rw [h3]; decide)]
  exact rsGo_fuel l frm _ _ _ (by omega) (by omega)

set_option maxRecDepth 100000 in
set_option maxHeartbeats 4000000 in
theorem rrest_any {a : Option Addr} {n cap : Nat} {l : List Int} {w : World} (i fr : Int) (k frm : Nat) (h : Src w a n cap l) (hi : i = (k : Int)) (hf : fr = (frm : Int)) (hk : k ≤ n) :
    Calls Tryz.prog 144 #[.slice a n cap, .int .i64 fr, .int .i64 i] w (Told (tkV (restF l frm k)) w) := by
  subst hi
  subst hf
  have hsm := h.small
  have HL := Lib.hid h.len
  generalize hR : restF l frm k = R
  have HR := Lib.hid hR
  have HP := Lib.hid h
  clear h hR
  have HB0 := Lib.hid (Blk.alloc (w := w) zeroTkR 32)
  go_enter Tryz.func144, Tryz.ntmps144
  go_wp2_with fail
  go_loopw [2] (fun v wr => ∃ j : Nat, v = .int .i64 j ∧ j ≤ n ∧ Hid (restF l frm j = R) ∧ Hid (Blk wr w.heap.size zeroTkR 32) ∧ Below w.heap.size w wr) (fun v _ => n - (intOf v).toNat)
  case atStart => exact ⟨k, rfl, hk, HR, HB0, (Below.refl _ _).alloc (Nat.le_refl _) _⟩
  case round =>
    obtain ⟨j, rfl, hj, hG, hB, hbl⟩ := hrel
    have hS := Lib.hid (HP.out.later hbl)
    have HBL := Lib.hid hbl
    clear hbl
    by_cases hlt : j < n
    · have hlt' : (j : Int) < (n : Int) := by omega
      have f1 := resc_any (j : Int) j hS.out rfl (by omega)
      obtain ⟨b, off, rfl, hc⟩ := hS.out.cell j hlt
      have hq : (chA l j != 41) = !isB l j 41 := by unfold isB; rfl
      rcases h41 : isB l j 41 with _ | _
      · rw [h41] at hq
        rcases hes : escB l j with _ | _
        · have e := Lib.hid ((rsF_other (by rw [HL.out]; exact hlt) h41 hes).symm.trans hG.out)
          rw [hes] at f1
          clear hes h41 hG
          generalize chA l j = z at *
          go_wp2_with (go_at_call 81; (with_reducible refine f1.mono ?_); rintro e w' ⟨rfl, rfl⟩)
          go_roundw
          case rel => exact ⟨j + 1, by go_num, by omega, e, hB, HBL.out⟩
          case measure => simp [intOf]; omega
        · have e := Lib.hid ((rsF_esc h41 hes).symm.trans hG.out)
          have hbd := valueF_bd (l := l) (j := j) (by rw [HL.out]; exact hlt)
          rw [HL.out] at hbd
          have f2 := rvalue_any (j : Int) j hS.out rfl (by omega)
          rw [hes] at f1
          clear hes h41 hG
          generalize (valueF l j).2 = j2 at *
          generalize (valueF l j).1 = c at *
          generalize chA l j = z at *
          go_wp2_with (first
            | (go_at_call 81; (with_reducible refine f1.mono ?_); rintro e w1 ⟨rfl, hw1⟩; replace hw1 := hw1.symm; subst hw1)
            | (go_at_call 111; (with_reducible refine f2.mono ?_); rintro e w1 ⟨rfl, hb1⟩; have hB1 := hB.out.later hb1 hB.out.lt; have hbl1 := HBL.out.trans (hb1.mono HBL.out.size)))
          go_roundw
          case rel => exact ⟨j2, by go_num, by omega, e, Lib.hid hB1, hbl1⟩
          case measure => simp [intOf]; omega
      · have e := Lib.hid ((rsF_close (frm := frm) (by rw [HL.out]; exact hlt) h41).symm.trans hG.out)
        rw [h41] at hq
        have hj1 : ¬ ((j : Int) + 1 > (n : Int)) := by omega
        have r0 := hB.out.cell 0 _ rfl
        have r1 := hB.out.cell 1 _ rfl
        have r2 := hB.out.cell 2 _ rfl
        have r3 := hB.out.cell 3 _ rfl
        have r4 := hB.out.cell 4 _ rfl
        have r5 := hB.out.cell 5 _ rfl
        have q0 := hB.out.frozen 0
        have q1 := hB.out.frozen 1
        have q2 := hB.out.frozen 2
        have q3 := hB.out.frozen 3
        have q4 := hB.out.frozen 4
        have q5 := hB.out.frozen 5
        clear h41 hG f1
        generalize chA l j = z at *
        go_wp2
        refine bodyPost_ret (v := .agg #[.int .i64 8, .int .i64 frm, .int .i64 (j + 1 : Nat), .string ⟨#[]⟩, .string ⟨#[]⟩, .bool false]) (by simp [results, Tryz.results144, go_sem, r0, r1, r2, r3, r4, r5]) rfl ⟨by rw [← e.out]; rfl, ?_⟩
        exact below_set6R HBL.out (Nat.le_refl _) _ _ _ _ _ _
    · obtain rfl : j = n := by omega
      have hlt' : ¬ (j : Int) < (j : Int) := by omega
      have hgt' : ¬ ((j : Int) > (j : Int)) := by omega
      have e := Lib.hid ((rsF_end (frm := frm) (by rw [HL.out]; exact Nat.le_refl _)).symm.trans hG.out)
      have r0 := hB.out.cell 0 _ rfl
      have r1 := hB.out.cell 1 _ rfl
      have r2 := hB.out.cell 2 _ rfl
      have r3 := hB.out.cell 3 _ rfl
      have r4 := hB.out.cell 4 _ rfl
      have r5 := hB.out.cell 5 _ rfl
      have q0 := hB.out.frozen 0
      have q1 := hB.out.frozen 1
      have q2 := hB.out.frozen 2
      have q3 := hB.out.frozen 3
      have q4 := hB.out.frozen 4
      have q5 := hB.out.frozen 5
      clear hG hlt
      go_wp2
      refine bodyPost_ret (v := .agg #[.int .i64 8, .int .i64 frm, .int .i64 (j : Nat), .string ⟨#[]⟩, .string ⟨#[]⟩, .bool false]) (by simp [results, Tryz.results144, go_sem, r0, r1, r2, r3, r4, r5]) rfl ⟨by rw [← e.out, HL.out]; rfl, ?_⟩
      exact below_set6R HBL.out (Nat.le_refl _) _ _ _ _ _ _
end

section
open Go.RowKit

theorem run_append_full {P : Program} (w : World) (t ty : TypeId) (e : TypeId) (i : TypeInfo) (k : IntKind) (bytes : Nat) (ht : P.underlying t = some (.slice e)) (hi : P.info? e = some i) (hz : i.zero = some (.int k 0))
    (hsize : i.size = 1) (hby : i.bytes = bytes) (b off n : Nat) (acc : List Int) (hn : acc.length = n) (hat : At w k b off acc) (hnm : n ≤ maxLen)
    (ad : Option Addr) (m c : Nat) (zs : List Int) (hm : zs.length = m) (hr : Reads w k ad c zs) (hnil : ad = none → c = 0)
    (h63 : n + m ≤ maxLen) (hbytes : (n + m) * bytes ≤ 140737488355328) :
    ∃ a' c' w', (Builtin.append_ #[t, t] ty #[.slice (some ⟨b, off, none⟩) n n, .slice ad m c]).run P w = .ok (.slice a' (n + m) c') w' ∧ Reads w' k a' c' (acc ++ zs) ∧ Below w.heap.size w w' ∧ (a' = none → c' = 0) := by
  subst hn
  subst hm
  by_cases h0 : zs = []
  · subst h0
    have hrd : Reads w k (some ⟨b, off, none⟩) acc.length (acc ++ []) := by rw [List.append_nil]; exact ⟨Nat.le_refl _, hnm, .inr ⟨b, off, rfl, hat⟩⟩
    refine ⟨some ⟨b, off, none⟩, acc.length, w, ?_, hrd, Below.refl _ _, (fun h => by cases h)⟩
    rcases ad with _ | ad
    · rw [hnil rfl]
      simp [Builtin.append_, run_underlying ht, sizeOf, typeInfo, hi, Builtin.lenOf, Builtin.firstCells, storeCells]
    · have := run_append_room_cells (P := P) w t ty e i ht hi b off acc.length acc.length ad 0 c [] (by simp) (by intro j u hu; simp at hu) (by simp) (by omega) (by intro j hj; simp at hj) (by intro j hj; simp at hj)
      simpa [World.setCells] using this
  · obtain ⟨b2, off2, rfl, hat2⟩ := hr.2.2.resolve_left h0
    have hl := List.length_pos_iff.2 h0
    obtain ⟨v', w', hrun, hown, hgr⟩ := run_append_arg_grows (P := P) w t ty e i (.int k 0) 1 bytes ht hi hz hsize hby rfl (by decide) ⟨b, off, none⟩ acc.length acc.length (acc.map (Value.int k)) (by simp) (cells_of_at hat) ⟨b2, off2, none⟩ zs.length c (zs.map (Value.int k)) (by simp) (cells_of_at hat2) (by omega) h63 hbytes
    have hown2 := owns_cast (k := k) hown (acc ++ zs) (by simp)
    obtain ⟨a', c', hv, hrd⟩ := Reads.of_owns hown2
    subst hv
    refine ⟨a', c', w', by rw [hrun, List.length_append], hrd, Below.of_grown hgr (Nat.le_refl _) (by rintro _ ⟨⟩), ?_⟩
    intro ha
    subst ha
    rcases hown2.2 with ⟨h1, _⟩ | ⟨g, cap', cur, h1, _⟩
    · injection h1
    · injection h1 with h2 _ _; cases h2

theorem wpList_append_full {P : Program} {w : World} {ops : Array Oper} {rest : List Oper} {o : Oper} {a : Act} {Q : Exit → Act → World → Prop} (hgd : o.guard = none) (s x : Operand) (t : TypeId)
    (ho : o.op = .call { callee := .builtin .append, args := #[s, x], argTypes := #[t, t] })
    (e : TypeId) (i : TypeInfo) (k : IntKind) (bytes : Nat) (ht : P.underlying t = some (.slice e)) (hi : P.info? e = some i) (hz : i.zero = some (.int k 0))
    (hsize : i.size = 1) (hby : i.bytes = bytes) (b off n : Nat) (acc : List Int) (hs : a.eval s = .slice (some ⟨b, off, none⟩) n n) (hn : acc.length = n) (hat : At w k b off acc) (hnm : n ≤ maxLen)
    (ad : Option Addr) (m c : Nat) (zs : List Int) (hm : zs.length = m) (hx : a.eval x = .slice ad m c) (hr : Reads w k ad c zs) (hnil : ad = none → c = 0)
    (h63 : n + m ≤ maxLen) (hbytes : (n + m) * bytes ≤ 140737488355328)
    (h : ∀ a' c' w', Reads w' k a' c' (acc ++ zs) → Below w.heap.size w w' → (a' = none → c' = 0) → wpList P ops Q rest (a.put o.dst (.slice a' (n + m) c')) w') : wpList P ops Q (o :: rest) a w := by
  obtain ⟨a', c', w', hrun, r1, r2, r3⟩ := run_append_full (P := P) w t o.type e i k bytes ht hi hz hsize hby b off n acc hn hat hnm ad m c zs hm hr hnil h63 hbytes
  refine wpList_plain hgd fun K hK => ?_
  unfold Oper.wp
  simp [execOp, ho, resolve, invoke, builtin, hs, hx, hrun, Result.andThen]
  exact hK _ _ (h a' c' w' r1 r2 r3)

/-- A slice of numbers that may be appended to: it has no room, or is a row of the call's own. -/
def Dst (w : World) (base : Nat) (e : TypeId) (k : IntKind) (v : Value) (acc : List Int) : Prop :=
  (∃ b off, v = .slice (some ⟨b, off, none⟩) acc.length acc.length ∧ At w k b off acc ∧ acc.length ≤ maxLen) ∨ w.ownsRow base e 1 v acc.length (acc.map (Value.int k))
theorem Dst.alloc {w : World} {base : Nat} {e : TypeId} {k : IntKind} {v : Value} {acc : List Int} (h : Dst w base e k v acc) (o : Obj) : Dst (w.alloc o) base e k v acc := by
  rcases h with ⟨b, off, hv, hat, hm⟩ | h
  · exact .inl ⟨b, off, hv, hat.later ((Below.refl _ w).alloc (Nat.le_refl _) o) hat.1, hm⟩
  · exact .inr (h.alloc o)
theorem Dst.later {w w' : World} {base : Nat} {e : TypeId} {k : IntKind} {v : Value} {acc : List Int} (h : Dst w base e k v acc) (hb : Below w.heap.size w w') : Dst w' base e k v acc := by
  rcases h with ⟨b, off, hv, hat, hm⟩ | h
  · exact .inl ⟨b, off, hv, hat.later hb hat.1, hm⟩
  · exact .inr (owns_later h hb)
theorem Dst.empty {w : World} {base : Nat} {e : TypeId} {k : IntKind} (g : Nat) (h : g < w.heap.size) : Dst w base e k (.slice (some ⟨g, 0, none⟩) 0 0) [] :=
  .inl ⟨g, 0, rfl, ⟨h, fun j hj => by simp at hj⟩, by simp⟩
theorem Dst.reads {w : World} {base : Nat} {e : TypeId} {k : IntKind} {v : Value} {acc : List Int} (h : Dst w base e k v acc) : ∃ a c, v = .slice a acc.length c ∧ Reads w k a c acc ∧ (a = none → c = 0) := by
  rcases h with ⟨b, off, hv, hat, hm⟩ | h
  · exact ⟨_, _, hv, ⟨Nat.le_refl _, hm, .inr ⟨b, off, rfl, hat⟩⟩, (fun h => by cases h)⟩
  · obtain ⟨a, c, hv, hrd⟩ := Reads.of_owns h
    refine ⟨a, c, hv, hrd, ?_⟩
    intro ha
    subst ha
    rcases h.2 with ⟨h1, _⟩ | ⟨g, cap', cur, h1, _⟩
    · rw [hv] at h1; injection h1
    · rw [hv] at h1; injection h1 with h2 _ _; cases h2

theorem run_append_dst {P : Program} (w : World) (base : Nat) (t ty : TypeId) (e : TypeId) (i : TypeInfo) (k : IntKind) (bytes : Nat) (ht : P.underlying t = some (.slice e)) (hi : P.info? e = some i) (hz : i.zero = some (.int k 0))
    (hsize : i.size = 1) (hby : i.bytes = bytes) (v : Value) (acc : List Int) (hd : Dst w base e k v acc)
    (ad : Option Addr) (m c : Nat) (zs : List Int) (hm : zs.length = m) (hr : Reads w k ad c zs) (hnil : ad = none → c = 0)
    (h63 : acc.length + m ≤ maxLen) (hbytes : (acc.length + m) * bytes ≤ 140737488355328) (hbase : base ≤ w.heap.size) :
    ∃ v' w', (Builtin.append_ #[t, t] ty #[v, .slice ad m c]).run P w = .ok v' w' ∧ Dst w' base e k v' (acc ++ zs) ∧ Below base w w' := by
  subst hm
  rcases hd with ⟨b, off, rfl, hat, hml⟩ | hown
  · by_cases h0 : zs = []
    · subst h0
      refine ⟨_, w, ?_, by rw [List.append_nil]; exact .inl ⟨b, off, rfl, hat, hml⟩, Below.refl _ _⟩
      rcases ad with _ | ad
      · rw [hnil rfl]
        simp [Builtin.append_, run_underlying ht, sizeOf, typeInfo, hi, Builtin.lenOf, Builtin.firstCells, storeCells]
      · have := run_append_room_cells (P := P) w t ty e i ht hi b off acc.length acc.length ad 0 c [] (by simp) (by intro j u hu; simp at hu) (by simp) (by omega) (by intro j hj; simp at hj) (by intro j hj; simp at hj)
        simpa [World.setCells] using this
    · obtain ⟨b2, off2, rfl, hat2⟩ := hr.2.2.resolve_left h0
      have hl := List.length_pos_iff.2 h0
      obtain ⟨v', w', hrun, hown, hgr⟩ := run_append_arg_grows (P := P) w t ty e i (.int k 0) 1 bytes ht hi hz hsize hby rfl (by decide) ⟨b, off, none⟩ acc.length acc.length (acc.map (Value.int k)) (by simp) (cells_of_at hat) ⟨b2, off2, none⟩ zs.length c (zs.map (Value.int k)) (by simp) (cells_of_at hat2) (by omega) h63 hbytes
      have hown2 := owns_cast (k := k) hown (acc ++ zs) (by simp)
      refine ⟨v', w', hrun, .inr ?_, Below.of_grown hgr hbase (by rintro _ ⟨⟩)⟩
      obtain ⟨g1, g2⟩ := hown2
      refine ⟨g1, ?_⟩
      rcases g2 with g2 | ⟨g, cap, cur, g3, g4, g5⟩
      · exact .inl g2
      · exact .inr ⟨g, cap, cur, g3, Nat.le_trans hbase g4, g5⟩
  · have hlt := hown.lt
    rcases ad with _ | ad
    · have hz0 : zs = [] := by
        rcases hr.2.2 with h0 | ⟨b, off, hb, _⟩
        · exact h0
        · cases hb
      subst hz0
      rw [hnil rfl]
      exact ⟨v, w, run_append_owned_none (P := P) (w := w) base t ty e i 1 ht hi v acc.length (acc.map (Value.int k)) hown, .inr (by simpa using hown), Below.refl _ _⟩
    · obtain ⟨v', w', hrun, r1, r2, _⟩ := run_append_own (P := P) w base t ty e i (.int k 0) 1 bytes ht hi hz hsize hby rfl (by decide) v acc.length (acc.map (Value.int k)) hown ad zs.length c (zs.map (Value.int k)) (by simp) (by
        rcases hr.2.2 with h0 | ⟨b, off, hb, hat⟩
        · subst h0; intro j u hu; simp at hu
        · cases hb; exact cells_of_at hat) (one_cells _ _) h63 hbytes hbase
      exact ⟨v', w', hrun, .inr (owns_cast r1 _ (by simp)), Below.of_grown r2 hbase (fun j hj => (hlt j hj).1)⟩

/-- An append as one step of a region that draws its order. -/
theorem step_append_dst {P : Program} {ops : Array Oper} {o : Oper} {a : Act} {w : World} {K : Act → World → Prop} {Q : Exit → Act → World → Prop} {E : Prop}
    (hg : o.guard = none) (s x : Operand) (t : TypeId) (ho : o.op = Op.call { callee := Callee.builtin Builtin.append, args := #[s, x], argTypes := #[t, t] })
    (base : Nat) (e : TypeId) (i : TypeInfo) (k : IntKind) (bytes : Nat) (ht : P.underlying t = some (.slice e)) (hi : P.info? e = some i) (hz : i.zero = some (.int k 0))
    (hsize : i.size = 1) (hby : i.bytes = bytes)
    (v : Value) (acc : List Int) (hs : a.eval s = v)
    (ad : Option Addr) (m c : Nat) (zs : List Int) (hm : zs.length = m) (hx : a.eval x = .slice ad m c) (hnil : ad = none → c = 0)
    (h63 : acc.length + m ≤ maxLen) (hbytes : (acc.length + m) * bytes ≤ 140737488355328)
    (hd : Dst w base e k v acc) (hr : Reads w k ad c zs) (hbase : base ≤ w.heap.size)
    (h : ∀ v' w', Dst w' base e k v' (acc ++ zs) → Below base w w' → K (a.put o.dst v') w') :
    if Region.wanted o (yielded ops a.tmps) = true then Oper.wp P o a w K Q else E := by
  have hw : Region.wanted o (yielded ops a.tmps) = true := by simp [Region.wanted, hg]
  rw [if_pos hw]
  obtain ⟨v', w', hrun, r1, r2⟩ := run_append_dst (P := P) w base t o.type e i k bytes ht hi hz hsize hby v acc hd ad m c zs hm hr hnil h63 hbytes hbase
  unfold Oper.wp
  simp [execOp, ho, resolve, invoke, builtin, hs, hx, hrun, Result.andThen]
  exact h v' w' r1 r2
end
end Go.Proofs.YtickcbmfboajiaaGreatDoor
