/- Texts of mine in one: R9c. -/
import Derived.Test.YtcfhggdiccilaaaGreatQ25
namespace Go.Proofs.YtcfhggdiccilaaaGreat
section
open Go.RowKit
set_option maxRecDepth 100000 in
set_option maxHeartbeats 4000000 in
theorem rnext_delim_no {b off n cap : Nat} {l : List Int} {w : World} (i : Int) (k : Nat) (h : Src w (some ⟨b, off, none⟩) n cap l) (hi : i = (k : Int)) (hk : k ≤ n) (j : Nat) (hj : behindF l k = j) (hjn : j < n) (hsp : spB l j = false) (hq1 : isB l j 34 = false) (hq2 : isB l j 39 = false) (hnu : numAt l j = false) (hcd : isB l j 45 = false) (hna : nameAt l j = false) (h60 : isB l j 60 = false) (h64 : isB l j 64 = false) (h35 : isB l j 35 = false) (hsg : signKind (chA l j) = 9) :
    Calls Tryz.prog 57 #[.slice (some ⟨b, off, none⟩) n cap, .int .i64 i] w (Told (tkV (nextF l k)) w) := by
  subst hi
  have hlen := h.len
  have hsm := h.small
  obtain ⟨hcap1, hcap2⟩ := h.cap
  have hkn : ¬ (n : Int) < (k : Int) := by omega
  have hN : Hid (nextF l k = ⟨9, j, j + 1, bytesF [chA l j], [], false⟩) := Lib.hid (by
    unfold nextF tokAt
    rw [hj]
    rw [if_neg (by rw [hlen]; omega), if_neg (by rw [hsp]; decide), if_neg (by rw [hq1, hq2]; decide), if_neg (by rw [hnu]; decide), if_neg (by unfold cdcB; rw [hcd]; simp), if_neg (by rw [hna]; decide), if_neg (by unfold cdoB; rw [h60]; simp), if_neg (by unfold atSgB; rw [h64]; simp), if_neg (by unfold hashB; rw [h35]; simp), if_pos hsg])
  have HP := Lib.hid h
  have hS1 : ∀ o, Src (w.alloc o) (some ⟨b, off, none⟩) n cap l := fun o => h.later ((Below.refl _ w).alloc (Nat.le_refl _) _)
  generalize nextF l k = T at *
  go_enter Tryz.func57, Tryz.ntmps57
  go_wp2_with fail
  generalize hW1 : w.alloc (.cells [.int .i64 0, .int .i64 0, .int .i64 0, .string ⟨#[]⟩, .string ⟨#[]⟩, .bool false].toArray 93) = w1 at *
  have hz1 : w1.heap.size = w.heap.size + 1 := by rw [← hW1]; simp
  have hb1 : Below w.heap.size w w1 := by rw [← hW1]; exact (Below.refl _ w).alloc (Nat.le_refl _) _
  have B1 : Blk w1 w.heap.size [.int .i64 0, .int .i64 0, .int .i64 0, .string ⟨#[]⟩, .string ⟨#[]⟩, .bool false] 93 := by rw [← hW1]; exact Blk.alloc _ _
  have hS := HP.out.later hb1
  clear hW1 hS1 h
  have fb := rbehind_any (k : Int) k hS rfl hk
  rw [hj] at fb
  have fn := rnumAt_any (j : Int) j hS rfl (by omega)
  have fm := rnameAt_any (j : Int) j hS rfl (by omega)
  obtain ⟨_, _, e0, hc⟩ := hS.cell j hjn
  cases e0
  have hch := chA_ch hS.pre j
  have hjn' : ¬ (n : Int) ≤ (j : Int) := by omega
  have fs := fun w => rspace_any (chA l j) w hch
  rw [show spaceB (chA l j) = false from hsp] at fs
  rw [hnu] at fn
  rw [hna] at fm
  have q1 : (chA l j == 34) = false := hq1
  have q2 : (chA l j == 39) = false := hq2
  have q3 : (chA l j == 45) = isB l j 45 := rfl
  rw [hcd] at q3
  have q4 : (chA l j == 60) = false := h60
  have q5 : (chA l j == 64) = false := h64
  have q6 : (chA l j == 35) = false := h35
  have s0 : (wrap64 ((({ data := #[40, 41, 91, 93, 123, 125, 44, 58, 59] } : ByteArray)[0]'(by decide)).toNat : Int) == chA l j) = false := beq_eq_false_iff_ne.2 (by rw [show wrap64 ((({ data := #[40, 41, 91, 93, 123, 125, 44, 58, 59] } : ByteArray)[0]'(by decide)).toNat : Int) = 40 from by decide +kernel]; intro e; rw [← e] at hsg; exact absurd hsg (by decide))
  have s1 : (wrap64 ((({ data := #[40, 41, 91, 93, 123, 125, 44, 58, 59] } : ByteArray)[1]'(by decide)).toNat : Int) == chA l j) = false := beq_eq_false_iff_ne.2 (by rw [show wrap64 ((({ data := #[40, 41, 91, 93, 123, 125, 44, 58, 59] } : ByteArray)[1]'(by decide)).toNat : Int) = 41 from by decide +kernel]; intro e; rw [← e] at hsg; exact absurd hsg (by decide))
  have s2 : (wrap64 ((({ data := #[40, 41, 91, 93, 123, 125, 44, 58, 59] } : ByteArray)[2]'(by decide)).toNat : Int) == chA l j) = false := beq_eq_false_iff_ne.2 (by rw [show wrap64 ((({ data := #[40, 41, 91, 93, 123, 125, 44, 58, 59] } : ByteArray)[2]'(by decide)).toNat : Int) = 91 from by decide +kernel]; intro e; rw [← e] at hsg; exact absurd hsg (by decide))
  have s3 : (wrap64 ((({ data := #[40, 41, 91, 93, 123, 125, 44, 58, 59] } : ByteArray)[3]'(by decide)).toNat : Int) == chA l j) = false := beq_eq_false_iff_ne.2 (by rw [show wrap64 ((({ data := #[40, 41, 91, 93, 123, 125, 44, 58, 59] } : ByteArray)[3]'(by decide)).toNat : Int) = 93 from by decide +kernel]; intro e; rw [← e] at hsg; exact absurd hsg (by decide))
  have s4 : (wrap64 ((({ data := #[40, 41, 91, 93, 123, 125, 44, 58, 59] } : ByteArray)[4]'(by decide)).toNat : Int) == chA l j) = false := beq_eq_false_iff_ne.2 (by rw [show wrap64 ((({ data := #[40, 41, 91, 93, 123, 125, 44, 58, 59] } : ByteArray)[4]'(by decide)).toNat : Int) = 123 from by decide +kernel]; intro e; rw [← e] at hsg; exact absurd hsg (by decide))
  have s5 : (wrap64 ((({ data := #[40, 41, 91, 93, 123, 125, 44, 58, 59] } : ByteArray)[5]'(by decide)).toNat : Int) == chA l j) = false := beq_eq_false_iff_ne.2 (by rw [show wrap64 ((({ data := #[40, 41, 91, 93, 123, 125, 44, 58, 59] } : ByteArray)[5]'(by decide)).toNat : Int) = 125 from by decide +kernel]; intro e; rw [← e] at hsg; exact absurd hsg (by decide))
  have s6 : (wrap64 ((({ data := #[40, 41, 91, 93, 123, 125, 44, 58, 59] } : ByteArray)[6]'(by decide)).toNat : Int) == chA l j) = false := beq_eq_false_iff_ne.2 (by rw [show wrap64 ((({ data := #[40, 41, 91, 93, 123, 125, 44, 58, 59] } : ByteArray)[6]'(by decide)).toNat : Int) = 44 from by decide +kernel]; intro e; rw [← e] at hsg; exact absurd hsg (by decide))
  have s7 : (wrap64 ((({ data := #[40, 41, 91, 93, 123, 125, 44, 58, 59] } : ByteArray)[7]'(by decide)).toNat : Int) == chA l j) = false := beq_eq_false_iff_ne.2 (by rw [show wrap64 ((({ data := #[40, 41, 91, 93, 123, 125, 44, 58, 59] } : ByteArray)[7]'(by decide)).toNat : Int) = 58 from by decide +kernel]; intro e; rw [← e] at hsg; exact absurd hsg (by decide))
  have s8 : (wrap64 ((({ data := #[40, 41, 91, 93, 123, 125, 44, 58, 59] } : ByteArray)[8]'(by decide)).toNat : Int) == chA l j) = false := beq_eq_false_iff_ne.2 (by rw [show wrap64 ((({ data := #[40, 41, 91, 93, 123, 125, 44, 58, 59] } : ByteArray)[8]'(by decide)).toNat : Int) = 59 from by decide +kernel]; intro e; rw [← e] at hsg; exact absurd hsg (by decide))
  have r0 := B1.cell 0 _ rfl
  have r1 := B1.cell 1 _ rfl
  have r2 := B1.cell 2 _ rfl
  have r3 := B1.cell 3 _ rfl
  have r4 := B1.cell 4 _ rfl
  have r5 := B1.cell 5 _ rfl
  have zr0 := B1.frozen 0
  have zr1 := B1.frozen 1
  have zr2 := B1.frozen 2
  have zr3 := B1.frozen 3
  have zr4 := B1.frozen 4
  have zr5 := B1.frozen 5
  clear hsp hq1 hq2 hnu hj hna hcd h60 h64 h35 hsg
  obtain ⟨hrd, hrl⟩ := hS.part j (j + 1) (by omega) (by omega)
  have hsl : sliceF l j (j + 1) = [chA l j] := by
    unfold sliceF
    rw [show j + 1 - j = 1 from by omega, List.take_one, List.head?_drop]
    have : j < l.length := by rw [hlen]; exact hjn
    unfold chA
    rw [List.getElem?_eq_getElem this]; rfl
  rw [hsl] at hrd hrl
  clear hsl
  generalize chA l j = c at *
  go_wp2_with ((first | (go_at_call 71; with_reducible refine fb.mono ?_) | (go_at_call 72; with_reducible refine (fs _).mono ?_) | (go_at_call 75; with_reducible refine fn.mono ?_) | (go_at_call 78; with_reducible refine fm.mono ?_)); rintro e wq ⟨rfl, hwq⟩; replace hwq := hwq.symm; subst hwq)
  refine wp_loop_rounds 10 ?_
  rw [rounds_succ]
  go_wp2
  rw [rounds_succ]
  go_wp2
  rw [rounds_succ]
  go_wp2
  rw [rounds_succ]
  go_wp2
  rw [rounds_succ]
  go_wp2
  rw [rounds_succ]
  go_wp2
  rw [rounds_succ]
  go_wp2
  rw [rounds_succ]
  go_wp2
  rw [rounds_succ]
  go_wp2
  rw [rounds_succ]
  go_wp2_with fail
  have hbO := (Below.refl w1.heap.size w1).alloc (Nat.le_refl _) (.cells [.int .i64 21, .int .i64 22, .int .i64 19, .int .i64 20, .int .i64 23, .int .i64 24, .int .i64 18, .int .i64 16, .int .i64 17].toArray 3)
  refine (rtext_any _ _ 1 [c] _ rfl (hrd.later hbO) (by omega)).mono ?_
  rintro e w2 ⟨rfl, hb2⟩
  have hb2' : Below w1.heap.size w1 w2 := hbO.trans (hb2.mono (by simp))
  have B2 := B1.later hb2' (by omega)
  have hbw2 := hb1.trans (hb2'.mono (by omega))
  clear r0 r1 r2 r3 r4 r5 zr0 zr1 zr2 zr3 zr4 zr5 fs fb fn fm hS hbO hb2 hb2' s0 s1 s2 s3 s4 s5 s6 s7 s8
  generalize bytesF [c] = txt at *
  have r0 := B2.cell 0 _ rfl
  have r1 := B2.cell 1 _ rfl
  have r2 := B2.cell 2 _ rfl
  have r3 := B2.cell 3 _ rfl
  have r4 := B2.cell 4 _ rfl
  have r5 := B2.cell 5 _ rfl
  have zr0 := B2.frozen 0
  have zr1 := B2.frozen 1
  have zr2 := B2.frozen 2
  have zr3 := B2.frozen 3
  have zr4 := B2.frozen 4
  have zr5 := B2.frozen 5
  go_wp2
  refine bodyPost_ret (v := .agg #[.int .i64 9, .int .i64 j, .int .i64 (j + 1), .string (strOfNums txt), .string ⟨#[]⟩, .bool false]) (by simp [results, Tryz.results57, go_sem, r0, r1, r2, r3, r4, r5]) rfl ⟨by rw [hN.out]; rfl, ?_⟩
  exact (((((hbw2.setCell (p := ⟨w.heap.size, 0, none⟩) (Nat.le_refl _) _).setCell (p := ⟨w.heap.size, 1, none⟩) (Nat.le_refl _) _).setCell (p := ⟨w.heap.size, 2, none⟩) (Nat.le_refl _) _).setCell (p := ⟨w.heap.size, 3, none⟩) (Nat.le_refl _) _).setCell (p := ⟨w.heap.size, 4, none⟩) (Nat.le_refl _) _).setCell (p := ⟨w.heap.size, 5, none⟩) (Nat.le_refl _) _
end
end Go.Proofs.YtcfhggdiccilaaaGreat
