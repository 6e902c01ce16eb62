/- Texts of mine in one: Rp. -/
import Derived.Test.YtelbjnanpmdnnaaQ45
import Derived.Test.YtelbjnanpmdnnaaQ43
namespace Go.Proofs.Ytelbjnanpmdnnaa
section
open Go.RowKit
set_option linter.unusedVariables false
set_option linter.unusedSimpArgs false
theorem slice_one {l : List Int} {j : Nat} (h : j < l.length) : sliceF l j (j + 1) = [chA l j] := by
  unfold sliceF
  rw [show j + 1 - j = 1 from by omega, List.take_one, List.head?_drop]
  unfold chA
  rw [List.getElem?_eq_getElem h]; rfl
set_option maxRecDepth 100000 in
set_option maxHeartbeats 4000000 in
theorem rnx_del_x {b off n cap : Nat} {l : List Int} {w : World} (i : Int) (k : Nat) (h : Src w (some ⟨b, off, none⟩) n cap l) (hi : i = (k : Int)) (hk : k ≤ n) (j : Nat) (hj : behindF l k = j) (hjn : j < n) (hsp : spB l j = false) (h34 : isB l j 34 = false) (h39 : isB l j 39 = false) (hnu : numAt l j = false) (h45 : isB l j 45 = false) (hna : nameAt l j = false) (h60 : isB l j 60 = false) (h64 : isB l j 64 = false) (h35 : isB l j 35 = false) (hsg : signKind (chA l j) = 9) :
    Calls Try.prog 32 #[.slice (some ⟨b, off, none⟩) n cap, .int .i64 i] w (Told (tkV (nextF l k)) w) := by
  subst hi
  have hlen := h.len
  have hsm := h.small
  obtain ⟨hcap1, hcap2⟩ := h.cap
  have hkn : ¬ (n : Int) < (k : Int) := by omega
  have Hquo : (isB l j 34 || isB l j 39) = false := by rw [h34, h39]; rfl
  have Hnum : numAt l j = false := hnu
  have Hcdc : cdcB l j = false := by unfold cdcB; rw [h45]; rfl
  have Hname : nameAt l j = false := hna
  have Hcdo : cdoB l j = false := by unfold cdoB; rw [h60]; rfl
  have Hat : atSgB l j = false := by unfold atSgB; rw [h64]; rfl
  have Hhash : hashB l j = false := by unfold hashB; rw [h35]; rfl
  have hN : Hid (nextF l k = ⟨9, j, j + 1, bytesF [chA l j], [], false⟩) := Lib.hid (by
    unfold nextF tokAt
    rw [hj]
    rw [if_neg (show ¬ (l.length ≤ j) from by rw [hlen]; omega), if_neg (show ¬ (spB l j = true) from by rw [hsp]; decide), if_neg (show ¬ ((isB l j 34 || isB l j 39) = true) from by rw [Hquo]; decide), if_neg (show ¬ (numAt l j = true) from by rw [Hnum]; decide), if_neg (show ¬ (cdcB l j = true) from by rw [Hcdc]; decide), if_neg (show ¬ (nameAt l j = true) from by rw [Hname]; decide), if_neg (show ¬ (cdoB l j = true) from by rw [Hcdo]; decide), if_neg (show ¬ (atSgB l j = true) from by rw [Hat]; decide), if_neg (show ¬ (hashB l j = true) from by rw [Hhash]; decide), if_pos (show signKind (chA l j) = 9 from hsg)])
  have HP := Lib.hid h
  generalize nextF l k = T at *
  go_enter Try.func32, Try.ntmps32
  go_wp2_with fail
  generalize hW1 : w.alloc (.cells [.int .i64 0, .int .i64 0, .int .i64 0, .string ⟨#[]⟩, .string ⟨#[]⟩, .bool false].toArray 52) = w1 at *
  have hz1 : w1.heap.size = w.heap.size + 1 := by rw [← hW1]; simp
  have hb1 : Below w.heap.size w w1 := by rw [← hW1]; exact (Below.refl _ w).alloc (Nat.le_refl _) _
  have B1 : Blk w1 w.heap.size zeroTkR 52 := by rw [← hW1]; exact Blk.alloc _ _
  have hS := HP.out.later hb1
  clear hW1 h
  have fb := rbehind_any (k : Int) k hS rfl hk
  rw [hj] at fb
  obtain ⟨_, _, e0, hc⟩ := hS.cell j hjn
  cases e0
  have hch := chA_ch hS.pre j
  have hjn' : ¬ (n : Int) ≤ (j : Int) := by omega
  have fs := fun w => rspace_any (chA l j) w hch
  rw [show spaceB (chA l j) = false from hsp] at fs
  have q34 : (chA l j == 34) = false := h34
  have q39 : (chA l j == 39) = false := h39
  have fn := rnumAt_any (j : Int) j hS rfl (by omega)
  rw [hnu] at fn
  have fm := rnameAt_any (j : Int) j hS rfl (by omega)
  rw [hna] at fm
  have q45 : (chA l j == 45) = false := h45
  have q60 : (chA l j == 60) = false := h60
  have q64 : (chA l j == 64) = false := h64
  have q35 : (chA l j == 35) = false := h35
  have s0 : (wrap64 ((({ data := #[40, 41, 91, 93, 123, 125, 44, 58, 59] } : ByteArray)[0]'(by decide)).toNat : Int) == chA l j) = false := beq_eq_false_iff_ne.2 (by rw [show wrap64 ((({ data := #[40, 41, 91, 93, 123, 125, 44, 58, 59] } : ByteArray)[0]'(by decide)).toNat : Int) = 40 from by decide +kernel]; intro e; rw [← e] at hsg; exact absurd hsg (by decide))
  have s1 : (wrap64 ((({ data := #[40, 41, 91, 93, 123, 125, 44, 58, 59] } : ByteArray)[1]'(by decide)).toNat : Int) == chA l j) = false := beq_eq_false_iff_ne.2 (by rw [show wrap64 ((({ data := #[40, 41, 91, 93, 123, 125, 44, 58, 59] } : ByteArray)[1]'(by decide)).toNat : Int) = 41 from by decide +kernel]; intro e; rw [← e] at hsg; exact absurd hsg (by decide))
  have s2 : (wrap64 ((({ data := #[40, 41, 91, 93, 123, 125, 44, 58, 59] } : ByteArray)[2]'(by decide)).toNat : Int) == chA l j) = false := beq_eq_false_iff_ne.2 (by rw [show wrap64 ((({ data := #[40, 41, 91, 93, 123, 125, 44, 58, 59] } : ByteArray)[2]'(by decide)).toNat : Int) = 91 from by decide +kernel]; intro e; rw [← e] at hsg; exact absurd hsg (by decide))
  have s3 : (wrap64 ((({ data := #[40, 41, 91, 93, 123, 125, 44, 58, 59] } : ByteArray)[3]'(by decide)).toNat : Int) == chA l j) = false := beq_eq_false_iff_ne.2 (by rw [show wrap64 ((({ data := #[40, 41, 91, 93, 123, 125, 44, 58, 59] } : ByteArray)[3]'(by decide)).toNat : Int) = 93 from by decide +kernel]; intro e; rw [← e] at hsg; exact absurd hsg (by decide))
  have s4 : (wrap64 ((({ data := #[40, 41, 91, 93, 123, 125, 44, 58, 59] } : ByteArray)[4]'(by decide)).toNat : Int) == chA l j) = false := beq_eq_false_iff_ne.2 (by rw [show wrap64 ((({ data := #[40, 41, 91, 93, 123, 125, 44, 58, 59] } : ByteArray)[4]'(by decide)).toNat : Int) = 123 from by decide +kernel]; intro e; rw [← e] at hsg; exact absurd hsg (by decide))
  have s5 : (wrap64 ((({ data := #[40, 41, 91, 93, 123, 125, 44, 58, 59] } : ByteArray)[5]'(by decide)).toNat : Int) == chA l j) = false := beq_eq_false_iff_ne.2 (by rw [show wrap64 ((({ data := #[40, 41, 91, 93, 123, 125, 44, 58, 59] } : ByteArray)[5]'(by decide)).toNat : Int) = 125 from by decide +kernel]; intro e; rw [← e] at hsg; exact absurd hsg (by decide))
  have s6 : (wrap64 ((({ data := #[40, 41, 91, 93, 123, 125, 44, 58, 59] } : ByteArray)[6]'(by decide)).toNat : Int) == chA l j) = false := beq_eq_false_iff_ne.2 (by rw [show wrap64 ((({ data := #[40, 41, 91, 93, 123, 125, 44, 58, 59] } : ByteArray)[6]'(by decide)).toNat : Int) = 44 from by decide +kernel]; intro e; rw [← e] at hsg; exact absurd hsg (by decide))
  have s7 : (wrap64 ((({ data := #[40, 41, 91, 93, 123, 125, 44, 58, 59] } : ByteArray)[7]'(by decide)).toNat : Int) == chA l j) = false := beq_eq_false_iff_ne.2 (by rw [show wrap64 ((({ data := #[40, 41, 91, 93, 123, 125, 44, 58, 59] } : ByteArray)[7]'(by decide)).toNat : Int) = 58 from by decide +kernel]; intro e; rw [← e] at hsg; exact absurd hsg (by decide))
  have s8 : (wrap64 ((({ data := #[40, 41, 91, 93, 123, 125, 44, 58, 59] } : ByteArray)[8]'(by decide)).toNat : Int) == chA l j) = false := beq_eq_false_iff_ne.2 (by rw [show wrap64 ((({ data := #[40, 41, 91, 93, 123, 125, 44, 58, 59] } : ByteArray)[8]'(by decide)).toNat : Int) = 59 from by decide +kernel]; intro e; rw [← e] at hsg; exact absurd hsg (by decide))
  obtain ⟨hrd, hrl⟩ := hS.part j (j + 1) (by omega) (by omega)
  have hsl : sliceF l j (j + 1) = [chA l j] := slice_one (by rw [hlen]; exact hjn)
  rw [hsl] at hrd hrl
  clear hsl
  clear hsp hj h34 h39 hnu Hquo Hnum Hcdc h45 h60 h64 h35 hna Hname Hcdo Hat Hhash hsg
  have r0 := B1.cell 0 _ rfl
  have r1 := B1.cell 1 _ rfl
  have r2 := B1.cell 2 _ rfl
  have r3 := B1.cell 3 _ rfl
  have r4 := B1.cell 4 _ rfl
  have r5 := B1.cell 5 _ rfl
  have zr0 := B1.frozen 0
  have zr1 := B1.frozen 1
  have zr2 := B1.frozen 2
  have zr3 := B1.frozen 3
  have zr4 := B1.frozen 4
  have zr5 := B1.frozen 5
  generalize chA l j = c at *
  go_wp2_with ((first | (go_at_call 47; with_reducible refine fb.mono ?_) | (go_at_call 48; with_reducible refine (fs _).mono ?_) | (go_at_call 51; with_reducible refine fn.mono ?_) | (go_at_call 54; with_reducible refine fm.mono ?_)); rintro e wq ⟨rfl, hwq⟩; replace hwq := hwq.symm; subst hwq)
  refine wp_loop_rounds 10 ?_
  rw [rounds_succ]
  go_wp2
  rw [rounds_succ]
  go_wp2
  rw [rounds_succ]
  go_wp2
  rw [rounds_succ]
  go_wp2
  rw [rounds_succ]
  go_wp2
  rw [rounds_succ]
  go_wp2
  rw [rounds_succ]
  go_wp2
  rw [rounds_succ]
  go_wp2
  rw [rounds_succ]
  go_wp2
  rw [rounds_succ]
  go_wp2_with fail
  have hbO := (Below.refl w1.heap.size w1).alloc (Nat.le_refl _) (.cells [.int .i64 21, .int .i64 22, .int .i64 19, .int .i64 20, .int .i64 23, .int .i64 24, .int .i64 18, .int .i64 16, .int .i64 17].toArray 3)
  refine (rtext_any _ _ 1 [c] _ rfl (hrd.later hbO) (by omega)).mono ?_
  rintro e w2 ⟨rfl, hb2⟩
  have hb2' : Below w1.heap.size w1 w2 := hbO.trans (hb2.mono (by simp))
  have B2 := B1.later hb2' (by omega)
  have hbw2 := hb1.trans (hb2'.mono (by omega))
  clear r0 r1 r2 r3 r4 r5 zr0 zr1 zr2 zr3 zr4 zr5 hS hbO hb2 hb2'
  generalize bytesF [c] = txt at *
  have r0 := B2.cell 0 _ rfl
  have r1 := B2.cell 1 _ rfl
  have r2 := B2.cell 2 _ rfl
  have r3 := B2.cell 3 _ rfl
  have r4 := B2.cell 4 _ rfl
  have r5 := B2.cell 5 _ rfl
  have zr0 := B2.frozen 0
  have zr1 := B2.frozen 1
  have zr2 := B2.frozen 2
  have zr3 := B2.frozen 3
  have zr4 := B2.frozen 4
  have zr5 := B2.frozen 5
  go_wp2
  refine bodyPost_ret (v := .agg #[.int .i64 9, .int .i64 j, .int .i64 (j + 1 : Nat), .string (strOfNums txt), .string ⟨#[]⟩, .bool false]) (by simp [results, Try.results32, go_sem, r0, r1, r2, r3, r4, r5]) rfl ⟨by rw [hN.out]; rfl, ?_⟩
  exact below_set6R hbw2 (Nat.le_refl _) _ _ _ _ _ _
set_option maxRecDepth 100000 in
set_option maxHeartbeats 4000000 in
theorem rnx_del_d {b off n cap : Nat} {l : List Int} {w : World} (i : Int) (k : Nat) (h : Src w (some ⟨b, off, none⟩) n cap l) (hi : i = (k : Int)) (hk : k ≤ n) (j : Nat) (hj : behindF l k = j) (hjn : j < n) (hsp : spB l j = false) (h34 : isB l j 34 = false) (h39 : isB l j 39 = false) (hnu : numAt l j = false) (h45 : isB l j 45 = true) (h45b : isB l (j + 1) 45 = false) (hna : nameAt l j = false) (h60 : isB l j 60 = false) (h64 : isB l j 64 = false) (h35 : isB l j 35 = false) (hsg : signKind (chA l j) = 9) :
    Calls Try.prog 32 #[.slice (some ⟨b, off, none⟩) n cap, .int .i64 i] w (Told (tkV (nextF l k)) w) := by
  subst hi
  have hlen := h.len
  have hsm := h.small
  obtain ⟨hcap1, hcap2⟩ := h.cap
  have hkn : ¬ (n : Int) < (k : Int) := by omega
  have Hquo : (isB l j 34 || isB l j 39) = false := by rw [h34, h39]; rfl
  have Hnum : numAt l j = false := hnu
  have Hcdc : cdcB l j = false := by unfold cdcB; rw [h45b]; simp
  have Hname : nameAt l j = false := hna
  have Hcdo : cdoB l j = false := by unfold cdoB; rw [h60]; rfl
  have Hat : atSgB l j = false := by unfold atSgB; rw [h64]; rfl
  have Hhash : hashB l j = false := by unfold hashB; rw [h35]; rfl
  have hN : Hid (nextF l k = ⟨9, j, j + 1, bytesF [chA l j], [], false⟩) := Lib.hid (by
    unfold nextF tokAt
    rw [hj]
    rw [if_neg (show ¬ (l.length ≤ j) from by rw [hlen]; omega), if_neg (show ¬ (spB l j = true) from by rw [hsp]; decide), if_neg (show ¬ ((isB l j 34 || isB l j 39) = true) from by rw [Hquo]; decide), if_neg (show ¬ (numAt l j = true) from by rw [Hnum]; decide), if_neg (show ¬ (cdcB l j = true) from by rw [Hcdc]; decide), if_neg (show ¬ (nameAt l j = true) from by rw [Hname]; decide), if_neg (show ¬ (cdoB l j = true) from by rw [Hcdo]; decide), if_neg (show ¬ (atSgB l j = true) from by rw [Hat]; decide), if_neg (show ¬ (hashB l j = true) from by rw [Hhash]; decide), if_pos (show signKind (chA l j) = 9 from hsg)])
  have HP := Lib.hid h
  generalize nextF l k = T at *
  go_enter Try.func32, Try.ntmps32
  go_wp2_with fail
  generalize hW1 : w.alloc (.cells [.int .i64 0, .int .i64 0, .int .i64 0, .string ⟨#[]⟩, .string ⟨#[]⟩, .bool false].toArray 52) = w1 at *
  have hz1 : w1.heap.size = w.heap.size + 1 := by rw [← hW1]; simp
  have hb1 : Below w.heap.size w w1 := by rw [← hW1]; exact (Below.refl _ w).alloc (Nat.le_refl _) _
  have B1 : Blk w1 w.heap.size zeroTkR 52 := by rw [← hW1]; exact Blk.alloc _ _
  have hS := HP.out.later hb1
  clear hW1 h
  have fb := rbehind_any (k : Int) k hS rfl hk
  rw [hj] at fb
  obtain ⟨_, _, e0, hc⟩ := hS.cell j hjn
  cases e0
  have hch := chA_ch hS.pre j
  have hjn' : ¬ (n : Int) ≤ (j : Int) := by omega
  have fs := fun w => rspace_any (chA l j) w hch
  rw [show spaceB (chA l j) = false from hsp] at fs
  have q34 : (chA l j == 34) = false := h34
  have q39 : (chA l j == 39) = false := h39
  have fn := rnumAt_any (j : Int) j hS rfl (by omega)
  rw [hnu] at fn
  have fm := rnameAt_any (j : Int) j hS rfl (by omega)
  rw [hna] at fm
  have q45 : (chA l j == 45) = true := h45
  have fd1 := ris_any ((j : Int) + 1) (j + 1) 45 hS (by omega) (by decide)
  rw [h45b] at fd1
  have q60 : (chA l j == 60) = false := h60
  have q64 : (chA l j == 64) = false := h64
  have q35 : (chA l j == 35) = false := h35
  have s0 : (wrap64 ((({ data := #[40, 41, 91, 93, 123, 125, 44, 58, 59] } : ByteArray)[0]'(by decide)).toNat : Int) == chA l j) = false := beq_eq_false_iff_ne.2 (by rw [show wrap64 ((({ data := #[40, 41, 91, 93, 123, 125, 44, 58, 59] } : ByteArray)[0]'(by decide)).toNat : Int) = 40 from by decide +kernel]; intro e; rw [← e] at hsg; exact absurd hsg (by decide))
  have s1 : (wrap64 ((({ data := #[40, 41, 91, 93, 123, 125, 44, 58, 59] } : ByteArray)[1]'(by decide)).toNat : Int) == chA l j) = false := beq_eq_false_iff_ne.2 (by rw [show wrap64 ((({ data := #[40, 41, 91, 93, 123, 125, 44, 58, 59] } : ByteArray)[1]'(by decide)).toNat : Int) = 41 from by decide +kernel]; intro e; rw [← e] at hsg; exact absurd hsg (by decide))
  have s2 : (wrap64 ((({ data := #[40, 41, 91, 93, 123, 125, 44, 58, 59] } : ByteArray)[2]'(by decide)).toNat : Int) == chA l j) = false := beq_eq_false_iff_ne.2 (by rw [show wrap64 ((({ data := #[40, 41, 91, 93, 123, 125, 44, 58, 59] } : ByteArray)[2]'(by decide)).toNat : Int) = 91 from by decide +kernel]; intro e; rw [← e] at hsg; exact absurd hsg (by decide))
  have s3 : (wrap64 ((({ data := #[40, 41, 91, 93, 123, 125, 44, 58, 59] } : ByteArray)[3]'(by decide)).toNat : Int) == chA l j) = false := beq_eq_false_iff_ne.2 (by rw [show wrap64 ((({ data := #[40, 41, 91, 93, 123, 125, 44, 58, 59] } : ByteArray)[3]'(by decide)).toNat : Int) = 93 from by decide +kernel]; intro e; rw [← e] at hsg; exact absurd hsg (by decide))
  have s4 : (wrap64 ((({ data := #[40, 41, 91, 93, 123, 125, 44, 58, 59] } : ByteArray)[4]'(by decide)).toNat : Int) == chA l j) = false := beq_eq_false_iff_ne.2 (by rw [show wrap64 ((({ data := #[40, 41, 91, 93, 123, 125, 44, 58, 59] } : ByteArray)[4]'(by decide)).toNat : Int) = 123 from by decide +kernel]; intro e; rw [← e] at hsg; exact absurd hsg (by decide))
  have s5 : (wrap64 ((({ data := #[40, 41, 91, 93, 123, 125, 44, 58, 59] } : ByteArray)[5]'(by decide)).toNat : Int) == chA l j) = false := beq_eq_false_iff_ne.2 (by rw [show wrap64 ((({ data := #[40, 41, 91, 93, 123, 125, 44, 58, 59] } : ByteArray)[5]'(by decide)).toNat : Int) = 125 from by decide +kernel]; intro e; rw [← e] at hsg; exact absurd hsg (by decide))
  have s6 : (wrap64 ((({ data := #[40, 41, 91, 93, 123, 125, 44, 58, 59] } : ByteArray)[6]'(by decide)).toNat : Int) == chA l j) = false := beq_eq_false_iff_ne.2 (by rw [show wrap64 ((({ data := #[40, 41, 91, 93, 123, 125, 44, 58, 59] } : ByteArray)[6]'(by decide)).toNat : Int) = 44 from by decide +kernel]; intro e; rw [← e] at hsg; exact absurd hsg (by decide))
  have s7 : (wrap64 ((({ data := #[40, 41, 91, 93, 123, 125, 44, 58, 59] } : ByteArray)[7]'(by decide)).toNat : Int) == chA l j) = false := beq_eq_false_iff_ne.2 (by rw [show wrap64 ((({ data := #[40, 41, 91, 93, 123, 125, 44, 58, 59] } : ByteArray)[7]'(by decide)).toNat : Int) = 58 from by decide +kernel]; intro e; rw [← e] at hsg; exact absurd hsg (by decide))
  have s8 : (wrap64 ((({ data := #[40, 41, 91, 93, 123, 125, 44, 58, 59] } : ByteArray)[8]'(by decide)).toNat : Int) == chA l j) = false := beq_eq_false_iff_ne.2 (by rw [show wrap64 ((({ data := #[40, 41, 91, 93, 123, 125, 44, 58, 59] } : ByteArray)[8]'(by decide)).toNat : Int) = 59 from by decide +kernel]; intro e; rw [← e] at hsg; exact absurd hsg (by decide))
  obtain ⟨hrd, hrl⟩ := hS.part j (j + 1) (by omega) (by omega)
  have hsl : sliceF l j (j + 1) = [chA l j] := slice_one (by rw [hlen]; exact hjn)
  rw [hsl] at hrd hrl
  clear hsl
  clear hsp hj h34 h39 hnu Hquo Hnum Hcdc h45 h45b h60 h64 h35 hna Hname Hcdo Hat Hhash hsg
  have r0 := B1.cell 0 _ rfl
  have r1 := B1.cell 1 _ rfl
  have r2 := B1.cell 2 _ rfl
  have r3 := B1.cell 3 _ rfl
  have r4 := B1.cell 4 _ rfl
  have r5 := B1.cell 5 _ rfl
  have zr0 := B1.frozen 0
  have zr1 := B1.frozen 1
  have zr2 := B1.frozen 2
  have zr3 := B1.frozen 3
  have zr4 := B1.frozen 4
  have zr5 := B1.frozen 5
  generalize chA l j = c at *
  go_wp2_with ((first | (go_at_call 47; with_reducible refine fb.mono ?_) | (go_at_call 48; with_reducible refine (fs _).mono ?_) | (go_at_call 51; with_reducible refine fn.mono ?_) | (go_at_call 53; with_reducible refine fd1.mono ?_) | (go_at_call 54; with_reducible refine fm.mono ?_)); rintro e wq ⟨rfl, hwq⟩; replace hwq := hwq.symm; subst hwq)
  refine wp_loop_rounds 10 ?_
  rw [rounds_succ]
  go_wp2
  rw [rounds_succ]
  go_wp2
  rw [rounds_succ]
  go_wp2
  rw [rounds_succ]
  go_wp2
  rw [rounds_succ]
  go_wp2
  rw [rounds_succ]
  go_wp2
  rw [rounds_succ]
  go_wp2
  rw [rounds_succ]
  go_wp2
  rw [rounds_succ]
  go_wp2
  rw [rounds_succ]
  go_wp2_with fail
  have hbO := (Below.refl w1.heap.size w1).alloc (Nat.le_refl _) (.cells [.int .i64 21, .int .i64 22, .int .i64 19, .int .i64 20, .int .i64 23, .int .i64 24, .int .i64 18, .int .i64 16, .int .i64 17].toArray 3)
  refine (rtext_any _ _ 1 [c] _ rfl (hrd.later hbO) (by omega)).mono ?_
  rintro e w2 ⟨rfl, hb2⟩
  have hb2' : Below w1.heap.size w1 w2 := hbO.trans (hb2.mono (by simp))
  have B2 := B1.later hb2' (by omega)
  have hbw2 := hb1.trans (hb2'.mono (by omega))
  clear r0 r1 r2 r3 r4 r5 zr0 zr1 zr2 zr3 zr4 zr5 hS hbO hb2 hb2'
  generalize bytesF [c] = txt at *
  have r0 := B2.cell 0 _ rfl
  have r1 := B2.cell 1 _ rfl
  have r2 := B2.cell 2 _ rfl
  have r3 := B2.cell 3 _ rfl
  have r4 := B2.cell 4 _ rfl
  have r5 := B2.cell 5 _ rfl
  have zr0 := B2.frozen 0
  have zr1 := B2.frozen 1
  have zr2 := B2.frozen 2
  have zr3 := B2.frozen 3
  have zr4 := B2.frozen 4
  have zr5 := B2.frozen 5
  go_wp2
  refine bodyPost_ret (v := .agg #[.int .i64 9, .int .i64 j, .int .i64 (j + 1 : Nat), .string (strOfNums txt), .string ⟨#[]⟩, .bool false]) (by simp [results, Try.results32, go_sem, r0, r1, r2, r3, r4, r5]) rfl ⟨by rw [hN.out]; rfl, ?_⟩
  exact below_set6R hbw2 (Nat.le_refl _) _ _ _ _ _ _
set_option maxRecDepth 100000 in
set_option maxHeartbeats 4000000 in
theorem rnx_del_oa {b off n cap : Nat} {l : List Int} {w : World} (i : Int) (k : Nat) (h : Src w (some ⟨b, off, none⟩) n cap l) (hi : i = (k : Int)) (hk : k ≤ n) (j : Nat) (hj : behindF l k = j) (hjn : j < n) (hsp : spB l j = false) (h34 : isB l j 34 = false) (h39 : isB l j 39 = false) (hnu : numAt l j = false) (h45 : isB l j 45 = false) (hna : nameAt l j = false) (h60 : isB l j 60 = true) (h33 : isB l (j + 1) 33 = false) (h64 : isB l j 64 = false) (h35 : isB l j 35 = false) (hsg : signKind (chA l j) = 9) :
    Calls Try.prog 32 #[.slice (some ⟨b, off, none⟩) n cap, .int .i64 i] w (Told (tkV (nextF l k)) w) := by
  subst hi
  have hlen := h.len
  have hsm := h.small
  obtain ⟨hcap1, hcap2⟩ := h.cap
  have hkn : ¬ (n : Int) < (k : Int) := by omega
  have Hquo : (isB l j 34 || isB l j 39) = false := by rw [h34, h39]; rfl
  have Hnum : numAt l j = false := hnu
  have Hcdc : cdcB l j = false := by unfold cdcB; rw [h45]; rfl
  have Hname : nameAt l j = false := hna
  have Hcdo : cdoB l j = false := by unfold cdoB; rw [h33]; simp
  have Hat : atSgB l j = false := by unfold atSgB; rw [h64]; rfl
  have Hhash : hashB l j = false := by unfold hashB; rw [h35]; rfl
  have hN : Hid (nextF l k = ⟨9, j, j + 1, bytesF [chA l j], [], false⟩) := Lib.hid (by
    unfold nextF tokAt
    rw [hj]
    rw [if_neg (show ¬ (l.length ≤ j) from by rw [hlen]; omega), if_neg (show ¬ (spB l j = true) from by rw [hsp]; decide), if_neg (show ¬ ((isB l j 34 || isB l j 39) = true) from by rw [Hquo]; decide), if_neg (show ¬ (numAt l j = true) from by rw [Hnum]; decide), if_neg (show ¬ (cdcB l j = true) from by rw [Hcdc]; decide), if_neg (show ¬ (nameAt l j = true) from by rw [Hname]; decide), if_neg (show ¬ (cdoB l j = true) from by rw [Hcdo]; decide), if_neg (show ¬ (atSgB l j = true) from by rw [Hat]; decide), if_neg (show ¬ (hashB l j = true) from by rw [Hhash]; decide), if_pos (show signKind (chA l j) = 9 from hsg)])
  have HP := Lib.hid h
  generalize nextF l k = T at *
  go_enter Try.func32, Try.ntmps32
  go_wp2_with fail
  generalize hW1 : w.alloc (.cells [.int .i64 0, .int .i64 0, .int .i64 0, .string ⟨#[]⟩, .string ⟨#[]⟩, .bool false].toArray 52) = w1 at *
  have hz1 : w1.heap.size = w.heap.size + 1 := by rw [← hW1]; simp
  have hb1 : Below w.heap.size w w1 := by rw [← hW1]; exact (Below.refl _ w).alloc (Nat.le_refl _) _
  have B1 : Blk w1 w.heap.size zeroTkR 52 := by rw [← hW1]; exact Blk.alloc _ _
  have hS := HP.out.later hb1
  clear hW1 h
  have fb := rbehind_any (k : Int) k hS rfl hk
  rw [hj] at fb
  obtain ⟨_, _, e0, hc⟩ := hS.cell j hjn
  cases e0
  have hch := chA_ch hS.pre j
  have hjn' : ¬ (n : Int) ≤ (j : Int) := by omega
  have fs := fun w => rspace_any (chA l j) w hch
  rw [show spaceB (chA l j) = false from hsp] at fs
  have q34 : (chA l j == 34) = false := h34
  have q39 : (chA l j == 39) = false := h39
  have fn := rnumAt_any (j : Int) j hS rfl (by omega)
  rw [hnu] at fn
  have fm := rnameAt_any (j : Int) j hS rfl (by omega)
  rw [hna] at fm
  have q45 : (chA l j == 45) = false := h45
  have q60 : (chA l j == 60) = true := h60
  have q64 : (chA l j == 64) = false := h64
  have q35 : (chA l j == 35) = false := h35
  have fo1 := ris_any ((j : Int) + 1) (j + 1) 33 hS (by omega) (by decide)
  rw [h33] at fo1
  have s0 : (wrap64 ((({ data := #[40, 41, 91, 93, 123, 125, 44, 58, 59] } : ByteArray)[0]'(by decide)).toNat : Int) == chA l j) = false := beq_eq_false_iff_ne.2 (by rw [show wrap64 ((({ data := #[40, 41, 91, 93, 123, 125, 44, 58, 59] } : ByteArray)[0]'(by decide)).toNat : Int) = 40 from by decide +kernel]; intro e; rw [← e] at hsg; exact absurd hsg (by decide))
  have s1 : (wrap64 ((({ data := #[40, 41, 91, 93, 123, 125, 44, 58, 59] } : ByteArray)[1]'(by decide)).toNat : Int) == chA l j) = false := beq_eq_false_iff_ne.2 (by rw [show wrap64 ((({ data := #[40, 41, 91, 93, 123, 125, 44, 58, 59] } : ByteArray)[1]'(by decide)).toNat : Int) = 41 from by decide +kernel]; intro e; rw [← e] at hsg; exact absurd hsg (by decide))
  have s2 : (wrap64 ((({ data := #[40, 41, 91, 93, 123, 125, 44, 58, 59] } : ByteArray)[2]'(by decide)).toNat : Int) == chA l j) = false := beq_eq_false_iff_ne.2 (by rw [show wrap64 ((({ data := #[40, 41, 91, 93, 123, 125, 44, 58, 59] } : ByteArray)[2]'(by decide)).toNat : Int) = 91 from by decide +kernel]; intro e; rw [← e] at hsg; exact absurd hsg (by decide))
  have s3 : (wrap64 ((({ data := #[40, 41, 91, 93, 123, 125, 44, 58, 59] } : ByteArray)[3]'(by decide)).toNat : Int) == chA l j) = false := beq_eq_false_iff_ne.2 (by rw [show wrap64 ((({ data := #[40, 41, 91, 93, 123, 125, 44, 58, 59] } : ByteArray)[3]'(by decide)).toNat : Int) = 93 from by decide +kernel]; intro e; rw [← e] at hsg; exact absurd hsg (by decide))
  have s4 : (wrap64 ((({ data := #[40, 41, 91, 93, 123, 125, 44, 58, 59] } : ByteArray)[4]'(by decide)).toNat : Int) == chA l j) = false := beq_eq_false_iff_ne.2 (by rw [show wrap64 ((({ data := #[40, 41, 91, 93, 123, 125, 44, 58, 59] } : ByteArray)[4]'(by decide)).toNat : Int) = 123 from by decide +kernel]; intro e; rw [← e] at hsg; exact absurd hsg (by decide))
  have s5 : (wrap64 ((({ data := #[40, 41, 91, 93, 123, 125, 44, 58, 59] } : ByteArray)[5]'(by decide)).toNat : Int) == chA l j) = false := beq_eq_false_iff_ne.2 (by rw [show wrap64 ((({ data := #[40, 41, 91, 93, 123, 125, 44, 58, 59] } : ByteArray)[5]'(by decide)).toNat : Int) = 125 from by decide +kernel]; intro e; rw [← e] at hsg; exact absurd hsg (by decide))
  have s6 : (wrap64 ((({ data := #[40, 41, 91, 93, 123, 125, 44, 58, 59] } : ByteArray)[6]'(by decide)).toNat : Int) == chA l j) = false := beq_eq_false_iff_ne.2 (by rw [show wrap64 ((({ data := #[40, 41, 91, 93, 123, 125, 44, 58, 59] } : ByteArray)[6]'(by decide)).toNat : Int) = 44 from by decide +kernel]; intro e; rw [← e] at hsg; exact absurd hsg (by decide))
  have s7 : (wrap64 ((({ data := #[40, 41, 91, 93, 123, 125, 44, 58, 59] } : ByteArray)[7]'(by decide)).toNat : Int) == chA l j) = false := beq_eq_false_iff_ne.2 (by rw [show wrap64 ((({ data := #[40, 41, 91, 93, 123, 125, 44, 58, 59] } : ByteArray)[7]'(by decide)).toNat : Int) = 58 from by decide +kernel]; intro e; rw [← e] at hsg; exact absurd hsg (by decide))
  have s8 : (wrap64 ((({ data := #[40, 41, 91, 93, 123, 125, 44, 58, 59] } : ByteArray)[8]'(by decide)).toNat : Int) == chA l j) = false := beq_eq_false_iff_ne.2 (by rw [show wrap64 ((({ data := #[40, 41, 91, 93, 123, 125, 44, 58, 59] } : ByteArray)[8]'(by decide)).toNat : Int) = 59 from by decide +kernel]; intro e; rw [← e] at hsg; exact absurd hsg (by decide))
  obtain ⟨hrd, hrl⟩ := hS.part j (j + 1) (by omega) (by omega)
  have hsl : sliceF l j (j + 1) = [chA l j] := slice_one (by rw [hlen]; exact hjn)
  rw [hsl] at hrd hrl
  clear hsl
  clear hsp hj h34 h39 hnu Hquo Hnum Hcdc h45 h60 h33 h64 h35 hna Hname Hcdo Hat Hhash hsg
  have r0 := B1.cell 0 _ rfl
  have r1 := B1.cell 1 _ rfl
  have r2 := B1.cell 2 _ rfl
  have r3 := B1.cell 3 _ rfl
  have r4 := B1.cell 4 _ rfl
  have r5 := B1.cell 5 _ rfl
  have zr0 := B1.frozen 0
  have zr1 := B1.frozen 1
  have zr2 := B1.frozen 2
  have zr3 := B1.frozen 3
  have zr4 := B1.frozen 4
  have zr5 := B1.frozen 5
  generalize chA l j = c at *
  go_wp2_with ((first | (go_at_call 47; with_reducible refine fb.mono ?_) | (go_at_call 48; with_reducible refine (fs _).mono ?_) | (go_at_call 51; with_reducible refine fn.mono ?_) | (go_at_call 54; with_reducible refine fm.mono ?_) | (go_at_call 53; with_reducible refine fo1.mono ?_)); rintro e wq ⟨rfl, hwq⟩; replace hwq := hwq.symm; subst hwq)
  refine wp_loop_rounds 10 ?_
  rw [rounds_succ]
  go_wp2
  rw [rounds_succ]
  go_wp2
  rw [rounds_succ]
  go_wp2
  rw [rounds_succ]
  go_wp2
  rw [rounds_succ]
  go_wp2
  rw [rounds_succ]
  go_wp2
  rw [rounds_succ]
  go_wp2
  rw [rounds_succ]
  go_wp2
  rw [rounds_succ]
  go_wp2
  rw [rounds_succ]
  go_wp2_with fail
  have hbO := (Below.refl w1.heap.size w1).alloc (Nat.le_refl _) (.cells [.int .i64 21, .int .i64 22, .int .i64 19, .int .i64 20, .int .i64 23, .int .i64 24, .int .i64 18, .int .i64 16, .int .i64 17].toArray 3)
  refine (rtext_any _ _ 1 [c] _ rfl (hrd.later hbO) (by omega)).mono ?_
  rintro e w2 ⟨rfl, hb2⟩
  have hb2' : Below w1.heap.size w1 w2 := hbO.trans (hb2.mono (by simp))
  have B2 := B1.later hb2' (by omega)
  have hbw2 := hb1.trans (hb2'.mono (by omega))
  clear r0 r1 r2 r3 r4 r5 zr0 zr1 zr2 zr3 zr4 zr5 hS hbO hb2 hb2'
  generalize bytesF [c] = txt at *
  have r0 := B2.cell 0 _ rfl
  have r1 := B2.cell 1 _ rfl
  have r2 := B2.cell 2 _ rfl
  have r3 := B2.cell 3 _ rfl
  have r4 := B2.cell 4 _ rfl
  have r5 := B2.cell 5 _ rfl
  have zr0 := B2.frozen 0
  have zr1 := B2.frozen 1
  have zr2 := B2.frozen 2
  have zr3 := B2.frozen 3
  have zr4 := B2.frozen 4
  have zr5 := B2.frozen 5
  go_wp2
  refine bodyPost_ret (v := .agg #[.int .i64 9, .int .i64 j, .int .i64 (j + 1 : Nat), .string (strOfNums txt), .string ⟨#[]⟩, .bool false]) (by simp [results, Try.results32, go_sem, r0, r1, r2, r3, r4, r5]) rfl ⟨by rw [hN.out]; rfl, ?_⟩
  exact below_set6R hbw2 (Nat.le_refl _) _ _ _ _ _ _
set_option maxRecDepth 100000 in
set_option maxHeartbeats 4000000 in
theorem rnx_del_ob {b off n cap : Nat} {l : List Int} {w : World} (i : Int) (k : Nat) (h : Src w (some ⟨b, off, none⟩) n cap l) (hi : i = (k : Int)) (hk : k ≤ n) (j : Nat) (hj : behindF l k = j) (hjn : j < n) (hsp : spB l j = false) (h34 : isB l j 34 = false) (h39 : isB l j 39 = false) (hnu : numAt l j = false) (h45 : isB l j 45 = false) (hna : nameAt l j = false) (h60 : isB l j 60 = true) (h33 : isB l (j + 1) 33 = true) (g45 : isB l (j + 2) 45 = false) (h64 : isB l j 64 = false) (h35 : isB l j 35 = false) (hsg : signKind (chA l j) = 9) :
    Calls Try.prog 32 #[.slice (some ⟨b, off, none⟩) n cap, .int .i64 i] w (Told (tkV (nextF l k)) w) := by
  subst hi
  have hlen := h.len
  have hsm := h.small
  obtain ⟨hcap1, hcap2⟩ := h.cap
  have hkn : ¬ (n : Int) < (k : Int) := by omega
  have Hquo : (isB l j 34 || isB l j 39) = false := by rw [h34, h39]; rfl
  have Hnum : numAt l j = false := hnu
  have Hcdc : cdcB l j = false := by unfold cdcB; rw [h45]; rfl
  have Hname : nameAt l j = false := hna
  have Hcdo : cdoB l j = false := by unfold cdoB; rw [g45]; simp
  have Hat : atSgB l j = false := by unfold atSgB; rw [h64]; rfl
  have Hhash : hashB l j = false := by unfold hashB; rw [h35]; rfl
  have hN : Hid (nextF l k = ⟨9, j, j + 1, bytesF [chA l j], [], false⟩) := Lib.hid (by
    unfold nextF tokAt
    rw [hj]
    rw [if_neg (show ¬ (l.length ≤ j) from by rw [hlen]; omega), if_neg (show ¬ (spB l j = true) from by rw [hsp]; decide), if_neg (show ¬ ((isB l j 34 || isB l j 39) = true) from by rw [Hquo]; decide), if_neg (show ¬ (numAt l j = true) from by rw [Hnum]; decide), if_neg (show ¬ (cdcB l j = true) from by rw [Hcdc]; decide), if_neg (show ¬ (nameAt l j = true) from by rw [Hname]; decide), if_neg (show ¬ (cdoB l j = true) from by rw [Hcdo]; decide), if_neg (show ¬ (atSgB l j = true) from by rw [Hat]; decide), if_neg (show ¬ (hashB l j = true) from by rw [Hhash]; decide), if_pos (show signKind (chA l j) = 9 from hsg)])
  have HP := Lib.hid h
  generalize nextF l k = T at *
  go_enter Try.func32, Try.ntmps32
  go_wp2_with fail
  generalize hW1 : w.alloc (.cells [.int .i64 0, .int .i64 0, .int .i64 0, .string ⟨#[]⟩, .string ⟨#[]⟩, .bool false].toArray 52) = w1 at *
  have hz1 : w1.heap.size = w.heap.size + 1 := by rw [← hW1]; simp
  have hb1 : Below w.heap.size w w1 := by rw [← hW1]; exact (Below.refl _ w).alloc (Nat.le_refl _) _
  have B1 : Blk w1 w.heap.size zeroTkR 52 := by rw [← hW1]; exact Blk.alloc _ _
  have hS := HP.out.later hb1
  clear hW1 h
  have fb := rbehind_any (k : Int) k hS rfl hk
  rw [hj] at fb
  obtain ⟨_, _, e0, hc⟩ := hS.cell j hjn
  cases e0
  have hch := chA_ch hS.pre j
  have hjn' : ¬ (n : Int) ≤ (j : Int) := by omega
  have fs := fun w => rspace_any (chA l j) w hch
  rw [show spaceB (chA l j) = false from hsp] at fs
  have q34 : (chA l j == 34) = false := h34
  have q39 : (chA l j == 39) = false := h39
  have fn := rnumAt_any (j : Int) j hS rfl (by omega)
  rw [hnu] at fn
  have fm := rnameAt_any (j : Int) j hS rfl (by omega)
  rw [hna] at fm
  have q45 : (chA l j == 45) = false := h45
  have q60 : (chA l j == 60) = true := h60
  have q64 : (chA l j == 64) = false := h64
  have q35 : (chA l j == 35) = false := h35
  have fo1 := ris_any ((j : Int) + 1) (j + 1) 33 hS (by omega) (by decide)
  rw [h33] at fo1
  have fo2 := ris_any ((j : Int) + 2) (j + 2) 45 hS (by omega) (by decide)
  rw [g45] at fo2
  have s0 : (wrap64 ((({ data := #[40, 41, 91, 93, 123, 125, 44, 58, 59] } : ByteArray)[0]'(by decide)).toNat : Int) == chA l j) = false := beq_eq_false_iff_ne.2 (by rw [show wrap64 ((({ data := #[40, 41, 91, 93, 123, 125, 44, 58, 59] } : ByteArray)[0]'(by decide)).toNat : Int) = 40 from by decide +kernel]; intro e; rw [← e] at hsg; exact absurd hsg (by decide))
  have s1 : (wrap64 ((({ data := #[40, 41, 91, 93, 123, 125, 44, 58, 59] } : ByteArray)[1]'(by decide)).toNat : Int) == chA l j) = false := beq_eq_false_iff_ne.2 (by rw [show wrap64 ((({ data := #[40, 41, 91, 93, 123, 125, 44, 58, 59] } : ByteArray)[1]'(by decide)).toNat : Int) = 41 from by decide +kernel]; intro e; rw [← e] at hsg; exact absurd hsg (by decide))
  have s2 : (wrap64 ((({ data := #[40, 41, 91, 93, 123, 125, 44, 58, 59] } : ByteArray)[2]'(by decide)).toNat : Int) == chA l j) = false := beq_eq_false_iff_ne.2 (by rw [show wrap64 ((({ data := #[40, 41, 91, 93, 123, 125, 44, 58, 59] } : ByteArray)[2]'(by decide)).toNat : Int) = 91 from by decide +kernel]; intro e; rw [← e] at hsg; exact absurd hsg (by decide))
  have s3 : (wrap64 ((({ data := #[40, 41, 91, 93, 123, 125, 44, 58, 59] } : ByteArray)[3]'(by decide)).toNat : Int) == chA l j) = false := beq_eq_false_iff_ne.2 (by rw [show wrap64 ((({ data := #[40, 41, 91, 93, 123, 125, 44, 58, 59] } : ByteArray)[3]'(by decide)).toNat : Int) = 93 from by decide +kernel]; intro e; rw [← e] at hsg; exact absurd hsg (by decide))
  have s4 : (wrap64 ((({ data := #[40, 41, 91, 93, 123, 125, 44, 58, 59] } : ByteArray)[4]'(by decide)).toNat : Int) == chA l j) = false := beq_eq_false_iff_ne.2 (by rw [show wrap64 ((({ data := #[40, 41, 91, 93, 123, 125, 44, 58, 59] } : ByteArray)[4]'(by decide)).toNat : Int) = 123 from by decide +kernel]; intro e; rw [← e] at hsg; exact absurd hsg (by decide))
  have s5 : (wrap64 ((({ data := #[40, 41, 91, 93, 123, 125, 44, 58, 59] } : ByteArray)[5]'(by decide)).toNat : Int) == chA l j) = false := beq_eq_false_iff_ne.2 (by rw [show wrap64 ((({ data := #[40, 41, 91, 93, 123, 125, 44, 58, 59] } : ByteArray)[5]'(by decide)).toNat : Int) = 125 from by decide +kernel]; intro e; rw [← e] at hsg; exact absurd hsg (by decide))
  have s6 : (wrap64 ((({ data := #[40, 41, 91, 93, 123, 125, 44, 58, 59] } : ByteArray)[6]'(by decide)).toNat : Int) == chA l j) = false := beq_eq_false_iff_ne.2 (by rw [show wrap64 ((({ data := #[40, 41, 91, 93, 123, 125, 44, 58, 59] } : ByteArray)[6]'(by decide)).toNat : Int) = 44 from by decide +kernel]; intro e; rw [← e] at hsg; exact absurd hsg (by decide))
  have s7 : (wrap64 ((({ data := #[40, 41, 91, 93, 123, 125, 44, 58, 59] } : ByteArray)[7]'(by decide)).toNat : Int) == chA l j) = false := beq_eq_false_iff_ne.2 (by rw [show wrap64 ((({ data := #[40, 41, 91, 93, 123, 125, 44, 58, 59] } : ByteArray)[7]'(by decide)).toNat : Int) = 58 from by decide +kernel]; intro e; rw [← e] at hsg; exact absurd hsg (by decide))
  have s8 : (wrap64 ((({ data := #[40, 41, 91, 93, 123, 125, 44, 58, 59] } : ByteArray)[8]'(by decide)).toNat : Int) == chA l j) = false := beq_eq_false_iff_ne.2 (by rw [show wrap64 ((({ data := #[40, 41, 91, 93, 123, 125, 44, 58, 59] } : ByteArray)[8]'(by decide)).toNat : Int) = 59 from by decide +kernel]; intro e; rw [← e] at hsg; exact absurd hsg (by decide))
  obtain ⟨hrd, hrl⟩ := hS.part j (j + 1) (by omega) (by omega)
  have hsl : sliceF l j (j + 1) = [chA l j] := slice_one (by rw [hlen]; exact hjn)
  rw [hsl] at hrd hrl
  clear hsl
  clear hsp hj h34 h39 hnu Hquo Hnum Hcdc h45 h60 h33 g45 h64 h35 hna Hname Hcdo Hat Hhash hsg
  have r0 := B1.cell 0 _ rfl
  have r1 := B1.cell 1 _ rfl
  have r2 := B1.cell 2 _ rfl
  have r3 := B1.cell 3 _ rfl
  have r4 := B1.cell 4 _ rfl
  have r5 := B1.cell 5 _ rfl
  have zr0 := B1.frozen 0
  have zr1 := B1.frozen 1
  have zr2 := B1.frozen 2
  have zr3 := B1.frozen 3
  have zr4 := B1.frozen 4
  have zr5 := B1.frozen 5
  generalize chA l j = c at *
  go_wp2_with ((first | (go_at_call 47; with_reducible refine fb.mono ?_) | (go_at_call 48; with_reducible refine (fs _).mono ?_) | (go_at_call 51; with_reducible refine fn.mono ?_) | (go_at_call 54; with_reducible refine fm.mono ?_) | (go_at_call 53; with_reducible refine fo1.mono ?_) | (go_at_call 53; with_reducible refine fo2.mono ?_)); rintro e wq ⟨rfl, hwq⟩; replace hwq := hwq.symm; subst hwq)
  refine wp_loop_rounds 10 ?_
  rw [rounds_succ]
  go_wp2
  rw [rounds_succ]
  go_wp2
  rw [rounds_succ]
  go_wp2
  rw [rounds_succ]
  go_wp2
  rw [rounds_succ]
  go_wp2
  rw [rounds_succ]
  go_wp2
  rw [rounds_succ]
  go_wp2
  rw [rounds_succ]
  go_wp2
  rw [rounds_succ]
  go_wp2
  rw [rounds_succ]
  go_wp2_with fail
  have hbO := (Below.refl w1.heap.size w1).alloc (Nat.le_refl _) (.cells [.int .i64 21, .int .i64 22, .int .i64 19, .int .i64 20, .int .i64 23, .int .i64 24, .int .i64 18, .int .i64 16, .int .i64 17].toArray 3)
  refine (rtext_any _ _ 1 [c] _ rfl (hrd.later hbO) (by omega)).mono ?_
  rintro e w2 ⟨rfl, hb2⟩
  have hb2' : Below w1.heap.size w1 w2 := hbO.trans (hb2.mono (by simp))
  have B2 := B1.later hb2' (by omega)
  have hbw2 := hb1.trans (hb2'.mono (by omega))
  clear r0 r1 r2 r3 r4 r5 zr0 zr1 zr2 zr3 zr4 zr5 hS hbO hb2 hb2'
  generalize bytesF [c] = txt at *
  have r0 := B2.cell 0 _ rfl
  have r1 := B2.cell 1 _ rfl
  have r2 := B2.cell 2 _ rfl
  have r3 := B2.cell 3 _ rfl
  have r4 := B2.cell 4 _ rfl
  have r5 := B2.cell 5 _ rfl
  have zr0 := B2.frozen 0
  have zr1 := B2.frozen 1
  have zr2 := B2.frozen 2
  have zr3 := B2.frozen 3
  have zr4 := B2.frozen 4
  have zr5 := B2.frozen 5
  go_wp2
  refine bodyPost_ret (v := .agg #[.int .i64 9, .int .i64 j, .int .i64 (j + 1 : Nat), .string (strOfNums txt), .string ⟨#[]⟩, .bool false]) (by simp [results, Try.results32, go_sem, r0, r1, r2, r3, r4, r5]) rfl ⟨by rw [hN.out]; rfl, ?_⟩
  exact below_set6R hbw2 (Nat.le_refl _) _ _ _ _ _ _
set_option maxRecDepth 100000 in
set_option maxHeartbeats 4000000 in
theorem rnx_del_oc {b off n cap : Nat} {l : List Int} {w : World} (i : Int) (k : Nat) (h : Src w (some ⟨b, off, none⟩) n cap l) (hi : i = (k : Int)) (hk : k ≤ n) (j : Nat) (hj : behindF l k = j) (hjn : j < n) (hsp : spB l j = false) (h34 : isB l j 34 = false) (h39 : isB l j 39 = false) (hnu : numAt l j = false) (h45 : isB l j 45 = false) (hna : nameAt l j = false) (h60 : isB l j 60 = true) (h33 : isB l (j + 1) 33 = true) (g45 : isB l (j + 2) 45 = true) (g45b : isB l (j + 3) 45 = false) (h64 : isB l j 64 = false) (h35 : isB l j 35 = false) (hsg : signKind (chA l j) = 9) :
    Calls Try.prog 32 #[.slice (some ⟨b, off, none⟩) n cap, .int .i64 i] w (Told (tkV (nextF l k)) w) := by
  subst hi
  have hlen := h.len
  have hsm := h.small
  obtain ⟨hcap1, hcap2⟩ := h.cap
  have hkn : ¬ (n : Int) < (k : Int) := by omega
  have Hquo : (isB l j 34 || isB l j 39) = false := by rw [h34, h39]; rfl
  have Hnum : numAt l j = false := hnu
  have Hcdc : cdcB l j = false := by unfold cdcB; rw [h45]; rfl
  have Hname : nameAt l j = false := hna
  have Hcdo : cdoB l j = false := by unfold cdoB; rw [g45b]; simp
  have Hat : atSgB l j = false := by unfold atSgB; rw [h64]; rfl
  have Hhash : hashB l j = false := by unfold hashB; rw [h35]; rfl
  have hN : Hid (nextF l k = ⟨9, j, j + 1, bytesF [chA l j], [], false⟩) := Lib.hid (by
    unfold nextF tokAt
    rw [hj]
    rw [if_neg (show ¬ (l.length ≤ j) from by rw [hlen]; omega), if_neg (show ¬ (spB l j = true) from by rw [hsp]; decide), if_neg (show ¬ ((isB l j 34 || isB l j 39) = true) from by rw [Hquo]; decide), if_neg (show ¬ (numAt l j = true) from by rw [Hnum]; decide), if_neg (show ¬ (cdcB l j = true) from by rw [Hcdc]; decide), if_neg (show ¬ (nameAt l j = true) from by rw [Hname]; decide), if_neg (show ¬ (cdoB l j = true) from by rw [Hcdo]; decide), if_neg (show ¬ (atSgB l j = true) from by rw [Hat]; decide), if_neg (show ¬ (hashB l j = true) from by rw [Hhash]; decide), if_pos (show signKind (chA l j) = 9 from hsg)])
  have HP := Lib.hid h
  generalize nextF l k = T at *
  go_enter Try.func32, Try.ntmps32
  go_wp2_with fail
  generalize hW1 : w.alloc (.cells [.int .i64 0, .int .i64 0, .int .i64 0, .string ⟨#[]⟩, .string ⟨#[]⟩, .bool false].toArray 52) = w1 at *
  have hz1 : w1.heap.size = w.heap.size + 1 := by rw [← hW1]; simp
  have hb1 : Below w.heap.size w w1 := by rw [← hW1]; exact (Below.refl _ w).alloc (Nat.le_refl _) _
  have B1 : Blk w1 w.heap.size zeroTkR 52 := by rw [← hW1]; exact Blk.alloc _ _
  have hS := HP.out.later hb1
  clear hW1 h
  have fb := rbehind_any (k : Int) k hS rfl hk
  rw [hj] at fb
  obtain ⟨_, _, e0, hc⟩ := hS.cell j hjn
  cases e0
  have hch := chA_ch hS.pre j
  have hjn' : ¬ (n : Int) ≤ (j : Int) := by omega
  have fs := fun w => rspace_any (chA l j) w hch
  rw [show spaceB (chA l j) = false from hsp] at fs
  have q34 : (chA l j == 34) = false := h34
  have q39 : (chA l j == 39) = false := h39
  have fn := rnumAt_any (j : Int) j hS rfl (by omega)
  rw [hnu] at fn
  have fm := rnameAt_any (j : Int) j hS rfl (by omega)
  rw [hna] at fm
  have q45 : (chA l j == 45) = false := h45
  have q60 : (chA l j == 60) = true := h60
  have q64 : (chA l j == 64) = false := h64
  have q35 : (chA l j == 35) = false := h35
  have fo1 := ris_any ((j : Int) + 1) (j + 1) 33 hS (by omega) (by decide)
  rw [h33] at fo1
  have fo2 := ris_any ((j : Int) + 2) (j + 2) 45 hS (by omega) (by decide)
  rw [g45] at fo2
  have fo3 := ris_any ((j : Int) + 3) (j + 3) 45 hS (by omega) (by decide)
  rw [g45b] at fo3
  have s0 : (wrap64 ((({ data := #[40, 41, 91, 93, 123, 125, 44, 58, 59] } : ByteArray)[0]'(by decide)).toNat : Int) == chA l j) = false := beq_eq_false_iff_ne.2 (by rw [show wrap64 ((({ data := #[40, 41, 91, 93, 123, 125, 44, 58, 59] } : ByteArray)[0]'(by decide)).toNat : Int) = 40 from by decide +kernel]; intro e; rw [← e] at hsg; exact absurd hsg (by decide))
  have s1 : (wrap64 ((({ data := #[40, 41, 91, 93, 123, 125, 44, 58, 59] } : ByteArray)[1]'(by decide)).toNat : Int) == chA l j) = false := beq_eq_false_iff_ne.2 (by rw [show wrap64 ((({ data := #[40, 41, 91, 93, 123, 125, 44, 58, 59] } : ByteArray)[1]'(by decide)).toNat : Int) = 41 from by decide +kernel]; intro e; rw [← e] at hsg; exact absurd hsg (by decide))
  have s2 : (wrap64 ((({ data := #[40, 41, 91, 93, 123, 125, 44, 58, 59] } : ByteArray)[2]'(by decide)).toNat : Int) == chA l j) = false := beq_eq_false_iff_ne.2 (by rw [show wrap64 ((({ data := #[40, 41, 91, 93, 123, 125, 44, 58, 59] } : ByteArray)[2]'(by decide)).toNat : Int) = 91 from by decide +kernel]; intro e; rw [← e] at hsg; exact absurd hsg (by decide))
  have s3 : (wrap64 ((({ data := #[40, 41, 91, 93, 123, 125, 44, 58, 59] } : ByteArray)[3]'(by decide)).toNat : Int) == chA l j) = false := beq_eq_false_iff_ne.2 (by rw [show wrap64 ((({ data := #[40, 41, 91, 93, 123, 125, 44, 58, 59] } : ByteArray)[3]'(by decide)).toNat : Int) = 93 from by decide +kernel]; intro e; rw [← e] at hsg; exact absurd hsg (by decide))
  have s4 : (wrap64 ((({ data := #[40, 41, 91, 93, 123, 125, 44, 58, 59] } : ByteArray)[4]'(by decide)).toNat : Int) == chA l j) = false := beq_eq_false_iff_ne.2 (by rw [show wrap64 ((({ data := #[40, 41, 91, 93, 123, 125, 44, 58, 59] } : ByteArray)[4]'(by decide)).toNat : Int) = 123 from by decide +kernel]; intro e; rw [← e] at hsg; exact absurd hsg (by decide))
  have s5 : (wrap64 ((({ data := #[40, 41, 91, 93, 123, 125, 44, 58, 59] } : ByteArray)[5]'(by decide)).toNat : Int) == chA l j) = false := beq_eq_false_iff_ne.2 (by rw [show wrap64 ((({ data := #[40, 41, 91, 93, 123, 125, 44, 58, 59] } : ByteArray)[5]'(by decide)).toNat : Int) = 125 from by decide +kernel]; intro e; rw [← e] at hsg; exact absurd hsg (by decide))
  have s6 : (wrap64 ((({ data := #[40, 41, 91, 93, 123, 125, 44, 58, 59] } : ByteArray)[6]'(by decide)).toNat : Int) == chA l j) = false := beq_eq_false_iff_ne.2 (by rw [show wrap64 ((({ data := #[40, 41, 91, 93, 123, 125, 44, 58, 59] } : ByteArray)[6]'(by decide)).toNat : Int) = 44 from by decide +kernel]; intro e; rw [← e] at hsg; exact absurd hsg (by decide))
  have s7 : (wrap64 ((({ data := #[40, 41, 91, 93, 123, 125, 44, 58, 59] } : ByteArray)[7]'(by decide)).toNat : Int) == chA l j) = false := beq_eq_false_iff_ne.2 (by rw [show wrap64 ((({ data := #[40, 41, 91, 93, 123, 125, 44, 58, 59] } : ByteArray)[7]'(by decide)).toNat : Int) = 58 from by decide +kernel]; intro e; rw [← e] at hsg; exact absurd hsg (by decide))
  have s8 : (wrap64 ((({ data := #[40, 41, 91, 93, 123, 125, 44, 58, 59] } : ByteArray)[8]'(by decide)).toNat : Int) == chA l j) = false := beq_eq_false_iff_ne.2 (by rw [show wrap64 ((({ data := #[40, 41, 91, 93, 123, 125, 44, 58, 59] } : ByteArray)[8]'(by decide)).toNat : Int) = 59 from by decide +kernel]; intro e; rw [← e] at hsg; exact absurd hsg (by decide))
  obtain ⟨hrd, hrl⟩ := hS.part j (j + 1) (by omega) (by omega)
  have hsl : sliceF l j (j + 1) = [chA l j] := slice_one (by rw [hlen]; exact hjn)
  rw [hsl] at hrd hrl
  clear hsl
  clear hsp hj h34 h39 hnu Hquo Hnum Hcdc h45 h60 h33 g45 g45b h64 h35 hna Hname Hcdo Hat Hhash hsg
  have r0 := B1.cell 0 _ rfl
  have r1 := B1.cell 1 _ rfl
  have r2 := B1.cell 2 _ rfl
  have r3 := B1.cell 3 _ rfl
  have r4 := B1.cell 4 _ rfl
  have r5 := B1.cell 5 _ rfl
  have zr0 := B1.frozen 0
  have zr1 := B1.frozen 1
  have zr2 := B1.frozen 2
  have zr3 := B1.frozen 3
  have zr4 := B1.frozen 4
  have zr5 := B1.frozen 5
  generalize chA l j = c at *
  go_wp2_with ((first | (go_at_call 47; with_reducible refine fb.mono ?_) | (go_at_call 48; with_reducible refine (fs _).mono ?_) | (go_at_call 51; with_reducible refine fn.mono ?_) | (go_at_call 54; with_reducible refine fm.mono ?_) | (go_at_call 53; with_reducible refine fo1.mono ?_) | (go_at_call 53; with_reducible refine fo2.mono ?_) | (go_at_call 53; with_reducible refine fo3.mono ?_)); rintro e wq ⟨rfl, hwq⟩; replace hwq := hwq.symm; subst hwq)
  refine wp_loop_rounds 10 ?_
  rw [rounds_succ]
  go_wp2
  rw [rounds_succ]
  go_wp2
  rw [rounds_succ]
  go_wp2
  rw [rounds_succ]
  go_wp2
  rw [rounds_succ]
  go_wp2
  rw [rounds_succ]
  go_wp2
  rw [rounds_succ]
  go_wp2
  rw [rounds_succ]
  go_wp2
  rw [rounds_succ]
  go_wp2
  rw [rounds_succ]
  go_wp2_with fail
  have hbO := (Below.refl w1.heap.size w1).alloc (Nat.le_refl _) (.cells [.int .i64 21, .int .i64 22, .int .i64 19, .int .i64 20, .int .i64 23, .int .i64 24, .int .i64 18, .int .i64 16, .int .i64 17].toArray 3)
  refine (rtext_any _ _ 1 [c] _ rfl (hrd.later hbO) (by omega)).mono ?_
  rintro e w2 ⟨rfl, hb2⟩
  have hb2' : Below w1.heap.size w1 w2 := hbO.trans (hb2.mono (by simp))
  have B2 := B1.later hb2' (by omega)
  have hbw2 := hb1.trans (hb2'.mono (by omega))
  clear r0 r1 r2 r3 r4 r5 zr0 zr1 zr2 zr3 zr4 zr5 hS hbO hb2 hb2'
  generalize bytesF [c] = txt at *
  have r0 := B2.cell 0 _ rfl
  have r1 := B2.cell 1 _ rfl
  have r2 := B2.cell 2 _ rfl
  have r3 := B2.cell 3 _ rfl
  have r4 := B2.cell 4 _ rfl
  have r5 := B2.cell 5 _ rfl
  have zr0 := B2.frozen 0
  have zr1 := B2.frozen 1
  have zr2 := B2.frozen 2
  have zr3 := B2.frozen 3
  have zr4 := B2.frozen 4
  have zr5 := B2.frozen 5
  go_wp2
  refine bodyPost_ret (v := .agg #[.int .i64 9, .int .i64 j, .int .i64 (j + 1 : Nat), .string (strOfNums txt), .string ⟨#[]⟩, .bool false]) (by simp [results, Try.results32, go_sem, r0, r1, r2, r3, r4, r5]) rfl ⟨by rw [hN.out]; rfl, ?_⟩
  exact below_set6R hbw2 (Nat.le_refl _) _ _ _ _ _ _
set_option maxRecDepth 100000 in
set_option maxHeartbeats 4000000 in
theorem rnx_del_a {b off n cap : Nat} {l : List Int} {w : World} (i : Int) (k : Nat) (h : Src w (some ⟨b, off, none⟩) n cap l) (hi : i = (k : Int)) (hk : k ≤ n) (j : Nat) (hj : behindF l k = j) (hjn : j < n) (hsp : spB l j = false) (h34 : isB l j 34 = false) (h39 : isB l j 39 = false) (hnu : numAt l j = false) (h45 : isB l j 45 = false) (hna : nameAt l j = false) (h60 : isB l j 60 = false) (h64 : isB l j 64 = true) (hnb : nameAt l (j + 1) = false) (h35 : isB l j 35 = false) (hsg : signKind (chA l j) = 9) :
    Calls Try.prog 32 #[.slice (some ⟨b, off, none⟩) n cap, .int .i64 i] w (Told (tkV (nextF l k)) w) := by
  subst hi
  have hlen := h.len
  have hsm := h.small
  obtain ⟨hcap1, hcap2⟩ := h.cap
  have hkn : ¬ (n : Int) < (k : Int) := by omega
  have Hquo : (isB l j 34 || isB l j 39) = false := by rw [h34, h39]; rfl
  have Hnum : numAt l j = false := hnu
  have Hcdc : cdcB l j = false := by unfold cdcB; rw [h45]; rfl
  have Hname : nameAt l j = false := hna
  have Hcdo : cdoB l j = false := by unfold cdoB; rw [h60]; rfl
  have Hat : atSgB l j = false := by unfold atSgB; rw [hnb]; simp
  have Hhash : hashB l j = false := by unfold hashB; rw [h35]; rfl
  have hN : Hid (nextF l k = ⟨9, j, j + 1, bytesF [chA l j], [], false⟩) := Lib.hid (by
    unfold nextF tokAt
    rw [hj]
    rw [if_neg (show ¬ (l.length ≤ j) from by rw [hlen]; omega), if_neg (show ¬ (spB l j = true) from by rw [hsp]; decide), if_neg (show ¬ ((isB l j 34 || isB l j 39) = true) from by rw [Hquo]; decide), if_neg (show ¬ (numAt l j = true) from by rw [Hnum]; decide), if_neg (show ¬ (cdcB l j = true) from by rw [Hcdc]; decide), if_neg (show ¬ (nameAt l j = true) from by rw [Hname]; decide), if_neg (show ¬ (cdoB l j = true) from by rw [Hcdo]; decide), if_neg (show ¬ (atSgB l j = true) from by rw [Hat]; decide), if_neg (show ¬ (hashB l j = true) from by rw [Hhash]; decide), if_pos (show signKind (chA l j) = 9 from hsg)])
  have HP := Lib.hid h
  generalize nextF l k = T at *
  go_enter Try.func32, Try.ntmps32
  go_wp2_with fail
  generalize hW1 : w.alloc (.cells [.int .i64 0, .int .i64 0, .int .i64 0, .string ⟨#[]⟩, .string ⟨#[]⟩, .bool false].toArray 52) = w1 at *
  have hz1 : w1.heap.size = w.heap.size + 1 := by rw [← hW1]; simp
  have hb1 : Below w.heap.size w w1 := by rw [← hW1]; exact (Below.refl _ w).alloc (Nat.le_refl _) _
  have B1 : Blk w1 w.heap.size zeroTkR 52 := by rw [← hW1]; exact Blk.alloc _ _
  have hS := HP.out.later hb1
  clear hW1 h
  have fb := rbehind_any (k : Int) k hS rfl hk
  rw [hj] at fb
  obtain ⟨_, _, e0, hc⟩ := hS.cell j hjn
  cases e0
  have hch := chA_ch hS.pre j
  have hjn' : ¬ (n : Int) ≤ (j : Int) := by omega
  have fs := fun w => rspace_any (chA l j) w hch
  rw [show spaceB (chA l j) = false from hsp] at fs
  have q34 : (chA l j == 34) = false := h34
  have q39 : (chA l j == 39) = false := h39
  have fn := rnumAt_any (j : Int) j hS rfl (by omega)
  rw [hnu] at fn
  have fm := rnameAt_any (j : Int) j hS rfl (by omega)
  rw [hna] at fm
  have q45 : (chA l j == 45) = false := h45
  have q60 : (chA l j == 60) = false := h60
  have q64 : (chA l j == 64) = true := h64
  have q35 : (chA l j == 35) = false := h35
  have fm2 := rnameAt_any ((j : Int) + 1) (j + 1) hS (by omega) (by omega)
  rw [hnb] at fm2
  have s0 : (wrap64 ((({ data := #[40, 41, 91, 93, 123, 125, 44, 58, 59] } : ByteArray)[0]'(by decide)).toNat : Int) == chA l j) = false := beq_eq_false_iff_ne.2 (by rw [show wrap64 ((({ data := #[40, 41, 91, 93, 123, 125, 44, 58, 59] } : ByteArray)[0]'(by decide)).toNat : Int) = 40 from by decide +kernel]; intro e; rw [← e] at hsg; exact absurd hsg (by decide))
  have s1 : (wrap64 ((({ data := #[40, 41, 91, 93, 123, 125, 44, 58, 59] } : ByteArray)[1]'(by decide)).toNat : Int) == chA l j) = false := beq_eq_false_iff_ne.2 (by rw [show wrap64 ((({ data := #[40, 41, 91, 93, 123, 125, 44, 58, 59] } : ByteArray)[1]'(by decide)).toNat : Int) = 41 from by decide +kernel]; intro e; rw [← e] at hsg; exact absurd hsg (by decide))
  have s2 : (wrap64 ((({ data := #[40, 41, 91, 93, 123, 125, 44, 58, 59] } : ByteArray)[2]'(by decide)).toNat : Int) == chA l j) = false := beq_eq_false_iff_ne.2 (by rw [show wrap64 ((({ data := #[40, 41, 91, 93, 123, 125, 44, 58, 59] } : ByteArray)[2]'(by decide)).toNat : Int) = 91 from by decide +kernel]; intro e; rw [← e] at hsg; exact absurd hsg (by decide))
  have s3 : (wrap64 ((({ data := #[40, 41, 91, 93, 123, 125, 44, 58, 59] } : ByteArray)[3]'(by decide)).toNat : Int) == chA l j) = false := beq_eq_false_iff_ne.2 (by rw [show wrap64 ((({ data := #[40, 41, 91, 93, 123, 125, 44, 58, 59] } : ByteArray)[3]'(by decide)).toNat : Int) = 93 from by decide +kernel]; intro e; rw [← e] at hsg; exact absurd hsg (by decide))
  have s4 : (wrap64 ((({ data := #[40, 41, 91, 93, 123, 125, 44, 58, 59] } : ByteArray)[4]'(by decide)).toNat : Int) == chA l j) = false := beq_eq_false_iff_ne.2 (by rw [show wrap64 ((({ data := #[40, 41, 91, 93, 123, 125, 44, 58, 59] } : ByteArray)[4]'(by decide)).toNat : Int) = 123 from by decide +kernel]; intro e; rw [← e] at hsg; exact absurd hsg (by decide))
  have s5 : (wrap64 ((({ data := #[40, 41, 91, 93, 123, 125, 44, 58, 59] } : ByteArray)[5]'(by decide)).toNat : Int) == chA l j) = false := beq_eq_false_iff_ne.2 (by rw [show wrap64 ((({ data := #[40, 41, 91, 93, 123, 125, 44, 58, 59] } : ByteArray)[5]'(by decide)).toNat : Int) = 125 from by decide +kernel]; intro e; rw [← e] at hsg; exact absurd hsg (by decide))
  have s6 : (wrap64 ((({ data := #[40, 41, 91, 93, 123, 125, 44, 58, 59] } : ByteArray)[6]'(by decide)).toNat : Int) == chA l j) = false := beq_eq_false_iff_ne.2 (by rw [show wrap64 ((({ data := #[40, 41, 91, 93, 123, 125, 44, 58, 59] } : ByteArray)[6]'(by decide)).toNat : Int) = 44 from by decide +kernel]; intro e; rw [← e] at hsg; exact absurd hsg (by decide))
  have s7 : (wrap64 ((({ data := #[40, 41, 91, 93, 123, 125, 44, 58, 59] } : ByteArray)[7]'(by decide)).toNat : Int) == chA l j) = false := beq_eq_false_iff_ne.2 (by rw [show wrap64 ((({ data := #[40, 41, 91, 93, 123, 125, 44, 58, 59] } : ByteArray)[7]'(by decide)).toNat : Int) = 58 from by decide +kernel]; intro e; rw [← e] at hsg; exact absurd hsg (by decide))
  have s8 : (wrap64 ((({ data := #[40, 41, 91, 93, 123, 125, 44, 58, 59] } : ByteArray)[8]'(by decide)).toNat : Int) == chA l j) = false := beq_eq_false_iff_ne.2 (by rw [show wrap64 ((({ data := #[40, 41, 91, 93, 123, 125, 44, 58, 59] } : ByteArray)[8]'(by decide)).toNat : Int) = 59 from by decide +kernel]; intro e; rw [← e] at hsg; exact absurd hsg (by decide))
  obtain ⟨hrd, hrl⟩ := hS.part j (j + 1) (by omega) (by omega)
  have hsl : sliceF l j (j + 1) = [chA l j] := slice_one (by rw [hlen]; exact hjn)
  rw [hsl] at hrd hrl
  clear hsl
  clear hsp hj h34 h39 hnu Hquo Hnum Hcdc h45 h60 h64 hnb h35 hna Hname Hcdo Hat Hhash hsg
  have r0 := B1.cell 0 _ rfl
  have r1 := B1.cell 1 _ rfl
  have r2 := B1.cell 2 _ rfl
  have r3 := B1.cell 3 _ rfl
  have r4 := B1.cell 4 _ rfl
  have r5 := B1.cell 5 _ rfl
  have zr0 := B1.frozen 0
  have zr1 := B1.frozen 1
  have zr2 := B1.frozen 2
  have zr3 := B1.frozen 3
  have zr4 := B1.frozen 4
  have zr5 := B1.frozen 5
  generalize chA l j = c at *
  go_wp2_with ((first | (go_at_call 47; with_reducible refine fb.mono ?_) | (go_at_call 48; with_reducible refine (fs _).mono ?_) | (go_at_call 51; with_reducible refine fn.mono ?_) | (go_at_call 54; with_reducible refine fm.mono ?_) | (go_at_call 54; with_reducible refine fm2.mono ?_)); rintro e wq ⟨rfl, hwq⟩; replace hwq := hwq.symm; subst hwq)
  refine wp_loop_rounds 10 ?_
  rw [rounds_succ]
  go_wp2
  rw [rounds_succ]
  go_wp2
  rw [rounds_succ]
  go_wp2
  rw [rounds_succ]
  go_wp2
  rw [rounds_succ]
  go_wp2
  rw [rounds_succ]
  go_wp2
  rw [rounds_succ]
  go_wp2
  rw [rounds_succ]
  go_wp2
  rw [rounds_succ]
  go_wp2
  rw [rounds_succ]
  go_wp2_with fail
  have hbO := (Below.refl w1.heap.size w1).alloc (Nat.le_refl _) (.cells [.int .i64 21, .int .i64 22, .int .i64 19, .int .i64 20, .int .i64 23, .int .i64 24, .int .i64 18, .int .i64 16, .int .i64 17].toArray 3)
  refine (rtext_any _ _ 1 [c] _ rfl (hrd.later hbO) (by omega)).mono ?_
  rintro e w2 ⟨rfl, hb2⟩
  have hb2' : Below w1.heap.size w1 w2 := hbO.trans (hb2.mono (by simp))
  have B2 := B1.later hb2' (by omega)
  have hbw2 := hb1.trans (hb2'.mono (by omega))
  clear r0 r1 r2 r3 r4 r5 zr0 zr1 zr2 zr3 zr4 zr5 hS hbO hb2 hb2'
  generalize bytesF [c] = txt at *
  have r0 := B2.cell 0 _ rfl
  have r1 := B2.cell 1 _ rfl
  have r2 := B2.cell 2 _ rfl
  have r3 := B2.cell 3 _ rfl
  have r4 := B2.cell 4 _ rfl
  have r5 := B2.cell 5 _ rfl
  have zr0 := B2.frozen 0
  have zr1 := B2.frozen 1
  have zr2 := B2.frozen 2
  have zr3 := B2.frozen 3
  have zr4 := B2.frozen 4
  have zr5 := B2.frozen 5
  go_wp2
  refine bodyPost_ret (v := .agg #[.int .i64 9, .int .i64 j, .int .i64 (j + 1 : Nat), .string (strOfNums txt), .string ⟨#[]⟩, .bool false]) (by simp [results, Try.results32, go_sem, r0, r1, r2, r3, r4, r5]) rfl ⟨by rw [hN.out]; rfl, ?_⟩
  exact below_set6R hbw2 (Nat.le_refl _) _ _ _ _ _ _
set_option maxRecDepth 100000 in
set_option maxHeartbeats 4000000 in
theorem rnx_del_h {b off n cap : Nat} {l : List Int} {w : World} (i : Int) (k : Nat) (h : Src w (some ⟨b, off, none⟩) n cap l) (hi : i = (k : Int)) (hk : k ≤ n) (j : Nat) (hj : behindF l k = j) (hjn : j < n) (hsp : spB l j = false) (h34 : isB l j 34 = false) (h39 : isB l j 39 = false) (hnu : numAt l j = false) (h45 : isB l j 45 = false) (hna : nameAt l j = false) (h60 : isB l j 60 = false) (h64 : isB l j 64 = false) (h35 : isB l j 35 = true) (hin : nmB l (j + 1) = false) (hes : escB l (j + 1) = false) (hsg : signKind (chA l j) = 9) :
    Calls Try.prog 32 #[.slice (some ⟨b, off, none⟩) n cap, .int .i64 i] w (Told (tkV (nextF l k)) w) := by
  subst hi
  have hlen := h.len
  have hsm := h.small
  obtain ⟨hcap1, hcap2⟩ := h.cap
  have hkn : ¬ (n : Int) < (k : Int) := by omega
  have Hquo : (isB l j 34 || isB l j 39) = false := by rw [h34, h39]; rfl
  have Hnum : numAt l j = false := hnu
  have Hcdc : cdcB l j = false := by unfold cdcB; rw [h45]; rfl
  have Hname : nameAt l j = false := hna
  have Hcdo : cdoB l j = false := by unfold cdoB; rw [h60]; rfl
  have Hat : atSgB l j = false := by unfold atSgB; rw [h64]; rfl
  have Hhash : hashB l j = false := by unfold hashB; rw [hin, hes]; simp
  have hN : Hid (nextF l k = ⟨9, j, j + 1, bytesF [chA l j], [], false⟩) := Lib.hid (by
    unfold nextF tokAt
    rw [hj]
    rw [if_neg (show ¬ (l.length ≤ j) from by rw [hlen]; omega), if_neg (show ¬ (spB l j = true) from by rw [hsp]; decide), if_neg (show ¬ ((isB l j 34 || isB l j 39) = true) from by rw [Hquo]; decide), if_neg (show ¬ (numAt l j = true) from by rw [Hnum]; decide), if_neg (show ¬ (cdcB l j = true) from by rw [Hcdc]; decide), if_neg (show ¬ (nameAt l j = true) from by rw [Hname]; decide), if_neg (show ¬ (cdoB l j = true) from by rw [Hcdo]; decide), if_neg (show ¬ (atSgB l j = true) from by rw [Hat]; decide), if_neg (show ¬ (hashB l j = true) from by rw [Hhash]; decide), if_pos (show signKind (chA l j) = 9 from hsg)])
  have HP := Lib.hid h
  generalize nextF l k = T at *
  go_enter Try.func32, Try.ntmps32
  go_wp2_with fail
  generalize hW1 : w.alloc (.cells [.int .i64 0, .int .i64 0, .int .i64 0, .string ⟨#[]⟩, .string ⟨#[]⟩, .bool false].toArray 52) = w1 at *
  have hz1 : w1.heap.size = w.heap.size + 1 := by rw [← hW1]; simp
  have hb1 : Below w.heap.size w w1 := by rw [← hW1]; exact (Below.refl _ w).alloc (Nat.le_refl _) _
  have B1 : Blk w1 w.heap.size zeroTkR 52 := by rw [← hW1]; exact Blk.alloc _ _
  have hS := HP.out.later hb1
  clear hW1 h
  have fb := rbehind_any (k : Int) k hS rfl hk
  rw [hj] at fb
  obtain ⟨_, _, e0, hc⟩ := hS.cell j hjn
  cases e0
  have hch := chA_ch hS.pre j
  have hjn' : ¬ (n : Int) ≤ (j : Int) := by omega
  have fs := fun w => rspace_any (chA l j) w hch
  rw [show spaceB (chA l j) = false from hsp] at fs
  have q34 : (chA l j == 34) = false := h34
  have q39 : (chA l j == 39) = false := h39
  have fn := rnumAt_any (j : Int) j hS rfl (by omega)
  rw [hnu] at fn
  have fm := rnameAt_any (j : Int) j hS rfl (by omega)
  rw [hna] at fm
  have q45 : (chA l j == 45) = false := h45
  have q60 : (chA l j == 60) = false := h60
  have q64 : (chA l j == 64) = false := h64
  have q35 : (chA l j == 35) = true := h35
  have fi := rinnerAt ((j : Int) + 1) (j + 1) hS (by omega)
  rw [hin] at fi
  have fe := resc_any ((j : Int) + 1) (j + 1) hS (by omega) (by omega)
  rw [hes] at fe
  have s0 : (wrap64 ((({ data := #[40, 41, 91, 93, 123, 125, 44, 58, 59] } : ByteArray)[0]'(by decide)).toNat : Int) == chA l j) = false := beq_eq_false_iff_ne.2 (by rw [show wrap64 ((({ data := #[40, 41, 91, 93, 123, 125, 44, 58, 59] } : ByteArray)[0]'(by decide)).toNat : Int) = 40 from by decide +kernel]; intro e; rw [← e] at hsg; exact absurd hsg (by decide))
  have s1 : (wrap64 ((({ data := #[40, 41, 91, 93, 123, 125, 44, 58, 59] } : ByteArray)[1]'(by decide)).toNat : Int) == chA l j) = false := beq_eq_false_iff_ne.2 (by rw [show wrap64 ((({ data := #[40, 41, 91, 93, 123, 125, 44, 58, 59] } : ByteArray)[1]'(by decide)).toNat : Int) = 41 from by decide +kernel]; intro e; rw [← e] at hsg; exact absurd hsg (by decide))
  have s2 : (wrap64 ((({ data := #[40, 41, 91, 93, 123, 125, 44, 58, 59] } : ByteArray)[2]'(by decide)).toNat : Int) == chA l j) = false := beq_eq_false_iff_ne.2 (by rw [show wrap64 ((({ data := #[40, 41, 91, 93, 123, 125, 44, 58, 59] } : ByteArray)[2]'(by decide)).toNat : Int) = 91 from by decide +kernel]; intro e; rw [← e] at hsg; exact absurd hsg (by decide))
  have s3 : (wrap64 ((({ data := #[40, 41, 91, 93, 123, 125, 44, 58, 59] } : ByteArray)[3]'(by decide)).toNat : Int) == chA l j) = false := beq_eq_false_iff_ne.2 (by rw [show wrap64 ((({ data := #[40, 41, 91, 93, 123, 125, 44, 58, 59] } : ByteArray)[3]'(by decide)).toNat : Int) = 93 from by decide +kernel]; intro e; rw [← e] at hsg; exact absurd hsg (by decide))
  have s4 : (wrap64 ((({ data := #[40, 41, 91, 93, 123, 125, 44, 58, 59] } : ByteArray)[4]'(by decide)).toNat : Int) == chA l j) = false := beq_eq_false_iff_ne.2 (by rw [show wrap64 ((({ data := #[40, 41, 91, 93, 123, 125, 44, 58, 59] } : ByteArray)[4]'(by decide)).toNat : Int) = 123 from by decide +kernel]; intro e; rw [← e] at hsg; exact absurd hsg (by decide))
  have s5 : (wrap64 ((({ data := #[40, 41, 91, 93, 123, 125, 44, 58, 59] } : ByteArray)[5]'(by decide)).toNat : Int) == chA l j) = false := beq_eq_false_iff_ne.2 (by rw [show wrap64 ((({ data := #[40, 41, 91, 93, 123, 125, 44, 58, 59] } : ByteArray)[5]'(by decide)).toNat : Int) = 125 from by decide +kernel]; intro e; rw [← e] at hsg; exact absurd hsg (by decide))
  have s6 : (wrap64 ((({ data := #[40, 41, 91, 93, 123, 125, 44, 58, 59] } : ByteArray)[6]'(by decide)).toNat : Int) == chA l j) = false := beq_eq_false_iff_ne.2 (by rw [show wrap64 ((({ data := #[40, 41, 91, 93, 123, 125, 44, 58, 59] } : ByteArray)[6]'(by decide)).toNat : Int) = 44 from by decide +kernel]; intro e; rw [← e] at hsg; exact absurd hsg (by decide))
  have s7 : (wrap64 ((({ data := #[40, 41, 91, 93, 123, 125, 44, 58, 59] } : ByteArray)[7]'(by decide)).toNat : Int) == chA l j) = false := beq_eq_false_iff_ne.2 (by rw [show wrap64 ((({ data := #[40, 41, 91, 93, 123, 125, 44, 58, 59] } : ByteArray)[7]'(by decide)).toNat : Int) = 58 from by decide +kernel]; intro e; rw [← e] at hsg; exact absurd hsg (by decide))
  have s8 : (wrap64 ((({ data := #[40, 41, 91, 93, 123, 125, 44, 58, 59] } : ByteArray)[8]'(by decide)).toNat : Int) == chA l j) = false := beq_eq_false_iff_ne.2 (by rw [show wrap64 ((({ data := #[40, 41, 91, 93, 123, 125, 44, 58, 59] } : ByteArray)[8]'(by decide)).toNat : Int) = 59 from by decide +kernel]; intro e; rw [← e] at hsg; exact absurd hsg (by decide))
  obtain ⟨hrd, hrl⟩ := hS.part j (j + 1) (by omega) (by omega)
  have hsl : sliceF l j (j + 1) = [chA l j] := slice_one (by rw [hlen]; exact hjn)
  rw [hsl] at hrd hrl
  clear hsl
  clear hsp hj h34 h39 hnu Hquo Hnum Hcdc h45 h60 h64 h35 hin hes hna Hname Hcdo Hat Hhash hsg
  have r0 := B1.cell 0 _ rfl
  have r1 := B1.cell 1 _ rfl
  have r2 := B1.cell 2 _ rfl
  have r3 := B1.cell 3 _ rfl
  have r4 := B1.cell 4 _ rfl
  have r5 := B1.cell 5 _ rfl
  have zr0 := B1.frozen 0
  have zr1 := B1.frozen 1
  have zr2 := B1.frozen 2
  have zr3 := B1.frozen 3
  have zr4 := B1.frozen 4
  have zr5 := B1.frozen 5
  generalize chA l j = c at *
  go_wp2_with ((first | (go_at_call 47; with_reducible refine fb.mono ?_) | (go_at_call 48; with_reducible refine (fs _).mono ?_) | (go_at_call 51; with_reducible refine fn.mono ?_) | (go_at_call 54; with_reducible refine fm.mono ?_) | (go_at_call 57; with_reducible refine fi.mono ?_) | (go_at_call 58; with_reducible refine fe.mono ?_)); rintro e wq ⟨rfl, hwq⟩; replace hwq := hwq.symm; subst hwq)
  refine wp_loop_rounds 10 ?_
  rw [rounds_succ]
  go_wp2
  rw [rounds_succ]
  go_wp2
  rw [rounds_succ]
  go_wp2
  rw [rounds_succ]
  go_wp2
  rw [rounds_succ]
  go_wp2
  rw [rounds_succ]
  go_wp2
  rw [rounds_succ]
  go_wp2
  rw [rounds_succ]
  go_wp2
  rw [rounds_succ]
  go_wp2
  rw [rounds_succ]
  go_wp2_with fail
  have hbO := (Below.refl w1.heap.size w1).alloc (Nat.le_refl _) (.cells [.int .i64 21, .int .i64 22, .int .i64 19, .int .i64 20, .int .i64 23, .int .i64 24, .int .i64 18, .int .i64 16, .int .i64 17].toArray 3)
  refine (rtext_any _ _ 1 [c] _ rfl (hrd.later hbO) (by omega)).mono ?_
  rintro e w2 ⟨rfl, hb2⟩
  have hb2' : Below w1.heap.size w1 w2 := hbO.trans (hb2.mono (by simp))
  have B2 := B1.later hb2' (by omega)
  have hbw2 := hb1.trans (hb2'.mono (by omega))
  clear r0 r1 r2 r3 r4 r5 zr0 zr1 zr2 zr3 zr4 zr5 hS hbO hb2 hb2'
  generalize bytesF [c] = txt at *
  have r0 := B2.cell 0 _ rfl
  have r1 := B2.cell 1 _ rfl
  have r2 := B2.cell 2 _ rfl
  have r3 := B2.cell 3 _ rfl
  have r4 := B2.cell 4 _ rfl
  have r5 := B2.cell 5 _ rfl
  have zr0 := B2.frozen 0
  have zr1 := B2.frozen 1
  have zr2 := B2.frozen 2
  have zr3 := B2.frozen 3
  have zr4 := B2.frozen 4
  have zr5 := B2.frozen 5
  go_wp2
  refine bodyPost_ret (v := .agg #[.int .i64 9, .int .i64 j, .int .i64 (j + 1 : Nat), .string (strOfNums txt), .string ⟨#[]⟩, .bool false]) (by simp [results, Try.results32, go_sem, r0, r1, r2, r3, r4, r5]) rfl ⟨by rw [hN.out]; rfl, ?_⟩
  exact below_set6R hbw2 (Nat.le_refl _) _ _ _ _ _ _
end
end Go.Proofs.Ytelbjnanpmdnnaa
