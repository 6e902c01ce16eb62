/- Texts of mine in one: Ro. -/
import Derived.Test.YtelbjnanpmdnnaaQ45
import Derived.Test.YtelbjnanpmdnnaaQ43
namespace Go.Proofs.Ytelbjnanpmdnnaa
section
open Go.RowKit
set_option linter.unusedVariables false
set_option linter.unusedSimpArgs false
set_option maxRecDepth 100000 in
set_option maxHeartbeats 4000000 in
theorem rnx_sign0 {b off n cap : Nat} {l : List Int} {w : World} (i : Int) (k : Nat) (h : Src w (some ⟨b, off, none⟩) n cap l) (hi : i = (k : Int)) (hk : k ≤ n) (j : Nat) (hj : behindF l k = j) (hjn : j < n) (hsp : spB l j = false) (hnu : numAt l j = false) (hna : nameAt l j = false) (hch0 : chA l j = 40) :
    Calls Try.prog 32 #[.slice (some ⟨b, off, none⟩) n cap, .int .i64 i] w (Told (tkV (nextF l k)) w) := by
  subst hi
  have hlen := h.len
  have hsm := h.small
  obtain ⟨hcap1, hcap2⟩ := h.cap
  have hkn : ¬ (n : Int) < (k : Int) := by omega
  have h34 : isB l j 34 = false := decide_eq_false (by rw [hch0]; decide)
  have h39 : isB l j 39 = false := decide_eq_false (by rw [hch0]; decide)
  have h45 : isB l j 45 = false := decide_eq_false (by rw [hch0]; decide)
  have h60 : isB l j 60 = false := decide_eq_false (by rw [hch0]; decide)
  have h64 : isB l j 64 = false := decide_eq_false (by rw [hch0]; decide)
  have h35 : isB l j 35 = false := decide_eq_false (by rw [hch0]; decide)
  have Hquo : (isB l j 34 || isB l j 39) = false := by rw [h34, h39]; rfl
  have Hnum : numAt l j = false := hnu
  have Hcdc : cdcB l j = false := by unfold cdcB; rw [h45]; rfl
  have Hname : nameAt l j = false := hna
  have Hcdo : cdoB l j = false := by unfold cdoB; rw [h60]; rfl
  have Hat : atSgB l j = false := by unfold atSgB; rw [h64]; rfl
  have Hhash : hashB l j = false := by unfold hashB; rw [h35]; rfl
  have hN : Hid (nextF l k = ⟨21, j, j + 1, [], [], false⟩) := Lib.hid (by
    unfold nextF tokAt
    rw [hj]
    rw [if_neg (show ¬ (l.length ≤ j) from by rw [hlen]; omega), if_neg (show ¬ (spB l j = true) from by rw [hsp]; decide), if_neg (show ¬ ((isB l j 34 || isB l j 39) = true) from by rw [Hquo]; decide), if_neg (show ¬ (numAt l j = true) from by rw [Hnum]; decide), if_neg (show ¬ (cdcB l j = true) from by rw [Hcdc]; decide), if_neg (show ¬ (nameAt l j = true) from by rw [Hname]; decide), if_neg (show ¬ (cdoB l j = true) from by rw [Hcdo]; decide), if_neg (show ¬ (atSgB l j = true) from by rw [Hat]; decide), if_neg (show ¬ (hashB l j = true) from by rw [Hhash]; decide), if_neg (show ¬ (signKind (chA l j) = 9) from by rw [hch0]; decide)]
    rw [hch0]; rfl)
  have HP := Lib.hid h
  generalize nextF l k = T at *
  go_enter Try.func32, Try.ntmps32
  go_wp2_with fail
  generalize hW1 : w.alloc (.cells [.int .i64 0, .int .i64 0, .int .i64 0, .string ⟨#[]⟩, .string ⟨#[]⟩, .bool false].toArray 52) = w1 at *
  have hz1 : w1.heap.size = w.heap.size + 1 := by rw [← hW1]; simp
  have hb1 : Below w.heap.size w w1 := by rw [← hW1]; exact (Below.refl _ w).alloc (Nat.le_refl _) _
  have B1 : Blk w1 w.heap.size zeroTkR 52 := by rw [← hW1]; exact Blk.alloc _ _
  have hS := HP.out.later hb1
  clear hW1 h
  have fb := rbehind_any (k : Int) k hS rfl hk
  rw [hj] at fb
  obtain ⟨_, _, e0, hc⟩ := hS.cell j hjn
  cases e0
  have hch := chA_ch hS.pre j
  have hjn' : ¬ (n : Int) ≤ (j : Int) := by omega
  have fs := fun w => rspace_any (chA l j) w hch
  rw [show spaceB (chA l j) = false from hsp] at fs
  have q34 : (chA l j == 34) = false := h34
  have q39 : (chA l j == 39) = false := h39
  have fn := rnumAt_any (j : Int) j hS rfl (by omega)
  rw [hnu] at fn
  have fm := rnameAt_any (j : Int) j hS rfl (by omega)
  rw [hna] at fm
  have q45 : (chA l j == 45) = false := h45
  have q60 : (chA l j == 60) = false := h60
  have q64 : (chA l j == 64) = false := h64
  have q35 : (chA l j == 35) = false := h35
  have s0 : (wrap64 ((({ data := #[40, 41, 91, 93, 123, 125, 44, 58, 59] } : ByteArray)[0]'(by decide)).toNat : Int) == chA l j) = true := beq_iff_eq.2 (by rw [show wrap64 ((({ data := #[40, 41, 91, 93, 123, 125, 44, 58, 59] } : ByteArray)[0]'(by decide)).toNat : Int) = 40 from by decide +kernel, hch0])
  clear hsp hj h34 h39 hnu Hquo Hnum Hcdc h45 hna Hname h60 h64 h35 Hcdo Hat Hhash
  have hkk := hch0
  have r0 := B1.cell 0 _ rfl
  have r1 := B1.cell 1 _ rfl
  have r2 := B1.cell 2 _ rfl
  have r3 := B1.cell 3 _ rfl
  have r4 := B1.cell 4 _ rfl
  have r5 := B1.cell 5 _ rfl
  have zr0 := B1.frozen 0
  have zr1 := B1.frozen 1
  have zr2 := B1.frozen 2
  have zr3 := B1.frozen 3
  have zr4 := B1.frozen 4
  have zr5 := B1.frozen 5
  clear hkk hch0
  generalize chA l j = c at *
  go_wp2_with ((first | (go_at_call 47; with_reducible refine fb.mono ?_) | (go_at_call 48; with_reducible refine (fs _).mono ?_) | (go_at_call 51; with_reducible refine fn.mono ?_) | (go_at_call 54; with_reducible refine fm.mono ?_)); rintro e wq ⟨rfl, hwq⟩; replace hwq := hwq.symm; subst hwq)
  generalize hW2 : w1.alloc (.cells #[.int .i64 21, .int .i64 22, .int .i64 19, .int .i64 20, .int .i64 23, .int .i64 24, .int .i64 18, .int .i64 16, .int .i64 17] 3) = w2 at *
  have hbO : Below w.heap.size w w2 := by rw [← hW2]; exact hb1.alloc hb1.size _
  have BO : Blk w2 w.heap.size zeroTkR 52 := by rw [← hW2]; exact B1.alloc_old _
  have hld : w2.cell? ⟨w.heap.size + 1, 0, none⟩ = some (.int .i64 21) := by rw [← hW2, ← hz1]; simp only [World.cell?, heap_alloc_new]; rfl
  clear hW2 fs fb fn fm
  clear r0 r1 r2 r3 r4 r5 zr0 zr1 zr2 zr3 zr4 zr5 hS
  have r0 := BO.cell 0 _ rfl
  have r1 := BO.cell 1 _ rfl
  have r2 := BO.cell 2 _ rfl
  have r3 := BO.cell 3 _ rfl
  have r4 := BO.cell 4 _ rfl
  have r5 := BO.cell 5 _ rfl
  have zr0 := BO.frozen 0
  have zr1 := BO.frozen 1
  have zr2 := BO.frozen 2
  have zr3 := BO.frozen 3
  have zr4 := BO.frozen 4
  have zr5 := BO.frozen 5
  refine wp_loop_rounds 10 ?_
  rw [rounds_succ]
  go_wp2
  refine bodyPost_ret (v := .agg #[.int .i64 21, .int .i64 j, .int .i64 (j + 1 : Nat), .string ⟨#[]⟩, .string ⟨#[]⟩, .bool false]) (by simp [results, Try.results32, go_sem, r0, r1, r2, r3, r4, r5]) rfl ⟨by rw [hN.out]; rfl, ?_⟩
  exact below_set6R hbO (Nat.le_refl _) _ _ _ _ _ _
set_option maxRecDepth 100000 in
set_option maxHeartbeats 4000000 in
theorem rnx_sign1 {b off n cap : Nat} {l : List Int} {w : World} (i : Int) (k : Nat) (h : Src w (some ⟨b, off, none⟩) n cap l) (hi : i = (k : Int)) (hk : k ≤ n) (j : Nat) (hj : behindF l k = j) (hjn : j < n) (hsp : spB l j = false) (hnu : numAt l j = false) (hna : nameAt l j = false) (hch0 : chA l j = 41) :
    Calls Try.prog 32 #[.slice (some ⟨b, off, none⟩) n cap, .int .i64 i] w (Told (tkV (nextF l k)) w) := by
  subst hi
  have hlen := h.len
  have hsm := h.small
  obtain ⟨hcap1, hcap2⟩ := h.cap
  have hkn : ¬ (n : Int) < (k : Int) := by omega
  have h34 : isB l j 34 = false := decide_eq_false (by rw [hch0]; decide)
  have h39 : isB l j 39 = false := decide_eq_false (by rw [hch0]; decide)
  have h45 : isB l j 45 = false := decide_eq_false (by rw [hch0]; decide)
  have h60 : isB l j 60 = false := decide_eq_false (by rw [hch0]; decide)
  have h64 : isB l j 64 = false := decide_eq_false (by rw [hch0]; decide)
  have h35 : isB l j 35 = false := decide_eq_false (by rw [hch0]; decide)
  have Hquo : (isB l j 34 || isB l j 39) = false := by rw [h34, h39]; rfl
  have Hnum : numAt l j = false := hnu
  have Hcdc : cdcB l j = false := by unfold cdcB; rw [h45]; rfl
  have Hname : nameAt l j = false := hna
  have Hcdo : cdoB l j = false := by unfold cdoB; rw [h60]; rfl
  have Hat : atSgB l j = false := by unfold atSgB; rw [h64]; rfl
  have Hhash : hashB l j = false := by unfold hashB; rw [h35]; rfl
  have hN : Hid (nextF l k = ⟨22, j, j + 1, [], [], false⟩) := Lib.hid (by
    unfold nextF tokAt
    rw [hj]
    rw [if_neg (show ¬ (l.length ≤ j) from by rw [hlen]; omega), if_neg (show ¬ (spB l j = true) from by rw [hsp]; decide), if_neg (show ¬ ((isB l j 34 || isB l j 39) = true) from by rw [Hquo]; decide), if_neg (show ¬ (numAt l j = true) from by rw [Hnum]; decide), if_neg (show ¬ (cdcB l j = true) from by rw [Hcdc]; decide), if_neg (show ¬ (nameAt l j = true) from by rw [Hname]; decide), if_neg (show ¬ (cdoB l j = true) from by rw [Hcdo]; decide), if_neg (show ¬ (atSgB l j = true) from by rw [Hat]; decide), if_neg (show ¬ (hashB l j = true) from by rw [Hhash]; decide), if_neg (show ¬ (signKind (chA l j) = 9) from by rw [hch0]; decide)]
    rw [hch0]; rfl)
  have HP := Lib.hid h
  generalize nextF l k = T at *
  go_enter Try.func32, Try.ntmps32
  go_wp2_with fail
  generalize hW1 : w.alloc (.cells [.int .i64 0, .int .i64 0, .int .i64 0, .string ⟨#[]⟩, .string ⟨#[]⟩, .bool false].toArray 52) = w1 at *
  have hz1 : w1.heap.size = w.heap.size + 1 := by rw [← hW1]; simp
  have hb1 : Below w.heap.size w w1 := by rw [← hW1]; exact (Below.refl _ w).alloc (Nat.le_refl _) _
  have B1 : Blk w1 w.heap.size zeroTkR 52 := by rw [← hW1]; exact Blk.alloc _ _
  have hS := HP.out.later hb1
  clear hW1 h
  have fb := rbehind_any (k : Int) k hS rfl hk
  rw [hj] at fb
  obtain ⟨_, _, e0, hc⟩ := hS.cell j hjn
  cases e0
  have hch := chA_ch hS.pre j
  have hjn' : ¬ (n : Int) ≤ (j : Int) := by omega
  have fs := fun w => rspace_any (chA l j) w hch
  rw [show spaceB (chA l j) = false from hsp] at fs
  have q34 : (chA l j == 34) = false := h34
  have q39 : (chA l j == 39) = false := h39
  have fn := rnumAt_any (j : Int) j hS rfl (by omega)
  rw [hnu] at fn
  have fm := rnameAt_any (j : Int) j hS rfl (by omega)
  rw [hna] at fm
  have q45 : (chA l j == 45) = false := h45
  have q60 : (chA l j == 60) = false := h60
  have q64 : (chA l j == 64) = false := h64
  have q35 : (chA l j == 35) = false := h35
  have s0 : (wrap64 ((({ data := #[40, 41, 91, 93, 123, 125, 44, 58, 59] } : ByteArray)[0]'(by decide)).toNat : Int) == chA l j) = false := beq_eq_false_iff_ne.2 (by rw [show wrap64 ((({ data := #[40, 41, 91, 93, 123, 125, 44, 58, 59] } : ByteArray)[0]'(by decide)).toNat : Int) = 40 from by decide +kernel]; rw [hch0]; decide)
  have s1 : (wrap64 ((({ data := #[40, 41, 91, 93, 123, 125, 44, 58, 59] } : ByteArray)[1]'(by decide)).toNat : Int) == chA l j) = true := beq_iff_eq.2 (by rw [show wrap64 ((({ data := #[40, 41, 91, 93, 123, 125, 44, 58, 59] } : ByteArray)[1]'(by decide)).toNat : Int) = 41 from by decide +kernel, hch0])
  clear hsp hj h34 h39 hnu Hquo Hnum Hcdc h45 hna Hname h60 h64 h35 Hcdo Hat Hhash
  have hkk := hch0
  have r0 := B1.cell 0 _ rfl
  have r1 := B1.cell 1 _ rfl
  have r2 := B1.cell 2 _ rfl
  have r3 := B1.cell 3 _ rfl
  have r4 := B1.cell 4 _ rfl
  have r5 := B1.cell 5 _ rfl
  have zr0 := B1.frozen 0
  have zr1 := B1.frozen 1
  have zr2 := B1.frozen 2
  have zr3 := B1.frozen 3
  have zr4 := B1.frozen 4
  have zr5 := B1.frozen 5
  clear hkk hch0
  generalize chA l j = c at *
  go_wp2_with ((first | (go_at_call 47; with_reducible refine fb.mono ?_) | (go_at_call 48; with_reducible refine (fs _).mono ?_) | (go_at_call 51; with_reducible refine fn.mono ?_) | (go_at_call 54; with_reducible refine fm.mono ?_)); rintro e wq ⟨rfl, hwq⟩; replace hwq := hwq.symm; subst hwq)
  generalize hW2 : w1.alloc (.cells #[.int .i64 21, .int .i64 22, .int .i64 19, .int .i64 20, .int .i64 23, .int .i64 24, .int .i64 18, .int .i64 16, .int .i64 17] 3) = w2 at *
  have hbO : Below w.heap.size w w2 := by rw [← hW2]; exact hb1.alloc hb1.size _
  have BO : Blk w2 w.heap.size zeroTkR 52 := by rw [← hW2]; exact B1.alloc_old _
  have hld : w2.cell? ⟨w.heap.size + 1, 1, none⟩ = some (.int .i64 22) := by rw [← hW2, ← hz1]; simp only [World.cell?, heap_alloc_new]; rfl
  clear hW2 fs fb fn fm
  clear r0 r1 r2 r3 r4 r5 zr0 zr1 zr2 zr3 zr4 zr5 hS
  have r0 := BO.cell 0 _ rfl
  have r1 := BO.cell 1 _ rfl
  have r2 := BO.cell 2 _ rfl
  have r3 := BO.cell 3 _ rfl
  have r4 := BO.cell 4 _ rfl
  have r5 := BO.cell 5 _ rfl
  have zr0 := BO.frozen 0
  have zr1 := BO.frozen 1
  have zr2 := BO.frozen 2
  have zr3 := BO.frozen 3
  have zr4 := BO.frozen 4
  have zr5 := BO.frozen 5
  refine wp_loop_rounds 10 ?_
  rw [rounds_succ]
  go_wp2
  rw [rounds_succ]
  go_wp2
  refine bodyPost_ret (v := .agg #[.int .i64 22, .int .i64 j, .int .i64 (j + 1 : Nat), .string ⟨#[]⟩, .string ⟨#[]⟩, .bool false]) (by simp [results, Try.results32, go_sem, r0, r1, r2, r3, r4, r5]) rfl ⟨by rw [hN.out]; rfl, ?_⟩
  exact below_set6R hbO (Nat.le_refl _) _ _ _ _ _ _
set_option maxRecDepth 100000 in
set_option maxHeartbeats 4000000 in
theorem rnx_sign2 {b off n cap : Nat} {l : List Int} {w : World} (i : Int) (k : Nat) (h : Src w (some ⟨b, off, none⟩) n cap l) (hi : i = (k : Int)) (hk : k ≤ n) (j : Nat) (hj : behindF l k = j) (hjn : j < n) (hsp : spB l j = false) (hnu : numAt l j = false) (hna : nameAt l j = false) (hch0 : chA l j = 91) :
    Calls Try.prog 32 #[.slice (some ⟨b, off, none⟩) n cap, .int .i64 i] w (Told (tkV (nextF l k)) w) := by
  subst hi
  have hlen := h.len
  have hsm := h.small
  obtain ⟨hcap1, hcap2⟩ := h.cap
  have hkn : ¬ (n : Int) < (k : Int) := by omega
  have h34 : isB l j 34 = false := decide_eq_false (by rw [hch0]; decide)
  have h39 : isB l j 39 = false := decide_eq_false (by rw [hch0]; decide)
  have h45 : isB l j 45 = false := decide_eq_false (by rw [hch0]; decide)
  have h60 : isB l j 60 = false := decide_eq_false (by rw [hch0]; decide)
  have h64 : isB l j 64 = false := decide_eq_false (by rw [hch0]; decide)
  have h35 : isB l j 35 = false := decide_eq_false (by rw [hch0]; decide)
  have Hquo : (isB l j 34 || isB l j 39) = false := by rw [h34, h39]; rfl
  have Hnum : numAt l j = false := hnu
  have Hcdc : cdcB l j = false := by unfold cdcB; rw [h45]; rfl
  have Hname : nameAt l j = false := hna
  have Hcdo : cdoB l j = false := by unfold cdoB; rw [h60]; rfl
  have Hat : atSgB l j = false := by unfold atSgB; rw [h64]; rfl
  have Hhash : hashB l j = false := by unfold hashB; rw [h35]; rfl
  have hN : Hid (nextF l k = ⟨19, j, j + 1, [], [], false⟩) := Lib.hid (by
    unfold nextF tokAt
    rw [hj]
    rw [if_neg (show ¬ (l.length ≤ j) from by rw [hlen]; omega), if_neg (show ¬ (spB l j = true) from by rw [hsp]; decide), if_neg (show ¬ ((isB l j 34 || isB l j 39) = true) from by rw [Hquo]; decide), if_neg (show ¬ (numAt l j = true) from by rw [Hnum]; decide), if_neg (show ¬ (cdcB l j = true) from by rw [Hcdc]; decide), if_neg (show ¬ (nameAt l j = true) from by rw [Hname]; decide), if_neg (show ¬ (cdoB l j = true) from by rw [Hcdo]; decide), if_neg (show ¬ (atSgB l j = true) from by rw [Hat]; decide), if_neg (show ¬ (hashB l j = true) from by rw [Hhash]; decide), if_neg (show ¬ (signKind (chA l j) = 9) from by rw [hch0]; decide)]
    rw [hch0]; rfl)
  have HP := Lib.hid h
  generalize nextF l k = T at *
  go_enter Try.func32, Try.ntmps32
  go_wp2_with fail
  generalize hW1 : w.alloc (.cells [.int .i64 0, .int .i64 0, .int .i64 0, .string ⟨#[]⟩, .string ⟨#[]⟩, .bool false].toArray 52) = w1 at *
  have hz1 : w1.heap.size = w.heap.size + 1 := by rw [← hW1]; simp
  have hb1 : Below w.heap.size w w1 := by rw [← hW1]; exact (Below.refl _ w).alloc (Nat.le_refl _) _
  have B1 : Blk w1 w.heap.size zeroTkR 52 := by rw [← hW1]; exact Blk.alloc _ _
  have hS := HP.out.later hb1
  clear hW1 h
  have fb := rbehind_any (k : Int) k hS rfl hk
  rw [hj] at fb
  obtain ⟨_, _, e0, hc⟩ := hS.cell j hjn
  cases e0
  have hch := chA_ch hS.pre j
  have hjn' : ¬ (n : Int) ≤ (j : Int) := by omega
  have fs := fun w => rspace_any (chA l j) w hch
  rw [show spaceB (chA l j) = false from hsp] at fs
  have q34 : (chA l j == 34) = false := h34
  have q39 : (chA l j == 39) = false := h39
  have fn := rnumAt_any (j : Int) j hS rfl (by omega)
  rw [hnu] at fn
  have fm := rnameAt_any (j : Int) j hS rfl (by omega)
  rw [hna] at fm
  have q45 : (chA l j == 45) = false := h45
  have q60 : (chA l j == 60) = false := h60
  have q64 : (chA l j == 64) = false := h64
  have q35 : (chA l j == 35) = false := h35
  have s0 : (wrap64 ((({ data := #[40, 41, 91, 93, 123, 125, 44, 58, 59] } : ByteArray)[0]'(by decide)).toNat : Int) == chA l j) = false := beq_eq_false_iff_ne.2 (by rw [show wrap64 ((({ data := #[40, 41, 91, 93, 123, 125, 44, 58, 59] } : ByteArray)[0]'(by decide)).toNat : Int) = 40 from by decide +kernel]; rw [hch0]; decide)
  have s1 : (wrap64 ((({ data := #[40, 41, 91, 93, 123, 125, 44, 58, 59] } : ByteArray)[1]'(by decide)).toNat : Int) == chA l j) = false := beq_eq_false_iff_ne.2 (by rw [show wrap64 ((({ data := #[40, 41, 91, 93, 123, 125, 44, 58, 59] } : ByteArray)[1]'(by decide)).toNat : Int) = 41 from by decide +kernel]; rw [hch0]; decide)
  have s2 : (wrap64 ((({ data := #[40, 41, 91, 93, 123, 125, 44, 58, 59] } : ByteArray)[2]'(by decide)).toNat : Int) == chA l j) = true := beq_iff_eq.2 (by rw [show wrap64 ((({ data := #[40, 41, 91, 93, 123, 125, 44, 58, 59] } : ByteArray)[2]'(by decide)).toNat : Int) = 91 from by decide +kernel, hch0])
  clear hsp hj h34 h39 hnu Hquo Hnum Hcdc h45 hna Hname h60 h64 h35 Hcdo Hat Hhash
  have hkk := hch0
  have r0 := B1.cell 0 _ rfl
  have r1 := B1.cell 1 _ rfl
  have r2 := B1.cell 2 _ rfl
  have r3 := B1.cell 3 _ rfl
  have r4 := B1.cell 4 _ rfl
  have r5 := B1.cell 5 _ rfl
  have zr0 := B1.frozen 0
  have zr1 := B1.frozen 1
  have zr2 := B1.frozen 2
  have zr3 := B1.frozen 3
  have zr4 := B1.frozen 4
  have zr5 := B1.frozen 5
  clear hkk hch0
  generalize chA l j = c at *
  go_wp2_with ((first | (go_at_call 47; with_reducible refine fb.mono ?_) | (go_at_call 48; with_reducible refine (fs _).mono ?_) | (go_at_call 51; with_reducible refine fn.mono ?_) | (go_at_call 54; with_reducible refine fm.mono ?_)); rintro e wq ⟨rfl, hwq⟩; replace hwq := hwq.symm; subst hwq)
  generalize hW2 : w1.alloc (.cells #[.int .i64 21, .int .i64 22, .int .i64 19, .int .i64 20, .int .i64 23, .int .i64 24, .int .i64 18, .int .i64 16, .int .i64 17] 3) = w2 at *
  have hbO : Below w.heap.size w w2 := by rw [← hW2]; exact hb1.alloc hb1.size _
  have BO : Blk w2 w.heap.size zeroTkR 52 := by rw [← hW2]; exact B1.alloc_old _
  have hld : w2.cell? ⟨w.heap.size + 1, 2, none⟩ = some (.int .i64 19) := by rw [← hW2, ← hz1]; simp only [World.cell?, heap_alloc_new]; rfl
  clear hW2 fs fb fn fm
  clear r0 r1 r2 r3 r4 r5 zr0 zr1 zr2 zr3 zr4 zr5 hS
  have r0 := BO.cell 0 _ rfl
  have r1 := BO.cell 1 _ rfl
  have r2 := BO.cell 2 _ rfl
  have r3 := BO.cell 3 _ rfl
  have r4 := BO.cell 4 _ rfl
  have r5 := BO.cell 5 _ rfl
  have zr0 := BO.frozen 0
  have zr1 := BO.frozen 1
  have zr2 := BO.frozen 2
  have zr3 := BO.frozen 3
  have zr4 := BO.frozen 4
  have zr5 := BO.frozen 5
  refine wp_loop_rounds 10 ?_
  rw [rounds_succ]
  go_wp2
  rw [rounds_succ]
  go_wp2
  rw [rounds_succ]
  go_wp2
  refine bodyPost_ret (v := .agg #[.int .i64 19, .int .i64 j, .int .i64 (j + 1 : Nat), .string ⟨#[]⟩, .string ⟨#[]⟩, .bool false]) (by simp [results, Try.results32, go_sem, r0, r1, r2, r3, r4, r5]) rfl ⟨by rw [hN.out]; rfl, ?_⟩
  exact below_set6R hbO (Nat.le_refl _) _ _ _ _ _ _
set_option maxRecDepth 100000 in
set_option maxHeartbeats 4000000 in
theorem rnx_sign3 {b off n cap : Nat} {l : List Int} {w : World} (i : Int) (k : Nat) (h : Src w (some ⟨b, off, none⟩) n cap l) (hi : i = (k : Int)) (hk : k ≤ n) (j : Nat) (hj : behindF l k = j) (hjn : j < n) (hsp : spB l j = false) (hnu : numAt l j = false) (hna : nameAt l j = false) (hch0 : chA l j = 93) :
    Calls Try.prog 32 #[.slice (some ⟨b, off, none⟩) n cap, .int .i64 i] w (Told (tkV (nextF l k)) w) := by
  subst hi
  have hlen := h.len
  have hsm := h.small
  obtain ⟨hcap1, hcap2⟩ := h.cap
  have hkn : ¬ (n : Int) < (k : Int) := by omega
  have h34 : isB l j 34 = false := decide_eq_false (by rw [hch0]; decide)
  have h39 : isB l j 39 = false := decide_eq_false (by rw [hch0]; decide)
  have h45 : isB l j 45 = false := decide_eq_false (by rw [hch0]; decide)
  have h60 : isB l j 60 = false := decide_eq_false (by rw [hch0]; decide)
  have h64 : isB l j 64 = false := decide_eq_false (by rw [hch0]; decide)
  have h35 : isB l j 35 = false := decide_eq_false (by rw [hch0]; decide)
  have Hquo : (isB l j 34 || isB l j 39) = false := by rw [h34, h39]; rfl
  have Hnum : numAt l j = false := hnu
  have Hcdc : cdcB l j = false := by unfold cdcB; rw [h45]; rfl
  have Hname : nameAt l j = false := hna
  have Hcdo : cdoB l j = false := by unfold cdoB; rw [h60]; rfl
  have Hat : atSgB l j = false := by unfold atSgB; rw [h64]; rfl
  have Hhash : hashB l j = false := by unfold hashB; rw [h35]; rfl
  have hN : Hid (nextF l k = ⟨20, j, j + 1, [], [], false⟩) := Lib.hid (by
    unfold nextF tokAt
    rw [hj]
    rw [if_neg (show ¬ (l.length ≤ j) from by rw [hlen]; omega), if_neg (show ¬ (spB l j = true) from by rw [hsp]; decide), if_neg (show ¬ ((isB l j 34 || isB l j 39) = true) from by rw [Hquo]; decide), if_neg (show ¬ (numAt l j = true) from by rw [Hnum]; decide), if_neg (show ¬ (cdcB l j = true) from by rw [Hcdc]; decide), if_neg (show ¬ (nameAt l j = true) from by rw [Hname]; decide), if_neg (show ¬ (cdoB l j = true) from by rw [Hcdo]; decide), if_neg (show ¬ (atSgB l j = true) from by rw [Hat]; decide), if_neg (show ¬ (hashB l j = true) from by rw [Hhash]; decide), if_neg (show ¬ (signKind (chA l j) = 9) from by rw [hch0]; decide)]
    rw [hch0]; rfl)
  have HP := Lib.hid h
  generalize nextF l k = T at *
  go_enter Try.func32, Try.ntmps32
  go_wp2_with fail
  generalize hW1 : w.alloc (.cells [.int .i64 0, .int .i64 0, .int .i64 0, .string ⟨#[]⟩, .string ⟨#[]⟩, .bool false].toArray 52) = w1 at *
  have hz1 : w1.heap.size = w.heap.size + 1 := by rw [← hW1]; simp
  have hb1 : Below w.heap.size w w1 := by rw [← hW1]; exact (Below.refl _ w).alloc (Nat.le_refl _) _
  have B1 : Blk w1 w.heap.size zeroTkR 52 := by rw [← hW1]; exact Blk.alloc _ _
  have hS := HP.out.later hb1
  clear hW1 h
  have fb := rbehind_any (k : Int) k hS rfl hk
  rw [hj] at fb
  obtain ⟨_, _, e0, hc⟩ := hS.cell j hjn
  cases e0
  have hch := chA_ch hS.pre j
  have hjn' : ¬ (n : Int) ≤ (j : Int) := by omega
  have fs := fun w => rspace_any (chA l j) w hch
  rw [show spaceB (chA l j) = false from hsp] at fs
  have q34 : (chA l j == 34) = false := h34
  have q39 : (chA l j == 39) = false := h39
  have fn := rnumAt_any (j : Int) j hS rfl (by omega)
  rw [hnu] at fn
  have fm := rnameAt_any (j : Int) j hS rfl (by omega)
  rw [hna] at fm
  have q45 : (chA l j == 45) = false := h45
  have q60 : (chA l j == 60) = false := h60
  have q64 : (chA l j == 64) = false := h64
  have q35 : (chA l j == 35) = false := h35
  have s0 : (wrap64 ((({ data := #[40, 41, 91, 93, 123, 125, 44, 58, 59] } : ByteArray)[0]'(by decide)).toNat : Int) == chA l j) = false := beq_eq_false_iff_ne.2 (by rw [show wrap64 ((({ data := #[40, 41, 91, 93, 123, 125, 44, 58, 59] } : ByteArray)[0]'(by decide)).toNat : Int) = 40 from by decide +kernel]; rw [hch0]; decide)
  have s1 : (wrap64 ((({ data := #[40, 41, 91, 93, 123, 125, 44, 58, 59] } : ByteArray)[1]'(by decide)).toNat : Int) == chA l j) = false := beq_eq_false_iff_ne.2 (by rw [show wrap64 ((({ data := #[40, 41, 91, 93, 123, 125, 44, 58, 59] } : ByteArray)[1]'(by decide)).toNat : Int) = 41 from by decide +kernel]; rw [hch0]; decide)
  have s2 : (wrap64 ((({ data := #[40, 41, 91, 93, 123, 125, 44, 58, 59] } : ByteArray)[2]'(by decide)).toNat : Int) == chA l j) = false := beq_eq_false_iff_ne.2 (by rw [show wrap64 ((({ data := #[40, 41, 91, 93, 123, 125, 44, 58, 59] } : ByteArray)[2]'(by decide)).toNat : Int) = 91 from by decide +kernel]; rw [hch0]; decide)
  have s3 : (wrap64 ((({ data := #[40, 41, 91, 93, 123, 125, 44, 58, 59] } : ByteArray)[3]'(by decide)).toNat : Int) == chA l j) = true := beq_iff_eq.2 (by rw [show wrap64 ((({ data := #[40, 41, 91, 93, 123, 125, 44, 58, 59] } : ByteArray)[3]'(by decide)).toNat : Int) = 93 from by decide +kernel, hch0])
  clear hsp hj h34 h39 hnu Hquo Hnum Hcdc h45 hna Hname h60 h64 h35 Hcdo Hat Hhash
  have hkk := hch0
  have r0 := B1.cell 0 _ rfl
  have r1 := B1.cell 1 _ rfl
  have r2 := B1.cell 2 _ rfl
  have r3 := B1.cell 3 _ rfl
  have r4 := B1.cell 4 _ rfl
  have r5 := B1.cell 5 _ rfl
  have zr0 := B1.frozen 0
  have zr1 := B1.frozen 1
  have zr2 := B1.frozen 2
  have zr3 := B1.frozen 3
  have zr4 := B1.frozen 4
  have zr5 := B1.frozen 5
  clear hkk hch0
  generalize chA l j = c at *
  go_wp2_with ((first | (go_at_call 47; with_reducible refine fb.mono ?_) | (go_at_call 48; with_reducible refine (fs _).mono ?_) | (go_at_call 51; with_reducible refine fn.mono ?_) | (go_at_call 54; with_reducible refine fm.mono ?_)); rintro e wq ⟨rfl, hwq⟩; replace hwq := hwq.symm; subst hwq)
  generalize hW2 : w1.alloc (.cells #[.int .i64 21, .int .i64 22, .int .i64 19, .int .i64 20, .int .i64 23, .int .i64 24, .int .i64 18, .int .i64 16, .int .i64 17] 3) = w2 at *
  have hbO : Below w.heap.size w w2 := by rw [← hW2]; exact hb1.alloc hb1.size _
  have BO : Blk w2 w.heap.size zeroTkR 52 := by rw [← hW2]; exact B1.alloc_old _
  have hld : w2.cell? ⟨w.heap.size + 1, 3, none⟩ = some (.int .i64 20) := by rw [← hW2, ← hz1]; simp only [World.cell?, heap_alloc_new]; rfl
  clear hW2 fs fb fn fm
  clear r0 r1 r2 r3 r4 r5 zr0 zr1 zr2 zr3 zr4 zr5 hS
  have r0 := BO.cell 0 _ rfl
  have r1 := BO.cell 1 _ rfl
  have r2 := BO.cell 2 _ rfl
  have r3 := BO.cell 3 _ rfl
  have r4 := BO.cell 4 _ rfl
  have r5 := BO.cell 5 _ rfl
  have zr0 := BO.frozen 0
  have zr1 := BO.frozen 1
  have zr2 := BO.frozen 2
  have zr3 := BO.frozen 3
  have zr4 := BO.frozen 4
  have zr5 := BO.frozen 5
  refine wp_loop_rounds 10 ?_
  rw [rounds_succ]
  go_wp2
  rw [rounds_succ]
  go_wp2
  rw [rounds_succ]
  go_wp2
  rw [rounds_succ]
  go_wp2
  refine bodyPost_ret (v := .agg #[.int .i64 20, .int .i64 j, .int .i64 (j + 1 : Nat), .string ⟨#[]⟩, .string ⟨#[]⟩, .bool false]) (by simp [results, Try.results32, go_sem, r0, r1, r2, r3, r4, r5]) rfl ⟨by rw [hN.out]; rfl, ?_⟩
  exact below_set6R hbO (Nat.le_refl _) _ _ _ _ _ _
set_option maxRecDepth 100000 in
set_option maxHeartbeats 4000000 in
theorem rnx_sign4 {b off n cap : Nat} {l : List Int} {w : World} (i : Int) (k : Nat) (h : Src w (some ⟨b, off, none⟩) n cap l) (hi : i = (k : Int)) (hk : k ≤ n) (j : Nat) (hj : behindF l k = j) (hjn : j < n) (hsp : spB l j = false) (hnu : numAt l j = false) (hna : nameAt l j = false) (hch0 : chA l j = 123) :
    Calls Try.prog 32 #[.slice (some ⟨b, off, none⟩) n cap, .int .i64 i] w (Told (tkV (nextF l k)) w) := by
  subst hi
  have hlen := h.len
  have hsm := h.small
  obtain ⟨hcap1, hcap2⟩ := h.cap
  have hkn : ¬ (n : Int) < (k : Int) := by omega
  have h34 : isB l j 34 = false := decide_eq_false (by rw [hch0]; decide)
  have h39 : isB l j 39 = false := decide_eq_false (by rw [hch0]; decide)
  have h45 : isB l j 45 = false := decide_eq_false (by rw [hch0]; decide)
  have h60 : isB l j 60 = false := decide_eq_false (by rw [hch0]; decide)
  have h64 : isB l j 64 = false := decide_eq_false (by rw [hch0]; decide)
  have h35 : isB l j 35 = false := decide_eq_false (by rw [hch0]; decide)
  have Hquo : (isB l j 34 || isB l j 39) = false := by rw [h34, h39]; rfl
  have Hnum : numAt l j = false := hnu
  have Hcdc : cdcB l j = false := by unfold cdcB; rw [h45]; rfl
  have Hname : nameAt l j = false := hna
  have Hcdo : cdoB l j = false := by unfold cdoB; rw [h60]; rfl
  have Hat : atSgB l j = false := by unfold atSgB; rw [h64]; rfl
  have Hhash : hashB l j = false := by unfold hashB; rw [h35]; rfl
  have hN : Hid (nextF l k = ⟨23, j, j + 1, [], [], false⟩) := Lib.hid (by
    unfold nextF tokAt
    rw [hj]
    rw [if_neg (show ¬ (l.length ≤ j) from by rw [hlen]; omega), if_neg (show ¬ (spB l j = true) from by rw [hsp]; decide), if_neg (show ¬ ((isB l j 34 || isB l j 39) = true) from by rw [Hquo]; decide), if_neg (show ¬ (numAt l j = true) from by rw [Hnum]; decide), if_neg (show ¬ (cdcB l j = true) from by rw [Hcdc]; decide), if_neg (show ¬ (nameAt l j = true) from by rw [Hname]; decide), if_neg (show ¬ (cdoB l j = true) from by rw [Hcdo]; decide), if_neg (show ¬ (atSgB l j = true) from by rw [Hat]; decide), if_neg (show ¬ (hashB l j = true) from by rw [Hhash]; decide), if_neg (show ¬ (signKind (chA l j) = 9) from by rw [hch0]; decide)]
    rw [hch0]; rfl)
  have HP := Lib.hid h
  generalize nextF l k = T at *
  go_enter Try.func32, Try.ntmps32
  go_wp2_with fail
  generalize hW1 : w.alloc (.cells [.int .i64 0, .int .i64 0, .int .i64 0, .string ⟨#[]⟩, .string ⟨#[]⟩, .bool false].toArray 52) = w1 at *
  have hz1 : w1.heap.size = w.heap.size + 1 := by rw [← hW1]; simp
  have hb1 : Below w.heap.size w w1 := by rw [← hW1]; exact (Below.refl _ w).alloc (Nat.le_refl _) _
  have B1 : Blk w1 w.heap.size zeroTkR 52 := by rw [← hW1]; exact Blk.alloc _ _
  have hS := HP.out.later hb1
  clear hW1 h
  have fb := rbehind_any (k : Int) k hS rfl hk
  rw [hj] at fb
  obtain ⟨_, _, e0, hc⟩ := hS.cell j hjn
  cases e0
  have hch := chA_ch hS.pre j
  have hjn' : ¬ (n : Int) ≤ (j : Int) := by omega
  have fs := fun w => rspace_any (chA l j) w hch
  rw [show spaceB (chA l j) = false from hsp] at fs
  have q34 : (chA l j == 34) = false := h34
  have q39 : (chA l j == 39) = false := h39
  have fn := rnumAt_any (j : Int) j hS rfl (by omega)
  rw [hnu] at fn
  have fm := rnameAt_any (j : Int) j hS rfl (by omega)
  rw [hna] at fm
  have q45 : (chA l j == 45) = false := h45
  have q60 : (chA l j == 60) = false := h60
  have q64 : (chA l j == 64) = false := h64
  have q35 : (chA l j == 35) = false := h35
  have s0 : (wrap64 ((({ data := #[40, 41, 91, 93, 123, 125, 44, 58, 59] } : ByteArray)[0]'(by decide)).toNat : Int) == chA l j) = false := beq_eq_false_iff_ne.2 (by rw [show wrap64 ((({ data := #[40, 41, 91, 93, 123, 125, 44, 58, 59] } : ByteArray)[0]'(by decide)).toNat : Int) = 40 from by decide +kernel]; rw [hch0]; decide)
  have s1 : (wrap64 ((({ data := #[40, 41, 91, 93, 123, 125, 44, 58, 59] } : ByteArray)[1]'(by decide)).toNat : Int) == chA l j) = false := beq_eq_false_iff_ne.2 (by rw [show wrap64 ((({ data := #[40, 41, 91, 93, 123, 125, 44, 58, 59] } : ByteArray)[1]'(by decide)).toNat : Int) = 41 from by decide +kernel]; rw [hch0]; decide)
  have s2 : (wrap64 ((({ data := #[40, 41, 91, 93, 123, 125, 44, 58, 59] } : ByteArray)[2]'(by decide)).toNat : Int) == chA l j) = false := beq_eq_false_iff_ne.2 (by rw [show wrap64 ((({ data := #[40, 41, 91, 93, 123, 125, 44, 58, 59] } : ByteArray)[2]'(by decide)).toNat : Int) = 91 from by decide +kernel]; rw [hch0]; decide)
  have s3 : (wrap64 ((({ data := #[40, 41, 91, 93, 123, 125, 44, 58, 59] } : ByteArray)[3]'(by decide)).toNat : Int) == chA l j) = false := beq_eq_false_iff_ne.2 (by rw [show wrap64 ((({ data := #[40, 41, 91, 93, 123, 125, 44, 58, 59] } : ByteArray)[3]'(by decide)).toNat : Int) = 93 from by decide +kernel]; rw [hch0]; decide)
  have s4 : (wrap64 ((({ data := #[40, 41, 91, 93, 123, 125, 44, 58, 59] } : ByteArray)[4]'(by decide)).toNat : Int) == chA l j) = true := beq_iff_eq.2 (by rw [show wrap64 ((({ data := #[40, 41, 91, 93, 123, 125, 44, 58, 59] } : ByteArray)[4]'(by decide)).toNat : Int) = 123 from by decide +kernel, hch0])
  clear hsp hj h34 h39 hnu Hquo Hnum Hcdc h45 hna Hname h60 h64 h35 Hcdo Hat Hhash
  have hkk := hch0
  have r0 := B1.cell 0 _ rfl
  have r1 := B1.cell 1 _ rfl
  have r2 := B1.cell 2 _ rfl
  have r3 := B1.cell 3 _ rfl
  have r4 := B1.cell 4 _ rfl
  have r5 := B1.cell 5 _ rfl
  have zr0 := B1.frozen 0
  have zr1 := B1.frozen 1
  have zr2 := B1.frozen 2
  have zr3 := B1.frozen 3
  have zr4 := B1.frozen 4
  have zr5 := B1.frozen 5
  clear hkk hch0
  generalize chA l j = c at *
  go_wp2_with ((first | (go_at_call 47; with_reducible refine fb.mono ?_) | (go_at_call 48; with_reducible refine (fs _).mono ?_) | (go_at_call 51; with_reducible refine fn.mono ?_) | (go_at_call 54; with_reducible refine fm.mono ?_)); rintro e wq ⟨rfl, hwq⟩; replace hwq := hwq.symm; subst hwq)
  generalize hW2 : w1.alloc (.cells #[.int .i64 21, .int .i64 22, .int .i64 19, .int .i64 20, .int .i64 23, .int .i64 24, .int .i64 18, .int .i64 16, .int .i64 17] 3) = w2 at *
  have hbO : Below w.heap.size w w2 := by rw [← hW2]; exact hb1.alloc hb1.size _
  have BO : Blk w2 w.heap.size zeroTkR 52 := by rw [← hW2]; exact B1.alloc_old _
  have hld : w2.cell? ⟨w.heap.size + 1, 4, none⟩ = some (.int .i64 23) := by rw [← hW2, ← hz1]; simp only [World.cell?, heap_alloc_new]; rfl
  clear hW2 fs fb fn fm
  clear r0 r1 r2 r3 r4 r5 zr0 zr1 zr2 zr3 zr4 zr5 hS
  have r0 := BO.cell 0 _ rfl
  have r1 := BO.cell 1 _ rfl
  have r2 := BO.cell 2 _ rfl
  have r3 := BO.cell 3 _ rfl
  have r4 := BO.cell 4 _ rfl
  have r5 := BO.cell 5 _ rfl
  have zr0 := BO.frozen 0
  have zr1 := BO.frozen 1
  have zr2 := BO.frozen 2
  have zr3 := BO.frozen 3
  have zr4 := BO.frozen 4
  have zr5 := BO.frozen 5
  refine wp_loop_rounds 10 ?_
  rw [rounds_succ]
  go_wp2
  rw [rounds_succ]
  go_wp2
  rw [rounds_succ]
  go_wp2
  rw [rounds_succ]
  go_wp2
  rw [rounds_succ]
  go_wp2
  refine bodyPost_ret (v := .agg #[.int .i64 23, .int .i64 j, .int .i64 (j + 1 : Nat), .string ⟨#[]⟩, .string ⟨#[]⟩, .bool false]) (by simp [results, Try.results32, go_sem, r0, r1, r2, r3, r4, r5]) rfl ⟨by rw [hN.out]; rfl, ?_⟩
  exact below_set6R hbO (Nat.le_refl _) _ _ _ _ _ _
set_option maxRecDepth 100000 in
set_option maxHeartbeats 4000000 in
theorem rnx_sign5 {b off n cap : Nat} {l : List Int} {w : World} (i : Int) (k : Nat) (h : Src w (some ⟨b, off, none⟩) n cap l) (hi : i = (k : Int)) (hk : k ≤ n) (j : Nat) (hj : behindF l k = j) (hjn : j < n) (hsp : spB l j = false) (hnu : numAt l j = false) (hna : nameAt l j = false) (hch0 : chA l j = 125) :
    Calls Try.prog 32 #[.slice (some ⟨b, off, none⟩) n cap, .int .i64 i] w (Told (tkV (nextF l k)) w) := by
  subst hi
  have hlen := h.len
  have hsm := h.small
  obtain ⟨hcap1, hcap2⟩ := h.cap
  have hkn : ¬ (n : Int) < (k : Int) := by omega
  have h34 : isB l j 34 = false := decide_eq_false (by rw [hch0]; decide)
  have h39 : isB l j 39 = false := decide_eq_false (by rw [hch0]; decide)
  have h45 : isB l j 45 = false := decide_eq_false (by rw [hch0]; decide)
  have h60 : isB l j 60 = false := decide_eq_false (by rw [hch0]; decide)
  have h64 : isB l j 64 = false := decide_eq_false (by rw [hch0]; decide)
  have h35 : isB l j 35 = false := decide_eq_false (by rw [hch0]; decide)
  have Hquo : (isB l j 34 || isB l j 39) = false := by rw [h34, h39]; rfl
  have Hnum : numAt l j = false := hnu
  have Hcdc : cdcB l j = false := by unfold cdcB; rw [h45]; rfl
  have Hname : nameAt l j = false := hna
  have Hcdo : cdoB l j = false := by unfold cdoB; rw [h60]; rfl
  have Hat : atSgB l j = false := by unfold atSgB; rw [h64]; rfl
  have Hhash : hashB l j = false := by unfold hashB; rw [h35]; rfl
  have hN : Hid (nextF l k = ⟨24, j, j + 1, [], [], false⟩) := Lib.hid (by
    unfold nextF tokAt
    rw [hj]
    rw [if_neg (show ¬ (l.length ≤ j) from by rw [hlen]; omega), if_neg (show ¬ (spB l j = true) from by rw [hsp]; decide), if_neg (show ¬ ((isB l j 34 || isB l j 39) = true) from by rw [Hquo]; decide), if_neg (show ¬ (numAt l j = true) from by rw [Hnum]; decide), if_neg (show ¬ (cdcB l j = true) from by rw [Hcdc]; decide), if_neg (show ¬ (nameAt l j = true) from by rw [Hname]; decide), if_neg (show ¬ (cdoB l j = true) from by rw [Hcdo]; decide), if_neg (show ¬ (atSgB l j = true) from by rw [Hat]; decide), if_neg (show ¬ (hashB l j = true) from by rw [Hhash]; decide), if_neg (show ¬ (signKind (chA l j) = 9) from by rw [hch0]; decide)]
    rw [hch0]; rfl)
  have HP := Lib.hid h
  generalize nextF l k = T at *
  go_enter Try.func32, Try.ntmps32
  go_wp2_with fail
  generalize hW1 : w.alloc (.cells [.int .i64 0, .int .i64 0, .int .i64 0, .string ⟨#[]⟩, .string ⟨#[]⟩, .bool false].toArray 52) = w1 at *
  have hz1 : w1.heap.size = w.heap.size + 1 := by rw [← hW1]; simp
  have hb1 : Below w.heap.size w w1 := by rw [← hW1]; exact (Below.refl _ w).alloc (Nat.le_refl _) _
  have B1 : Blk w1 w.heap.size zeroTkR 52 := by rw [← hW1]; exact Blk.alloc _ _
  have hS := HP.out.later hb1
  clear hW1 h
  have fb := rbehind_any (k : Int) k hS rfl hk
  rw [hj] at fb
  obtain ⟨_, _, e0, hc⟩ := hS.cell j hjn
  cases e0
  have hch := chA_ch hS.pre j
  have hjn' : ¬ (n : Int) ≤ (j : Int) := by omega
  have fs := fun w => rspace_any (chA l j) w hch
  rw [show spaceB (chA l j) = false from hsp] at fs
  have q34 : (chA l j == 34) = false := h34
  have q39 : (chA l j == 39) = false := h39
  have fn := rnumAt_any (j : Int) j hS rfl (by omega)
  rw [hnu] at fn
  have fm := rnameAt_any (j : Int) j hS rfl (by omega)
  rw [hna] at fm
  have q45 : (chA l j == 45) = false := h45
  have q60 : (chA l j == 60) = false := h60
  have q64 : (chA l j == 64) = false := h64
  have q35 : (chA l j == 35) = false := h35
  have s0 : (wrap64 ((({ data := #[40, 41, 91, 93, 123, 125, 44, 58, 59] } : ByteArray)[0]'(by decide)).toNat : Int) == chA l j) = false := beq_eq_false_iff_ne.2 (by rw [show wrap64 ((({ data := #[40, 41, 91, 93, 123, 125, 44, 58, 59] } : ByteArray)[0]'(by decide)).toNat : Int) = 40 from by decide +kernel]; rw [hch0]; decide)
  have s1 : (wrap64 ((({ data := #[40, 41, 91, 93, 123, 125, 44, 58, 59] } : ByteArray)[1]'(by decide)).toNat : Int) == chA l j) = false := beq_eq_false_iff_ne.2 (by rw [show wrap64 ((({ data := #[40, 41, 91, 93, 123, 125, 44, 58, 59] } : ByteArray)[1]'(by decide)).toNat : Int) = 41 from by decide +kernel]; rw [hch0]; decide)
  have s2 : (wrap64 ((({ data := #[40, 41, 91, 93, 123, 125, 44, 58, 59] } : ByteArray)[2]'(by decide)).toNat : Int) == chA l j) = false := beq_eq_false_iff_ne.2 (by rw [show wrap64 ((({ data := #[40, 41, 91, 93, 123, 125, 44, 58, 59] } : ByteArray)[2]'(by decide)).toNat : Int) = 91 from by decide +kernel]; rw [hch0]; decide)
  have s3 : (wrap64 ((({ data := #[40, 41, 91, 93, 123, 125, 44, 58, 59] } : ByteArray)[3]'(by decide)).toNat : Int) == chA l j) = false := beq_eq_false_iff_ne.2 (by rw [show wrap64 ((({ data := #[40, 41, 91, 93, 123, 125, 44, 58, 59] } : ByteArray)[3]'(by decide)).toNat : Int) = 93 from by decide +kernel]; rw [hch0]; decide)
  have s4 : (wrap64 ((({ data := #[40, 41, 91, 93, 123, 125, 44, 58, 59] } : ByteArray)[4]'(by decide)).toNat : Int) == chA l j) = false := beq_eq_false_iff_ne.2 (by rw [show wrap64 ((({ data := #[40, 41, 91, 93, 123, 125, 44, 58, 59] } : ByteArray)[4]'(by decide)).toNat : Int) = 123 from by decide +kernel]; rw [hch0]; decide)
  have s5 : (wrap64 ((({ data := #[40, 41, 91, 93, 123, 125, 44, 58, 59] } : ByteArray)[5]'(by decide)).toNat : Int) == chA l j) = true := beq_iff_eq.2 (by rw [show wrap64 ((({ data := #[40, 41, 91, 93, 123, 125, 44, 58, 59] } : ByteArray)[5]'(by decide)).toNat : Int) = 125 from by decide +kernel, hch0])
  clear hsp hj h34 h39 hnu Hquo Hnum Hcdc h45 hna Hname h60 h64 h35 Hcdo Hat Hhash
  have hkk := hch0
  have r0 := B1.cell 0 _ rfl
  have r1 := B1.cell 1 _ rfl
  have r2 := B1.cell 2 _ rfl
  have r3 := B1.cell 3 _ rfl
  have r4 := B1.cell 4 _ rfl
  have r5 := B1.cell 5 _ rfl
  have zr0 := B1.frozen 0
  have zr1 := B1.frozen 1
  have zr2 := B1.frozen 2
  have zr3 := B1.frozen 3
  have zr4 := B1.frozen 4
  have zr5 := B1.frozen 5
  clear hkk hch0
  generalize chA l j = c at *
  go_wp2_with ((first | (go_at_call 47; with_reducible refine fb.mono ?_) | (go_at_call 48; with_reducible refine (fs _).mono ?_) | (go_at_call 51; with_reducible refine fn.mono ?_) | (go_at_call 54; with_reducible refine fm.mono ?_)); rintro e wq ⟨rfl, hwq⟩; replace hwq := hwq.symm; subst hwq)
  generalize hW2 : w1.alloc (.cells #[.int .i64 21, .int .i64 22, .int .i64 19, .int .i64 20, .int .i64 23, .int .i64 24, .int .i64 18, .int .i64 16, .int .i64 17] 3) = w2 at *
  have hbO : Below w.heap.size w w2 := by rw [← hW2]; exact hb1.alloc hb1.size _
  have BO : Blk w2 w.heap.size zeroTkR 52 := by rw [← hW2]; exact B1.alloc_old _
  have hld : w2.cell? ⟨w.heap.size + 1, 5, none⟩ = some (.int .i64 24) := by rw [← hW2, ← hz1]; simp only [World.cell?, heap_alloc_new]; rfl
  clear hW2 fs fb fn fm
  clear r0 r1 r2 r3 r4 r5 zr0 zr1 zr2 zr3 zr4 zr5 hS
  have r0 := BO.cell 0 _ rfl
  have r1 := BO.cell 1 _ rfl
  have r2 := BO.cell 2 _ rfl
  have r3 := BO.cell 3 _ rfl
  have r4 := BO.cell 4 _ rfl
  have r5 := BO.cell 5 _ rfl
  have zr0 := BO.frozen 0
  have zr1 := BO.frozen 1
  have zr2 := BO.frozen 2
  have zr3 := BO.frozen 3
  have zr4 := BO.frozen 4
  have zr5 := BO.frozen 5
  refine wp_loop_rounds 10 ?_
  rw [rounds_succ]
  go_wp2
  rw [rounds_succ]
  go_wp2
  rw [rounds_succ]
  go_wp2
  rw [rounds_succ]
  go_wp2
  rw [rounds_succ]
  go_wp2
  rw [rounds_succ]
  go_wp2
  refine bodyPost_ret (v := .agg #[.int .i64 24, .int .i64 j, .int .i64 (j + 1 : Nat), .string ⟨#[]⟩, .string ⟨#[]⟩, .bool false]) (by simp [results, Try.results32, go_sem, r0, r1, r2, r3, r4, r5]) rfl ⟨by rw [hN.out]; rfl, ?_⟩
  exact below_set6R hbO (Nat.le_refl _) _ _ _ _ _ _
set_option maxRecDepth 100000 in
set_option maxHeartbeats 4000000 in
theorem rnx_sign6 {b off n cap : Nat} {l : List Int} {w : World} (i : Int) (k : Nat) (h : Src w (some ⟨b, off, none⟩) n cap l) (hi : i = (k : Int)) (hk : k ≤ n) (j : Nat) (hj : behindF l k = j) (hjn : j < n) (hsp : spB l j = false) (hnu : numAt l j = false) (hna : nameAt l j = false) (hch0 : chA l j = 44) :
    Calls Try.prog 32 #[.slice (some ⟨b, off, none⟩) n cap, .int .i64 i] w (Told (tkV (nextF l k)) w) := by
  subst hi
  have hlen := h.len
  have hsm := h.small
  obtain ⟨hcap1, hcap2⟩ := h.cap
  have hkn : ¬ (n : Int) < (k : Int) := by omega
  have h34 : isB l j 34 = false := decide_eq_false (by rw [hch0]; decide)
  have h39 : isB l j 39 = false := decide_eq_false (by rw [hch0]; decide)
  have h45 : isB l j 45 = false := decide_eq_false (by rw [hch0]; decide)
  have h60 : isB l j 60 = false := decide_eq_false (by rw [hch0]; decide)
  have h64 : isB l j 64 = false := decide_eq_false (by rw [hch0]; decide)
  have h35 : isB l j 35 = false := decide_eq_false (by rw [hch0]; decide)
  have Hquo : (isB l j 34 || isB l j 39) = false := by rw [h34, h39]; rfl
  have Hnum : numAt l j = false := hnu
  have Hcdc : cdcB l j = false := by unfold cdcB; rw [h45]; rfl
  have Hname : nameAt l j = false := hna
  have Hcdo : cdoB l j = false := by unfold cdoB; rw [h60]; rfl
  have Hat : atSgB l j = false := by unfold atSgB; rw [h64]; rfl
  have Hhash : hashB l j = false := by unfold hashB; rw [h35]; rfl
  have hN : Hid (nextF l k = ⟨18, j, j + 1, [], [], false⟩) := Lib.hid (by
    unfold nextF tokAt
    rw [hj]
    rw [if_neg (show ¬ (l.length ≤ j) from by rw [hlen]; omega), if_neg (show ¬ (spB l j = true) from by rw [hsp]; decide), if_neg (show ¬ ((isB l j 34 || isB l j 39) = true) from by rw [Hquo]; decide), if_neg (show ¬ (numAt l j = true) from by rw [Hnum]; decide), if_neg (show ¬ (cdcB l j = true) from by rw [Hcdc]; decide), if_neg (show ¬ (nameAt l j = true) from by rw [Hname]; decide), if_neg (show ¬ (cdoB l j = true) from by rw [Hcdo]; decide), if_neg (show ¬ (atSgB l j = true) from by rw [Hat]; decide), if_neg (show ¬ (hashB l j = true) from by rw [Hhash]; decide), if_neg (show ¬ (signKind (chA l j) = 9) from by rw [hch0]; decide)]
    rw [hch0]; rfl)
  have HP := Lib.hid h
  generalize nextF l k = T at *
  go_enter Try.func32, Try.ntmps32
  go_wp2_with fail
  generalize hW1 : w.alloc (.cells [.int .i64 0, .int .i64 0, .int .i64 0, .string ⟨#[]⟩, .string ⟨#[]⟩, .bool false].toArray 52) = w1 at *
  have hz1 : w1.heap.size = w.heap.size + 1 := by rw [← hW1]; simp
  have hb1 : Below w.heap.size w w1 := by rw [← hW1]; exact (Below.refl _ w).alloc (Nat.le_refl _) _
  have B1 : Blk w1 w.heap.size zeroTkR 52 := by rw [← hW1]; exact Blk.alloc _ _
  have hS := HP.out.later hb1
  clear hW1 h
  have fb := rbehind_any (k : Int) k hS rfl hk
  rw [hj] at fb
  obtain ⟨_, _, e0, hc⟩ := hS.cell j hjn
  cases e0
  have hch := chA_ch hS.pre j
  have hjn' : ¬ (n : Int) ≤ (j : Int) := by omega
  have fs := fun w => rspace_any (chA l j) w hch
  rw [show spaceB (chA l j) = false from hsp] at fs
  have q34 : (chA l j == 34) = false := h34
  have q39 : (chA l j == 39) = false := h39
  have fn := rnumAt_any (j : Int) j hS rfl (by omega)
  rw [hnu] at fn
  have fm := rnameAt_any (j : Int) j hS rfl (by omega)
  rw [hna] at fm
  have q45 : (chA l j == 45) = false := h45
  have q60 : (chA l j == 60) = false := h60
  have q64 : (chA l j == 64) = false := h64
  have q35 : (chA l j == 35) = false := h35
  have s0 : (wrap64 ((({ data := #[40, 41, 91, 93, 123, 125, 44, 58, 59] } : ByteArray)[0]'(by decide)).toNat : Int) == chA l j) = false := beq_eq_false_iff_ne.2 (by rw [show wrap64 ((({ data := #[40, 41, 91, 93, 123, 125, 44, 58, 59] } : ByteArray)[0]'(by decide)).toNat : Int) = 40 from by decide +kernel]; rw [hch0]; decide)
  have s1 : (wrap64 ((({ data := #[40, 41, 91, 93, 123, 125, 44, 58, 59] } : ByteArray)[1]'(by decide)).toNat : Int) == chA l j) = false := beq_eq_false_iff_ne.2 (by rw [show wrap64 ((({ data := #[40, 41, 91, 93, 123, 125, 44, 58, 59] } : ByteArray)[1]'(by decide)).toNat : Int) = 41 from by decide +kernel]; rw [hch0]; decide)
  have s2 : (wrap64 ((({ data := #[40, 41, 91, 93, 123, 125, 44, 58, 59] } : ByteArray)[2]'(by decide)).toNat : Int) == chA l j) = false := beq_eq_false_iff_ne.2 (by rw [show wrap64 ((({ data := #[40, 41, 91, 93, 123, 125, 44, 58, 59] } : ByteArray)[2]'(by decide)).toNat : Int) = 91 from by decide +kernel]; rw [hch0]; decide)
  have s3 : (wrap64 ((({ data := #[40, 41, 91, 93, 123, 125, 44, 58, 59] } : ByteArray)[3]'(by decide)).toNat : Int) == chA l j) = false := beq_eq_false_iff_ne.2 (by rw [show wrap64 ((({ data := #[40, 41, 91, 93, 123, 125, 44, 58, 59] } : ByteArray)[3]'(by decide)).toNat : Int) = 93 from by decide +kernel]; rw [hch0]; decide)
  have s4 : (wrap64 ((({ data := #[40, 41, 91, 93, 123, 125, 44, 58, 59] } : ByteArray)[4]'(by decide)).toNat : Int) == chA l j) = false := beq_eq_false_iff_ne.2 (by rw [show wrap64 ((({ data := #[40, 41, 91, 93, 123, 125, 44, 58, 59] } : ByteArray)[4]'(by decide)).toNat : Int) = 123 from by decide +kernel]; rw [hch0]; decide)
  have s5 : (wrap64 ((({ data := #[40, 41, 91, 93, 123, 125, 44, 58, 59] } : ByteArray)[5]'(by decide)).toNat : Int) == chA l j) = false := beq_eq_false_iff_ne.2 (by rw [show wrap64 ((({ data := #[40, 41, 91, 93, 123, 125, 44, 58, 59] } : ByteArray)[5]'(by decide)).toNat : Int) = 125 from by decide +kernel]; rw [hch0]; decide)
  have s6 : (wrap64 ((({ data := #[40, 41, 91, 93, 123, 125, 44, 58, 59] } : ByteArray)[6]'(by decide)).toNat : Int) == chA l j) = true := beq_iff_eq.2 (by rw [show wrap64 ((({ data := #[40, 41, 91, 93, 123, 125, 44, 58, 59] } : ByteArray)[6]'(by decide)).toNat : Int) = 44 from by decide +kernel, hch0])
  clear hsp hj h34 h39 hnu Hquo Hnum Hcdc h45 hna Hname h60 h64 h35 Hcdo Hat Hhash
  have hkk := hch0
  have r0 := B1.cell 0 _ rfl
  have r1 := B1.cell 1 _ rfl
  have r2 := B1.cell 2 _ rfl
  have r3 := B1.cell 3 _ rfl
  have r4 := B1.cell 4 _ rfl
  have r5 := B1.cell 5 _ rfl
  have zr0 := B1.frozen 0
  have zr1 := B1.frozen 1
  have zr2 := B1.frozen 2
  have zr3 := B1.frozen 3
  have zr4 := B1.frozen 4
  have zr5 := B1.frozen 5
  clear hkk hch0
  generalize chA l j = c at *
  go_wp2_with ((first | (go_at_call 47; with_reducible refine fb.mono ?_) | (go_at_call 48; with_reducible refine (fs _).mono ?_) | (go_at_call 51; with_reducible refine fn.mono ?_) | (go_at_call 54; with_reducible refine fm.mono ?_)); rintro e wq ⟨rfl, hwq⟩; replace hwq := hwq.symm; subst hwq)
  generalize hW2 : w1.alloc (.cells #[.int .i64 21, .int .i64 22, .int .i64 19, .int .i64 20, .int .i64 23, .int .i64 24, .int .i64 18, .int .i64 16, .int .i64 17] 3) = w2 at *
  have hbO : Below w.heap.size w w2 := by rw [← hW2]; exact hb1.alloc hb1.size _
  have BO : Blk w2 w.heap.size zeroTkR 52 := by rw [← hW2]; exact B1.alloc_old _
  have hld : w2.cell? ⟨w.heap.size + 1, 6, none⟩ = some (.int .i64 18) := by rw [← hW2, ← hz1]; simp only [World.cell?, heap_alloc_new]; rfl
  clear hW2 fs fb fn fm
  clear r0 r1 r2 r3 r4 r5 zr0 zr1 zr2 zr3 zr4 zr5 hS
  have r0 := BO.cell 0 _ rfl
  have r1 := BO.cell 1 _ rfl
  have r2 := BO.cell 2 _ rfl
  have r3 := BO.cell 3 _ rfl
  have r4 := BO.cell 4 _ rfl
  have r5 := BO.cell 5 _ rfl
  have zr0 := BO.frozen 0
  have zr1 := BO.frozen 1
  have zr2 := BO.frozen 2
  have zr3 := BO.frozen 3
  have zr4 := BO.frozen 4
  have zr5 := BO.frozen 5
  refine wp_loop_rounds 10 ?_
  rw [rounds_succ]
  go_wp2
  rw [rounds_succ]
  go_wp2
  rw [rounds_succ]
  go_wp2
  rw [rounds_succ]
  go_wp2
  rw [rounds_succ]
  go_wp2
  rw [rounds_succ]
  go_wp2
  rw [rounds_succ]
  go_wp2
  refine bodyPost_ret (v := .agg #[.int .i64 18, .int .i64 j, .int .i64 (j + 1 : Nat), .string ⟨#[]⟩, .string ⟨#[]⟩, .bool false]) (by simp [results, Try.results32, go_sem, r0, r1, r2, r3, r4, r5]) rfl ⟨by rw [hN.out]; rfl, ?_⟩
  exact below_set6R hbO (Nat.le_refl _) _ _ _ _ _ _
set_option maxRecDepth 100000 in
set_option maxHeartbeats 4000000 in
theorem rnx_sign7 {b off n cap : Nat} {l : List Int} {w : World} (i : Int) (k : Nat) (h : Src w (some ⟨b, off, none⟩) n cap l) (hi : i = (k : Int)) (hk : k ≤ n) (j : Nat) (hj : behindF l k = j) (hjn : j < n) (hsp : spB l j = false) (hnu : numAt l j = false) (hna : nameAt l j = false) (hch0 : chA l j = 58) :
    Calls Try.prog 32 #[.slice (some ⟨b, off, none⟩) n cap, .int .i64 i] w (Told (tkV (nextF l k)) w) := by
  subst hi
  have hlen := h.len
  have hsm := h.small
  obtain ⟨hcap1, hcap2⟩ := h.cap
  have hkn : ¬ (n : Int) < (k : Int) := by omega
  have h34 : isB l j 34 = false := decide_eq_false (by rw [hch0]; decide)
  have h39 : isB l j 39 = false := decide_eq_false (by rw [hch0]; decide)
  have h45 : isB l j 45 = false := decide_eq_false (by rw [hch0]; decide)
  have h60 : isB l j 60 = false := decide_eq_false (by rw [hch0]; decide)
  have h64 : isB l j 64 = false := decide_eq_false (by rw [hch0]; decide)
  have h35 : isB l j 35 = false := decide_eq_false (by rw [hch0]; decide)
  have Hquo : (isB l j 34 || isB l j 39) = false := by rw [h34, h39]; rfl
  have Hnum : numAt l j = false := hnu
  have Hcdc : cdcB l j = false := by unfold cdcB; rw [h45]; rfl
  have Hname : nameAt l j = false := hna
  have Hcdo : cdoB l j = false := by unfold cdoB; rw [h60]; rfl
  have Hat : atSgB l j = false := by unfold atSgB; rw [h64]; rfl
  have Hhash : hashB l j = false := by unfold hashB; rw [h35]; rfl
  have hN : Hid (nextF l k = ⟨16, j, j + 1, [], [], false⟩) := Lib.hid (by
    unfold nextF tokAt
    rw [hj]
    rw [if_neg (show ¬ (l.length ≤ j) from by rw [hlen]; omega), if_neg (show ¬ (spB l j = true) from by rw [hsp]; decide), if_neg (show ¬ ((isB l j 34 || isB l j 39) = true) from by rw [Hquo]; decide), if_neg (show ¬ (numAt l j = true) from by rw [Hnum]; decide), if_neg (show ¬ (cdcB l j = true) from by rw [Hcdc]; decide), if_neg (show ¬ (nameAt l j = true) from by rw [Hname]; decide), if_neg (show ¬ (cdoB l j = true) from by rw [Hcdo]; decide), if_neg (show ¬ (atSgB l j = true) from by rw [Hat]; decide), if_neg (show ¬ (hashB l j = true) from by rw [Hhash]; decide), if_neg (show ¬ (signKind (chA l j) = 9) from by rw [hch0]; decide)]
    rw [hch0]; rfl)
  have HP := Lib.hid h
  generalize nextF l k = T at *
  go_enter Try.func32, Try.ntmps32
  go_wp2_with fail
  generalize hW1 : w.alloc (.cells [.int .i64 0, .int .i64 0, .int .i64 0, .string ⟨#[]⟩, .string ⟨#[]⟩, .bool false].toArray 52) = w1 at *
  have hz1 : w1.heap.size = w.heap.size + 1 := by rw [← hW1]; simp
  have hb1 : Below w.heap.size w w1 := by rw [← hW1]; exact (Below.refl _ w).alloc (Nat.le_refl _) _
  have B1 : Blk w1 w.heap.size zeroTkR 52 := by rw [← hW1]; exact Blk.alloc _ _
  have hS := HP.out.later hb1
  clear hW1 h
  have fb := rbehind_any (k : Int) k hS rfl hk
  rw [hj] at fb
  obtain ⟨_, _, e0, hc⟩ := hS.cell j hjn
  cases e0
  have hch := chA_ch hS.pre j
  have hjn' : ¬ (n : Int) ≤ (j : Int) := by omega
  have fs := fun w => rspace_any (chA l j) w hch
  rw [show spaceB (chA l j) = false from hsp] at fs
  have q34 : (chA l j == 34) = false := h34
  have q39 : (chA l j == 39) = false := h39
  have fn := rnumAt_any (j : Int) j hS rfl (by omega)
  rw [hnu] at fn
  have fm := rnameAt_any (j : Int) j hS rfl (by omega)
  rw [hna] at fm
  have q45 : (chA l j == 45) = false := h45
  have q60 : (chA l j == 60) = false := h60
  have q64 : (chA l j == 64) = false := h64
  have q35 : (chA l j == 35) = false := h35
  have s0 : (wrap64 ((({ data := #[40, 41, 91, 93, 123, 125, 44, 58, 59] } : ByteArray)[0]'(by decide)).toNat : Int) == chA l j) = false := beq_eq_false_iff_ne.2 (by rw [show wrap64 ((({ data := #[40, 41, 91, 93, 123, 125, 44, 58, 59] } : ByteArray)[0]'(by decide)).toNat : Int) = 40 from by decide +kernel]; rw [hch0]; decide)
  have s1 : (wrap64 ((({ data := #[40, 41, 91, 93, 123, 125, 44, 58, 59] } : ByteArray)[1]'(by decide)).toNat : Int) == chA l j) = false := beq_eq_false_iff_ne.2 (by rw [show wrap64 ((({ data := #[40, 41, 91, 93, 123, 125, 44, 58, 59] } : ByteArray)[1]'(by decide)).toNat : Int) = 41 from by decide +kernel]; rw [hch0]; decide)
  have s2 : (wrap64 ((({ data := #[40, 41, 91, 93, 123, 125, 44, 58, 59] } : ByteArray)[2]'(by decide)).toNat : Int) == chA l j) = false := beq_eq_false_iff_ne.2 (by rw [show wrap64 ((({ data := #[40, 41, 91, 93, 123, 125, 44, 58, 59] } : ByteArray)[2]'(by decide)).toNat : Int) = 91 from by decide +kernel]; rw [hch0]; decide)
  have s3 : (wrap64 ((({ data := #[40, 41, 91, 93, 123, 125, 44, 58, 59] } : ByteArray)[3]'(by decide)).toNat : Int) == chA l j) = false := beq_eq_false_iff_ne.2 (by rw [show wrap64 ((({ data := #[40, 41, 91, 93, 123, 125, 44, 58, 59] } : ByteArray)[3]'(by decide)).toNat : Int) = 93 from by decide +kernel]; rw [hch0]; decide)
  have s4 : (wrap64 ((({ data := #[40, 41, 91, 93, 123, 125, 44, 58, 59] } : ByteArray)[4]'(by decide)).toNat : Int) == chA l j) = false := beq_eq_false_iff_ne.2 (by rw [show wrap64 ((({ data := #[40, 41, 91, 93, 123, 125, 44, 58, 59] } : ByteArray)[4]'(by decide)).toNat : Int) = 123 from by decide +kernel]; rw [hch0]; decide)
  have s5 : (wrap64 ((({ data := #[40, 41, 91, 93, 123, 125, 44, 58, 59] } : ByteArray)[5]'(by decide)).toNat : Int) == chA l j) = false := beq_eq_false_iff_ne.2 (by rw [show wrap64 ((({ data := #[40, 41, 91, 93, 123, 125, 44, 58, 59] } : ByteArray)[5]'(by decide)).toNat : Int) = 125 from by decide +kernel]; rw [hch0]; decide)
  have s6 : (wrap64 ((({ data := #[40, 41, 91, 93, 123, 125, 44, 58, 59] } : ByteArray)[6]'(by decide)).toNat : Int) == chA l j) = false := beq_eq_false_iff_ne.2 (by rw [show wrap64 ((({ data := #[40, 41, 91, 93, 123, 125, 44, 58, 59] } : ByteArray)[6]'(by decide)).toNat : Int) = 44 from by decide +kernel]; rw [hch0]; decide)
  have s7 : (wrap64 ((({ data := #[40, 41, 91, 93, 123, 125, 44, 58, 59] } : ByteArray)[7]'(by decide)).toNat : Int) == chA l j) = true := beq_iff_eq.2 (by rw [show wrap64 ((({ data := #[40, 41, 91, 93, 123, 125, 44, 58, 59] } : ByteArray)[7]'(by decide)).toNat : Int) = 58 from by decide +kernel, hch0])
  clear hsp hj h34 h39 hnu Hquo Hnum Hcdc h45 hna Hname h60 h64 h35 Hcdo Hat Hhash
  have hkk := hch0
  have r0 := B1.cell 0 _ rfl
  have r1 := B1.cell 1 _ rfl
  have r2 := B1.cell 2 _ rfl
  have r3 := B1.cell 3 _ rfl
  have r4 := B1.cell 4 _ rfl
  have r5 := B1.cell 5 _ rfl
  have zr0 := B1.frozen 0
  have zr1 := B1.frozen 1
  have zr2 := B1.frozen 2
  have zr3 := B1.frozen 3
  have zr4 := B1.frozen 4
  have zr5 := B1.frozen 5
  clear hkk hch0
  generalize chA l j = c at *
  go_wp2_with ((first | (go_at_call 47; with_reducible refine fb.mono ?_) | (go_at_call 48; with_reducible refine (fs _).mono ?_) | (go_at_call 51; with_reducible refine fn.mono ?_) | (go_at_call 54; with_reducible refine fm.mono ?_)); rintro e wq ⟨rfl, hwq⟩; replace hwq := hwq.symm; subst hwq)
  generalize hW2 : w1.alloc (.cells #[.int .i64 21, .int .i64 22, .int .i64 19, .int .i64 20, .int .i64 23, .int .i64 24, .int .i64 18, .int .i64 16, .int .i64 17] 3) = w2 at *
  have hbO : Below w.heap.size w w2 := by rw [← hW2]; exact hb1.alloc hb1.size _
  have BO : Blk w2 w.heap.size zeroTkR 52 := by rw [← hW2]; exact B1.alloc_old _
  have hld : w2.cell? ⟨w.heap.size + 1, 7, none⟩ = some (.int .i64 16) := by rw [← hW2, ← hz1]; simp only [World.cell?, heap_alloc_new]; rfl
  clear hW2 fs fb fn fm
  clear r0 r1 r2 r3 r4 r5 zr0 zr1 zr2 zr3 zr4 zr5 hS
  have r0 := BO.cell 0 _ rfl
  have r1 := BO.cell 1 _ rfl
  have r2 := BO.cell 2 _ rfl
  have r3 := BO.cell 3 _ rfl
  have r4 := BO.cell 4 _ rfl
  have r5 := BO.cell 5 _ rfl
  have zr0 := BO.frozen 0
  have zr1 := BO.frozen 1
  have zr2 := BO.frozen 2
  have zr3 := BO.frozen 3
  have zr4 := BO.frozen 4
  have zr5 := BO.frozen 5
  refine wp_loop_rounds 10 ?_
  rw [rounds_succ]
  go_wp2
  rw [rounds_succ]
  go_wp2
  rw [rounds_succ]
  go_wp2
  rw [rounds_succ]
  go_wp2
  rw [rounds_succ]
  go_wp2
  rw [rounds_succ]
  go_wp2
  rw [rounds_succ]
  go_wp2
  rw [rounds_succ]
  go_wp2
  refine bodyPost_ret (v := .agg #[.int .i64 16, .int .i64 j, .int .i64 (j + 1 : Nat), .string ⟨#[]⟩, .string ⟨#[]⟩, .bool false]) (by simp [results, Try.results32, go_sem, r0, r1, r2, r3, r4, r5]) rfl ⟨by rw [hN.out]; rfl, ?_⟩
  exact below_set6R hbO (Nat.le_refl _) _ _ _ _ _ _
set_option maxRecDepth 100000 in
set_option maxHeartbeats 4000000 in
theorem rnx_sign8 {b off n cap : Nat} {l : List Int} {w : World} (i : Int) (k : Nat) (h : Src w (some ⟨b, off, none⟩) n cap l) (hi : i = (k : Int)) (hk : k ≤ n) (j : Nat) (hj : behindF l k = j) (hjn : j < n) (hsp : spB l j = false) (hnu : numAt l j = false) (hna : nameAt l j = false) (hch0 : chA l j = 59) :
    Calls Try.prog 32 #[.slice (some ⟨b, off, none⟩) n cap, .int .i64 i] w (Told (tkV (nextF l k)) w) := by
  subst hi
  have hlen := h.len
  have hsm := h.small
  obtain ⟨hcap1, hcap2⟩ := h.cap
  have hkn : ¬ (n : Int) < (k : Int) := by omega
  have h34 : isB l j 34 = false := decide_eq_false (by rw [hch0]; decide)
  have h39 : isB l j 39 = false := decide_eq_false (by rw [hch0]; decide)
  have h45 : isB l j 45 = false := decide_eq_false (by rw [hch0]; decide)
  have h60 : isB l j 60 = false := decide_eq_false (by rw [hch0]; decide)
  have h64 : isB l j 64 = false := decide_eq_false (by rw [hch0]; decide)
  have h35 : isB l j 35 = false := decide_eq_false (by rw [hch0]; decide)
  have Hquo : (isB l j 34 || isB l j 39) = false := by rw [h34, h39]; rfl
  have Hnum : numAt l j = false := hnu
  have Hcdc : cdcB l j = false := by unfold cdcB; rw [h45]; rfl
  have Hname : nameAt l j = false := hna
  have Hcdo : cdoB l j = false := by unfold cdoB; rw [h60]; rfl
  have Hat : atSgB l j = false := by unfold atSgB; rw [h64]; rfl
  have Hhash : hashB l j = false := by unfold hashB; rw [h35]; rfl
  have hN : Hid (nextF l k = ⟨17, j, j + 1, [], [], false⟩) := Lib.hid (by
    unfold nextF tokAt
    rw [hj]
    rw [if_neg (show ¬ (l.length ≤ j) from by rw [hlen]; omega), if_neg (show ¬ (spB l j = true) from by rw [hsp]; decide), if_neg (show ¬ ((isB l j 34 || isB l j 39) = true) from by rw [Hquo]; decide), if_neg (show ¬ (numAt l j = true) from by rw [Hnum]; decide), if_neg (show ¬ (cdcB l j = true) from by rw [Hcdc]; decide), if_neg (show ¬ (nameAt l j = true) from by rw [Hname]; decide), if_neg (show ¬ (cdoB l j = true) from by rw [Hcdo]; decide), if_neg (show ¬ (atSgB l j = true) from by rw [Hat]; decide), if_neg (show ¬ (hashB l j = true) from by rw [Hhash]; decide), if_neg (show ¬ (signKind (chA l j) = 9) from by rw [hch0]; decide)]
    rw [hch0]; rfl)
  have HP := Lib.hid h
  generalize nextF l k = T at *
  go_enter Try.func32, Try.ntmps32
  go_wp2_with fail
  generalize hW1 : w.alloc (.cells [.int .i64 0, .int .i64 0, .int .i64 0, .string ⟨#[]⟩, .string ⟨#[]⟩, .bool false].toArray 52) = w1 at *
  have hz1 : w1.heap.size = w.heap.size + 1 := by rw [← hW1]; simp
  have hb1 : Below w.heap.size w w1 := by rw [← hW1]; exact (Below.refl _ w).alloc (Nat.le_refl _) _
  have B1 : Blk w1 w.heap.size zeroTkR 52 := by rw [← hW1]; exact Blk.alloc _ _
  have hS := HP.out.later hb1
  clear hW1 h
  have fb := rbehind_any (k : Int) k hS rfl hk
  rw [hj] at fb
  obtain ⟨_, _, e0, hc⟩ := hS.cell j hjn
  cases e0
  have hch := chA_ch hS.pre j
  have hjn' : ¬ (n : Int) ≤ (j : Int) := by omega
  have fs := fun w => rspace_any (chA l j) w hch
  rw [show spaceB (chA l j) = false from hsp] at fs
  have q34 : (chA l j == 34) = false := h34
  have q39 : (chA l j == 39) = false := h39
  have fn := rnumAt_any (j : Int) j hS rfl (by omega)
  rw [hnu] at fn
  have fm := rnameAt_any (j : Int) j hS rfl (by omega)
  rw [hna] at fm
  have q45 : (chA l j == 45) = false := h45
  have q60 : (chA l j == 60) = false := h60
  have q64 : (chA l j == 64) = false := h64
  have q35 : (chA l j == 35) = false := h35
  have s0 : (wrap64 ((({ data := #[40, 41, 91, 93, 123, 125, 44, 58, 59] } : ByteArray)[0]'(by decide)).toNat : Int) == chA l j) = false := beq_eq_false_iff_ne.2 (by rw [show wrap64 ((({ data := #[40, 41, 91, 93, 123, 125, 44, 58, 59] } : ByteArray)[0]'(by decide)).toNat : Int) = 40 from by decide +kernel]; rw [hch0]; decide)
  have s1 : (wrap64 ((({ data := #[40, 41, 91, 93, 123, 125, 44, 58, 59] } : ByteArray)[1]'(by decide)).toNat : Int) == chA l j) = false := beq_eq_false_iff_ne.2 (by rw [show wrap64 ((({ data := #[40, 41, 91, 93, 123, 125, 44, 58, 59] } : ByteArray)[1]'(by decide)).toNat : Int) = 41 from by decide +kernel]; rw [hch0]; decide)
  have s2 : (wrap64 ((({ data := #[40, 41, 91, 93, 123, 125, 44, 58, 59] } : ByteArray)[2]'(by decide)).toNat : Int) == chA l j) = false := beq_eq_false_iff_ne.2 (by rw [show wrap64 ((({ data := #[40, 41, 91, 93, 123, 125, 44, 58, 59] } : ByteArray)[2]'(by decide)).toNat : Int) = 91 from by decide +kernel]; rw [hch0]; decide)
  have s3 : (wrap64 ((({ data := #[40, 41, 91, 93, 123, 125, 44, 58, 59] } : ByteArray)[3]'(by decide)).toNat : Int) == chA l j) = false := beq_eq_false_iff_ne.2 (by rw [show wrap64 ((({ data := #[40, 41, 91, 93, 123, 125, 44, 58, 59] } : ByteArray)[3]'(by decide)).toNat : Int) = 93 from by decide +kernel]; rw [hch0]; decide)
  have s4 : (wrap64 ((({ data := #[40, 41, 91, 93, 123, 125, 44, 58, 59] } : ByteArray)[4]'(by decide)).toNat : Int) == chA l j) = false := beq_eq_false_iff_ne.2 (by rw [show wrap64 ((({ data := #[40, 41, 91, 93, 123, 125, 44, 58, 59] } : ByteArray)[4]'(by decide)).toNat : Int) = 123 from by decide +kernel]; rw [hch0]; decide)
  have s5 : (wrap64 ((({ data := #[40, 41, 91, 93, 123, 125, 44, 58, 59] } : ByteArray)[5]'(by decide)).toNat : Int) == chA l j) = false := beq_eq_false_iff_ne.2 (by rw [show wrap64 ((({ data := #[40, 41, 91, 93, 123, 125, 44, 58, 59] } : ByteArray)[5]'(by decide)).toNat : Int) = 125 from by decide +kernel]; rw [hch0]; decide)
  have s6 : (wrap64 ((({ data := #[40, 41, 91, 93, 123, 125, 44, 58, 59] } : ByteArray)[6]'(by decide)).toNat : Int) == chA l j) = false := beq_eq_false_iff_ne.2 (by rw [show wrap64 ((({ data := #[40, 41, 91, 93, 123, 125, 44, 58, 59] } : ByteArray)[6]'(by decide)).toNat : Int) = 44 from by decide +kernel]; rw [hch0]; decide)
  have s7 : (wrap64 ((({ data := #[40, 41, 91, 93, 123, 125, 44, 58, 59] } : ByteArray)[7]'(by decide)).toNat : Int) == chA l j) = false := beq_eq_false_iff_ne.2 (by rw [show wrap64 ((({ data := #[40, 41, 91, 93, 123, 125, 44, 58, 59] } : ByteArray)[7]'(by decide)).toNat : Int) = 58 from by decide +kernel]; rw [hch0]; decide)
  have s8 : (wrap64 ((({ data := #[40, 41, 91, 93, 123, 125, 44, 58, 59] } : ByteArray)[8]'(by decide)).toNat : Int) == chA l j) = true := beq_iff_eq.2 (by rw [show wrap64 ((({ data := #[40, 41, 91, 93, 123, 125, 44, 58, 59] } : ByteArray)[8]'(by decide)).toNat : Int) = 59 from by decide +kernel, hch0])
  clear hsp hj h34 h39 hnu Hquo Hnum Hcdc h45 hna Hname h60 h64 h35 Hcdo Hat Hhash
  have hkk := hch0
  have r0 := B1.cell 0 _ rfl
  have r1 := B1.cell 1 _ rfl
  have r2 := B1.cell 2 _ rfl
  have r3 := B1.cell 3 _ rfl
  have r4 := B1.cell 4 _ rfl
  have r5 := B1.cell 5 _ rfl
  have zr0 := B1.frozen 0
  have zr1 := B1.frozen 1
  have zr2 := B1.frozen 2
  have zr3 := B1.frozen 3
  have zr4 := B1.frozen 4
  have zr5 := B1.frozen 5
  clear hkk hch0
  generalize chA l j = c at *
  go_wp2_with ((first | (go_at_call 47; with_reducible refine fb.mono ?_) | (go_at_call 48; with_reducible refine (fs _).mono ?_) | (go_at_call 51; with_reducible refine fn.mono ?_) | (go_at_call 54; with_reducible refine fm.mono ?_)); rintro e wq ⟨rfl, hwq⟩; replace hwq := hwq.symm; subst hwq)
  generalize hW2 : w1.alloc (.cells #[.int .i64 21, .int .i64 22, .int .i64 19, .int .i64 20, .int .i64 23, .int .i64 24, .int .i64 18, .int .i64 16, .int .i64 17] 3) = w2 at *
  have hbO : Below w.heap.size w w2 := by rw [← hW2]; exact hb1.alloc hb1.size _
  have BO : Blk w2 w.heap.size zeroTkR 52 := by rw [← hW2]; exact B1.alloc_old _
  have hld : w2.cell? ⟨w.heap.size + 1, 8, none⟩ = some (.int .i64 17) := by rw [← hW2, ← hz1]; simp only [World.cell?, heap_alloc_new]; rfl
  clear hW2 fs fb fn fm
  clear r0 r1 r2 r3 r4 r5 zr0 zr1 zr2 zr3 zr4 zr5 hS
  have r0 := BO.cell 0 _ rfl
  have r1 := BO.cell 1 _ rfl
  have r2 := BO.cell 2 _ rfl
  have r3 := BO.cell 3 _ rfl
  have r4 := BO.cell 4 _ rfl
  have r5 := BO.cell 5 _ rfl
  have zr0 := BO.frozen 0
  have zr1 := BO.frozen 1
  have zr2 := BO.frozen 2
  have zr3 := BO.frozen 3
  have zr4 := BO.frozen 4
  have zr5 := BO.frozen 5
  refine wp_loop_rounds 10 ?_
  rw [rounds_succ]
  go_wp2
  rw [rounds_succ]
  go_wp2
  rw [rounds_succ]
  go_wp2
  rw [rounds_succ]
  go_wp2
  rw [rounds_succ]
  go_wp2
  rw [rounds_succ]
  go_wp2
  rw [rounds_succ]
  go_wp2
  rw [rounds_succ]
  go_wp2
  rw [rounds_succ]
  go_wp2
  refine bodyPost_ret (v := .agg #[.int .i64 17, .int .i64 j, .int .i64 (j + 1 : Nat), .string ⟨#[]⟩, .string ⟨#[]⟩, .bool false]) (by simp [results, Try.results32, go_sem, r0, r1, r2, r3, r4, r5]) rfl ⟨by rw [hN.out]; rfl, ?_⟩
  exact below_set6R hbO (Nat.le_refl _) _ _ _ _ _ _
end
end Go.Proofs.Ytelbjnanpmdnnaa
