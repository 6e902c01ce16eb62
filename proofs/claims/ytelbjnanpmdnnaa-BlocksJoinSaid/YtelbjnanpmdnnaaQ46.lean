/- Texts of mine in one: Rn. -/
import Derived.Test.YtelbjnanpmdnnaaQ45
import Derived.Test.YtelbjnanpmdnnaaQ43
namespace Go.Proofs.Ytelbjnanpmdnnaa
section
open Go.RowKit
set_option linter.unusedVariables false
set_option linter.unusedSimpArgs false
set_option maxRecDepth 100000 in
set_option maxHeartbeats 4000000 in
theorem rnx_quo34 {b off n cap : Nat} {l : List Int} {w : World} (i : Int) (k : Nat) (h : Src w (some ⟨b, off, none⟩) n cap l) (hi : i = (k : Int)) (hk : k ≤ n) (j : Nat) (hj : behindF l k = j) (hjn : j < n) (hsp : spB l j = false) (h34 : isB l j 34 = true) :
    Calls Try.prog 32 #[.slice (some ⟨b, off, none⟩) n cap, .int .i64 i] w (Told (tkV (nextF l k)) w) := by
  subst hi
  have hlen := h.len
  have hsm := h.small
  obtain ⟨hcap1, hcap2⟩ := h.cap
  have hkn : ¬ (n : Int) < (k : Int) := by omega
  have Hquo : (isB l j 34 || isB l j 39) = true := by rw [h34]; rfl
  have hN : Hid (nextF l k = quotedF l j) := Lib.hid (by
    unfold nextF tokAt
    rw [hj]
    rw [if_neg (show ¬ (l.length ≤ j) from by rw [hlen]; omega), if_neg (show ¬ (spB l j = true) from by rw [hsp]; decide), if_pos (show (isB l j 34 || isB l j 39) = true from Hquo)])
  have HP := Lib.hid h
  generalize nextF l k = T at *
  go_enter Try.func32, Try.ntmps32
  go_wp2_with fail
  generalize hW1 : w.alloc (.cells [.int .i64 0, .int .i64 0, .int .i64 0, .string ⟨#[]⟩, .string ⟨#[]⟩, .bool false].toArray 52) = w1 at *
  have hz1 : w1.heap.size = w.heap.size + 1 := by rw [← hW1]; simp
  have hb1 : Below w.heap.size w w1 := by rw [← hW1]; exact (Below.refl _ w).alloc (Nat.le_refl _) _
  have B1 : Blk w1 w.heap.size zeroTkR 52 := by rw [← hW1]; exact Blk.alloc _ _
  have hS := HP.out.later hb1
  clear hW1 h
  have fb := rbehind_any (k : Int) k hS rfl hk
  rw [hj] at fb
  obtain ⟨_, _, e0, hc⟩ := hS.cell j hjn
  cases e0
  have hch := chA_ch hS.pre j
  have hjn' : ¬ (n : Int) ≤ (j : Int) := by omega
  have fs := fun w => rspace_any (chA l j) w hch
  rw [show spaceB (chA l j) = false from hsp] at fs
  have q34 : (chA l j == 34) = true := h34
  have fz := rquoted_any (j : Int) j hS rfl hjn
  generalize quotedF l j = U at *
  clear hsp hj h34 Hquo
  have r0 := B1.cell 0 _ rfl
  have r1 := B1.cell 1 _ rfl
  have r2 := B1.cell 2 _ rfl
  have r3 := B1.cell 3 _ rfl
  have r4 := B1.cell 4 _ rfl
  have r5 := B1.cell 5 _ rfl
  have zr0 := B1.frozen 0
  have zr1 := B1.frozen 1
  have zr2 := B1.frozen 2
  have zr3 := B1.frozen 3
  have zr4 := B1.frozen 4
  have zr5 := B1.frozen 5
  generalize chA l j = c at *
  go_wp2_with ((first | (go_at_call 47; with_reducible refine fb.mono ?_) | (go_at_call 48; with_reducible refine (fs _).mono ?_)); rintro e wq ⟨rfl, hwq⟩; replace hwq := hwq.symm; subst hwq)
  refine fz.mono ?_
  rintro e w2 ⟨rfl, hb2⟩
  have B2 := B1.later hb2 (by omega)
  have hbw2 := hb1.trans (hb2.mono (by omega))
  clear r0 r1 r2 r3 r4 r5 zr0 zr1 zr2 zr3 zr4 zr5 hS
  unfold tkV tkCells
  have r0 := B2.cell 0 _ rfl
  have r1 := B2.cell 1 _ rfl
  have r2 := B2.cell 2 _ rfl
  have r3 := B2.cell 3 _ rfl
  have r4 := B2.cell 4 _ rfl
  have r5 := B2.cell 5 _ rfl
  have zr0 := B2.frozen 0
  have zr1 := B2.frozen 1
  have zr2 := B2.frozen 2
  have zr3 := B2.frozen 3
  have zr4 := B2.frozen 4
  have zr5 := B2.frozen 5
  go_wp2
  refine bodyPost_ret (v := .agg #[.int .i64 U.kind, .int .i64 U.frm, .int .i64 U.to, .string (strOfNums U.text), .string (strOfNums U.num), .bool U.whole]) (by simp [results, Try.results32, go_sem, r0, r1, r2, r3, r4, r5]) rfl ⟨by rw [hN.out]; rfl, ?_⟩
  exact below_set6R hbw2 (Nat.le_refl _) _ _ _ _ _ _
set_option maxRecDepth 100000 in
set_option maxHeartbeats 4000000 in
theorem rnx_quo39 {b off n cap : Nat} {l : List Int} {w : World} (i : Int) (k : Nat) (h : Src w (some ⟨b, off, none⟩) n cap l) (hi : i = (k : Int)) (hk : k ≤ n) (j : Nat) (hj : behindF l k = j) (hjn : j < n) (hsp : spB l j = false) (h34 : isB l j 34 = false) (h39 : isB l j 39 = true) :
    Calls Try.prog 32 #[.slice (some ⟨b, off, none⟩) n cap, .int .i64 i] w (Told (tkV (nextF l k)) w) := by
  subst hi
  have hlen := h.len
  have hsm := h.small
  obtain ⟨hcap1, hcap2⟩ := h.cap
  have hkn : ¬ (n : Int) < (k : Int) := by omega
  have Hquo : (isB l j 34 || isB l j 39) = true := by rw [h39]; simp
  have hN : Hid (nextF l k = quotedF l j) := Lib.hid (by
    unfold nextF tokAt
    rw [hj]
    rw [if_neg (show ¬ (l.length ≤ j) from by rw [hlen]; omega), if_neg (show ¬ (spB l j = true) from by rw [hsp]; decide), if_pos (show (isB l j 34 || isB l j 39) = true from Hquo)])
  have HP := Lib.hid h
  generalize nextF l k = T at *
  go_enter Try.func32, Try.ntmps32
  go_wp2_with fail
  generalize hW1 : w.alloc (.cells [.int .i64 0, .int .i64 0, .int .i64 0, .string ⟨#[]⟩, .string ⟨#[]⟩, .bool false].toArray 52) = w1 at *
  have hz1 : w1.heap.size = w.heap.size + 1 := by rw [← hW1]; simp
  have hb1 : Below w.heap.size w w1 := by rw [← hW1]; exact (Below.refl _ w).alloc (Nat.le_refl _) _
  have B1 : Blk w1 w.heap.size zeroTkR 52 := by rw [← hW1]; exact Blk.alloc _ _
  have hS := HP.out.later hb1
  clear hW1 h
  have fb := rbehind_any (k : Int) k hS rfl hk
  rw [hj] at fb
  obtain ⟨_, _, e0, hc⟩ := hS.cell j hjn
  cases e0
  have hch := chA_ch hS.pre j
  have hjn' : ¬ (n : Int) ≤ (j : Int) := by omega
  have fs := fun w => rspace_any (chA l j) w hch
  rw [show spaceB (chA l j) = false from hsp] at fs
  have q34 : (chA l j == 34) = false := h34
  have q39 : (chA l j == 39) = true := h39
  have fz := rquoted_any (j : Int) j hS rfl hjn
  generalize quotedF l j = U at *
  clear hsp hj h34 h39 Hquo
  have r0 := B1.cell 0 _ rfl
  have r1 := B1.cell 1 _ rfl
  have r2 := B1.cell 2 _ rfl
  have r3 := B1.cell 3 _ rfl
  have r4 := B1.cell 4 _ rfl
  have r5 := B1.cell 5 _ rfl
  have zr0 := B1.frozen 0
  have zr1 := B1.frozen 1
  have zr2 := B1.frozen 2
  have zr3 := B1.frozen 3
  have zr4 := B1.frozen 4
  have zr5 := B1.frozen 5
  generalize chA l j = c at *
  go_wp2_with ((first | (go_at_call 47; with_reducible refine fb.mono ?_) | (go_at_call 48; with_reducible refine (fs _).mono ?_)); rintro e wq ⟨rfl, hwq⟩; replace hwq := hwq.symm; subst hwq)
  refine fz.mono ?_
  rintro e w2 ⟨rfl, hb2⟩
  have B2 := B1.later hb2 (by omega)
  have hbw2 := hb1.trans (hb2.mono (by omega))
  clear r0 r1 r2 r3 r4 r5 zr0 zr1 zr2 zr3 zr4 zr5 hS
  unfold tkV tkCells
  have r0 := B2.cell 0 _ rfl
  have r1 := B2.cell 1 _ rfl
  have r2 := B2.cell 2 _ rfl
  have r3 := B2.cell 3 _ rfl
  have r4 := B2.cell 4 _ rfl
  have r5 := B2.cell 5 _ rfl
  have zr0 := B2.frozen 0
  have zr1 := B2.frozen 1
  have zr2 := B2.frozen 2
  have zr3 := B2.frozen 3
  have zr4 := B2.frozen 4
  have zr5 := B2.frozen 5
  go_wp2
  refine bodyPost_ret (v := .agg #[.int .i64 U.kind, .int .i64 U.frm, .int .i64 U.to, .string (strOfNums U.text), .string (strOfNums U.num), .bool U.whole]) (by simp [results, Try.results32, go_sem, r0, r1, r2, r3, r4, r5]) rfl ⟨by rw [hN.out]; rfl, ?_⟩
  exact below_set6R hbw2 (Nat.le_refl _) _ _ _ _ _ _
set_option maxRecDepth 100000 in
set_option maxHeartbeats 4000000 in
theorem rnx_cdc {b off n cap : Nat} {l : List Int} {w : World} (i : Int) (k : Nat) (h : Src w (some ⟨b, off, none⟩) n cap l) (hi : i = (k : Int)) (hk : k ≤ n) (j : Nat) (hj : behindF l k = j) (hjn : j < n) (hsp : spB l j = false) (h34 : isB l j 34 = false) (h39 : isB l j 39 = false) (hnu : numAt l j = false) (h45 : isB l j 45 = true) (h45b : isB l (j + 1) 45 = true) (h62 : isB l (j + 2) 62 = true) :
    Calls Try.prog 32 #[.slice (some ⟨b, off, none⟩) n cap, .int .i64 i] w (Told (tkV (nextF l k)) w) := by
  subst hi
  have hlen := h.len
  have hsm := h.small
  obtain ⟨hcap1, hcap2⟩ := h.cap
  have hkn : ¬ (n : Int) < (k : Int) := by omega
  have Hquo : (isB l j 34 || isB l j 39) = false := by rw [h34, h39]; rfl
  have Hnum : numAt l j = false := hnu
  have Hcdc : cdcB l j = true := by unfold cdcB; rw [h45, h45b, h62]; rfl
  have hN : Hid (nextF l k = ⟨15, j, j + 3, [], [], false⟩) := Lib.hid (by
    unfold nextF tokAt
    rw [hj]
    rw [if_neg (show ¬ (l.length ≤ j) from by rw [hlen]; omega), if_neg (show ¬ (spB l j = true) from by rw [hsp]; decide), if_neg (show ¬ ((isB l j 34 || isB l j 39) = true) from by rw [Hquo]; decide), if_neg (show ¬ (numAt l j = true) from by rw [Hnum]; decide), if_pos (show cdcB l j = true from Hcdc)])
  have HP := Lib.hid h
  generalize nextF l k = T at *
  go_enter Try.func32, Try.ntmps32
  go_wp2_with fail
  generalize hW1 : w.alloc (.cells [.int .i64 0, .int .i64 0, .int .i64 0, .string ⟨#[]⟩, .string ⟨#[]⟩, .bool false].toArray 52) = w1 at *
  have hz1 : w1.heap.size = w.heap.size + 1 := by rw [← hW1]; simp
  have hb1 : Below w.heap.size w w1 := by rw [← hW1]; exact (Below.refl _ w).alloc (Nat.le_refl _) _
  have B1 : Blk w1 w.heap.size zeroTkR 52 := by rw [← hW1]; exact Blk.alloc _ _
  have hS := HP.out.later hb1
  clear hW1 h
  have fb := rbehind_any (k : Int) k hS rfl hk
  rw [hj] at fb
  obtain ⟨_, _, e0, hc⟩ := hS.cell j hjn
  cases e0
  have hch := chA_ch hS.pre j
  have hjn' : ¬ (n : Int) ≤ (j : Int) := by omega
  have fs := fun w => rspace_any (chA l j) w hch
  rw [show spaceB (chA l j) = false from hsp] at fs
  have q34 : (chA l j == 34) = false := h34
  have q39 : (chA l j == 39) = false := h39
  have fn := rnumAt_any (j : Int) j hS rfl (by omega)
  rw [hnu] at fn
  have q45 : (chA l j == 45) = true := h45
  have fd1 := ris_any ((j : Int) + 1) (j + 1) 45 hS (by omega) (by decide)
  rw [h45b] at fd1
  have fd2 := ris_any ((j : Int) + 2) (j + 2) 62 hS (by omega) (by decide)
  rw [h62] at fd2
  clear hsp hj h34 h39 hnu Hquo Hnum Hcdc h45 h45b h62
  have r0 := B1.cell 0 _ rfl
  have r1 := B1.cell 1 _ rfl
  have r2 := B1.cell 2 _ rfl
  have r3 := B1.cell 3 _ rfl
  have r4 := B1.cell 4 _ rfl
  have r5 := B1.cell 5 _ rfl
  have zr0 := B1.frozen 0
  have zr1 := B1.frozen 1
  have zr2 := B1.frozen 2
  have zr3 := B1.frozen 3
  have zr4 := B1.frozen 4
  have zr5 := B1.frozen 5
  generalize chA l j = c at *
  go_wp2_with ((first | (go_at_call 47; with_reducible refine fb.mono ?_) | (go_at_call 48; with_reducible refine (fs _).mono ?_) | (go_at_call 51; with_reducible refine fn.mono ?_) | (go_at_call 53; with_reducible refine fd1.mono ?_) | (go_at_call 53; with_reducible refine fd2.mono ?_)); rintro e wq ⟨rfl, hwq⟩; replace hwq := hwq.symm; subst hwq)
  refine bodyPost_ret (v := .agg #[.int .i64 15, .int .i64 j, .int .i64 (j + 3 : Nat), .string ⟨#[]⟩, .string ⟨#[]⟩, .bool false]) (by simp [results, Try.results32, go_sem, r0, r1, r2, r3, r4, r5]) rfl ⟨by rw [hN.out]; rfl, ?_⟩
  exact below_set6R hb1 (Nat.le_refl _) _ _ _ _ _ _
set_option maxRecDepth 100000 in
set_option maxHeartbeats 4000000 in
theorem rnx_name_d0 {b off n cap : Nat} {l : List Int} {w : World} (i : Int) (k : Nat) (h : Src w (some ⟨b, off, none⟩) n cap l) (hi : i = (k : Int)) (hk : k ≤ n) (j : Nat) (hj : behindF l k = j) (hjn : j < n) (hsp : spB l j = false) (h34 : isB l j 34 = false) (h39 : isB l j 39 = false) (hnu : numAt l j = false) (h45 : isB l j 45 = false) (hna : nameAt l j = true) :
    Calls Try.prog 32 #[.slice (some ⟨b, off, none⟩) n cap, .int .i64 i] w (Told (tkV (nextF l k)) w) := by
  subst hi
  have hlen := h.len
  have hsm := h.small
  obtain ⟨hcap1, hcap2⟩ := h.cap
  have hkn : ¬ (n : Int) < (k : Int) := by omega
  have Hquo : (isB l j 34 || isB l j 39) = false := by rw [h34, h39]; rfl
  have Hnum : numAt l j = false := hnu
  have Hcdc : cdcB l j = false := by unfold cdcB; rw [h45]; rfl
  have Hname : nameAt l j = true := hna
  have hN : Hid (nextF l k = calledF l j) := Lib.hid (by
    unfold nextF tokAt
    rw [hj]
    rw [if_neg (show ¬ (l.length ≤ j) from by rw [hlen]; omega), if_neg (show ¬ (spB l j = true) from by rw [hsp]; decide), if_neg (show ¬ ((isB l j 34 || isB l j 39) = true) from by rw [Hquo]; decide), if_neg (show ¬ (numAt l j = true) from by rw [Hnum]; decide), if_neg (show ¬ (cdcB l j = true) from by rw [Hcdc]; decide), if_pos (show nameAt l j = true from Hname)])
  have HP := Lib.hid h
  generalize nextF l k = T at *
  go_enter Try.func32, Try.ntmps32
  go_wp2_with fail
  generalize hW1 : w.alloc (.cells [.int .i64 0, .int .i64 0, .int .i64 0, .string ⟨#[]⟩, .string ⟨#[]⟩, .bool false].toArray 52) = w1 at *
  have hz1 : w1.heap.size = w.heap.size + 1 := by rw [← hW1]; simp
  have hb1 : Below w.heap.size w w1 := by rw [← hW1]; exact (Below.refl _ w).alloc (Nat.le_refl _) _
  have B1 : Blk w1 w.heap.size zeroTkR 52 := by rw [← hW1]; exact Blk.alloc _ _
  have hS := HP.out.later hb1
  clear hW1 h
  have fb := rbehind_any (k : Int) k hS rfl hk
  rw [hj] at fb
  obtain ⟨_, _, e0, hc⟩ := hS.cell j hjn
  cases e0
  have hch := chA_ch hS.pre j
  have hjn' : ¬ (n : Int) ≤ (j : Int) := by omega
  have fs := fun w => rspace_any (chA l j) w hch
  rw [show spaceB (chA l j) = false from hsp] at fs
  have q34 : (chA l j == 34) = false := h34
  have q39 : (chA l j == 39) = false := h39
  have fn := rnumAt_any (j : Int) j hS rfl (by omega)
  rw [hnu] at fn
  have fm := rnameAt_any (j : Int) j hS rfl (by omega)
  rw [hna] at fm
  have q45 : (chA l j == 45) = false := h45
  have fz := rcalled_any (j : Int) j hS rfl hjn
  generalize calledF l j = U at *
  clear hsp hj h34 h39 hnu Hquo Hnum Hcdc h45 hna Hname
  have r0 := B1.cell 0 _ rfl
  have r1 := B1.cell 1 _ rfl
  have r2 := B1.cell 2 _ rfl
  have r3 := B1.cell 3 _ rfl
  have r4 := B1.cell 4 _ rfl
  have r5 := B1.cell 5 _ rfl
  have zr0 := B1.frozen 0
  have zr1 := B1.frozen 1
  have zr2 := B1.frozen 2
  have zr3 := B1.frozen 3
  have zr4 := B1.frozen 4
  have zr5 := B1.frozen 5
  generalize chA l j = c at *
  go_wp2_with ((first | (go_at_call 47; with_reducible refine fb.mono ?_) | (go_at_call 48; with_reducible refine (fs _).mono ?_) | (go_at_call 51; with_reducible refine fn.mono ?_) | (go_at_call 54; with_reducible refine fm.mono ?_)); rintro e wq ⟨rfl, hwq⟩; replace hwq := hwq.symm; subst hwq)
  refine fz.mono ?_
  rintro e w2 ⟨rfl, hb2⟩
  have B2 := B1.later hb2 (by omega)
  have hbw2 := hb1.trans (hb2.mono (by omega))
  clear r0 r1 r2 r3 r4 r5 zr0 zr1 zr2 zr3 zr4 zr5 hS
  unfold tkV tkCells
  have r0 := B2.cell 0 _ rfl
  have r1 := B2.cell 1 _ rfl
  have r2 := B2.cell 2 _ rfl
  have r3 := B2.cell 3 _ rfl
  have r4 := B2.cell 4 _ rfl
  have r5 := B2.cell 5 _ rfl
  have zr0 := B2.frozen 0
  have zr1 := B2.frozen 1
  have zr2 := B2.frozen 2
  have zr3 := B2.frozen 3
  have zr4 := B2.frozen 4
  have zr5 := B2.frozen 5
  go_wp2
  refine bodyPost_ret (v := .agg #[.int .i64 U.kind, .int .i64 U.frm, .int .i64 U.to, .string (strOfNums U.text), .string (strOfNums U.num), .bool U.whole]) (by simp [results, Try.results32, go_sem, r0, r1, r2, r3, r4, r5]) rfl ⟨by rw [hN.out]; rfl, ?_⟩
  exact below_set6R hbw2 (Nat.le_refl _) _ _ _ _ _ _
set_option maxRecDepth 100000 in
set_option maxHeartbeats 4000000 in
theorem rnx_name_d1 {b off n cap : Nat} {l : List Int} {w : World} (i : Int) (k : Nat) (h : Src w (some ⟨b, off, none⟩) n cap l) (hi : i = (k : Int)) (hk : k ≤ n) (j : Nat) (hj : behindF l k = j) (hjn : j < n) (hsp : spB l j = false) (h34 : isB l j 34 = false) (h39 : isB l j 39 = false) (hnu : numAt l j = false) (h45 : isB l j 45 = true) (h45b : isB l (j + 1) 45 = false) (hna : nameAt l j = true) :
    Calls Try.prog 32 #[.slice (some ⟨b, off, none⟩) n cap, .int .i64 i] w (Told (tkV (nextF l k)) w) := by
  subst hi
  have hlen := h.len
  have hsm := h.small
  obtain ⟨hcap1, hcap2⟩ := h.cap
  have hkn : ¬ (n : Int) < (k : Int) := by omega
  have Hquo : (isB l j 34 || isB l j 39) = false := by rw [h34, h39]; rfl
  have Hnum : numAt l j = false := hnu
  have Hcdc : cdcB l j = false := by unfold cdcB; rw [h45b]; simp
  have Hname : nameAt l j = true := hna
  have hN : Hid (nextF l k = calledF l j) := Lib.hid (by
    unfold nextF tokAt
    rw [hj]
    rw [if_neg (show ¬ (l.length ≤ j) from by rw [hlen]; omega), if_neg (show ¬ (spB l j = true) from by rw [hsp]; decide), if_neg (show ¬ ((isB l j 34 || isB l j 39) = true) from by rw [Hquo]; decide), if_neg (show ¬ (numAt l j = true) from by rw [Hnum]; decide), if_neg (show ¬ (cdcB l j = true) from by rw [Hcdc]; decide), if_pos (show nameAt l j = true from Hname)])
  have HP := Lib.hid h
  generalize nextF l k = T at *
  go_enter Try.func32, Try.ntmps32
  go_wp2_with fail
  generalize hW1 : w.alloc (.cells [.int .i64 0, .int .i64 0, .int .i64 0, .string ⟨#[]⟩, .string ⟨#[]⟩, .bool false].toArray 52) = w1 at *
  have hz1 : w1.heap.size = w.heap.size + 1 := by rw [← hW1]; simp
  have hb1 : Below w.heap.size w w1 := by rw [← hW1]; exact (Below.refl _ w).alloc (Nat.le_refl _) _
  have B1 : Blk w1 w.heap.size zeroTkR 52 := by rw [← hW1]; exact Blk.alloc _ _
  have hS := HP.out.later hb1
  clear hW1 h
  have fb := rbehind_any (k : Int) k hS rfl hk
  rw [hj] at fb
  obtain ⟨_, _, e0, hc⟩ := hS.cell j hjn
  cases e0
  have hch := chA_ch hS.pre j
  have hjn' : ¬ (n : Int) ≤ (j : Int) := by omega
  have fs := fun w => rspace_any (chA l j) w hch
  rw [show spaceB (chA l j) = false from hsp] at fs
  have q34 : (chA l j == 34) = false := h34
  have q39 : (chA l j == 39) = false := h39
  have fn := rnumAt_any (j : Int) j hS rfl (by omega)
  rw [hnu] at fn
  have fm := rnameAt_any (j : Int) j hS rfl (by omega)
  rw [hna] at fm
  have q45 : (chA l j == 45) = true := h45
  have fd1 := ris_any ((j : Int) + 1) (j + 1) 45 hS (by omega) (by decide)
  rw [h45b] at fd1
  have fz := rcalled_any (j : Int) j hS rfl hjn
  generalize calledF l j = U at *
  clear hsp hj h34 h39 hnu Hquo Hnum Hcdc h45 h45b hna Hname
  have r0 := B1.cell 0 _ rfl
  have r1 := B1.cell 1 _ rfl
  have r2 := B1.cell 2 _ rfl
  have r3 := B1.cell 3 _ rfl
  have r4 := B1.cell 4 _ rfl
  have r5 := B1.cell 5 _ rfl
  have zr0 := B1.frozen 0
  have zr1 := B1.frozen 1
  have zr2 := B1.frozen 2
  have zr3 := B1.frozen 3
  have zr4 := B1.frozen 4
  have zr5 := B1.frozen 5
  generalize chA l j = c at *
  go_wp2_with ((first | (go_at_call 47; with_reducible refine fb.mono ?_) | (go_at_call 48; with_reducible refine (fs _).mono ?_) | (go_at_call 51; with_reducible refine fn.mono ?_) | (go_at_call 53; with_reducible refine fd1.mono ?_) | (go_at_call 54; with_reducible refine fm.mono ?_)); rintro e wq ⟨rfl, hwq⟩; replace hwq := hwq.symm; subst hwq)
  refine fz.mono ?_
  rintro e w2 ⟨rfl, hb2⟩
  have B2 := B1.later hb2 (by omega)
  have hbw2 := hb1.trans (hb2.mono (by omega))
  clear r0 r1 r2 r3 r4 r5 zr0 zr1 zr2 zr3 zr4 zr5 hS
  unfold tkV tkCells
  have r0 := B2.cell 0 _ rfl
  have r1 := B2.cell 1 _ rfl
  have r2 := B2.cell 2 _ rfl
  have r3 := B2.cell 3 _ rfl
  have r4 := B2.cell 4 _ rfl
  have r5 := B2.cell 5 _ rfl
  have zr0 := B2.frozen 0
  have zr1 := B2.frozen 1
  have zr2 := B2.frozen 2
  have zr3 := B2.frozen 3
  have zr4 := B2.frozen 4
  have zr5 := B2.frozen 5
  go_wp2
  refine bodyPost_ret (v := .agg #[.int .i64 U.kind, .int .i64 U.frm, .int .i64 U.to, .string (strOfNums U.text), .string (strOfNums U.num), .bool U.whole]) (by simp [results, Try.results32, go_sem, r0, r1, r2, r3, r4, r5]) rfl ⟨by rw [hN.out]; rfl, ?_⟩
  exact below_set6R hbw2 (Nat.le_refl _) _ _ _ _ _ _
set_option maxRecDepth 100000 in
set_option maxHeartbeats 4000000 in
theorem rnx_name_d2 {b off n cap : Nat} {l : List Int} {w : World} (i : Int) (k : Nat) (h : Src w (some ⟨b, off, none⟩) n cap l) (hi : i = (k : Int)) (hk : k ≤ n) (j : Nat) (hj : behindF l k = j) (hjn : j < n) (hsp : spB l j = false) (h34 : isB l j 34 = false) (h39 : isB l j 39 = false) (hnu : numAt l j = false) (h45 : isB l j 45 = true) (h45b : isB l (j + 1) 45 = true) (h62 : isB l (j + 2) 62 = false) (hna : nameAt l j = true) :
    Calls Try.prog 32 #[.slice (some ⟨b, off, none⟩) n cap, .int .i64 i] w (Told (tkV (nextF l k)) w) := by
  subst hi
  have hlen := h.len
  have hsm := h.small
  obtain ⟨hcap1, hcap2⟩ := h.cap
  have hkn : ¬ (n : Int) < (k : Int) := by omega
  have Hquo : (isB l j 34 || isB l j 39) = false := by rw [h34, h39]; rfl
  have Hnum : numAt l j = false := hnu
  have Hcdc : cdcB l j = false := by unfold cdcB; rw [h62]; simp
  have Hname : nameAt l j = true := hna
  have hN : Hid (nextF l k = calledF l j) := Lib.hid (by
    unfold nextF tokAt
    rw [hj]
    rw [if_neg (show ¬ (l.length ≤ j) from by rw [hlen]; omega), if_neg (show ¬ (spB l j = true) from by rw [hsp]; decide), if_neg (show ¬ ((isB l j 34 || isB l j 39) = true) from by rw [Hquo]; decide), if_neg (show ¬ (numAt l j = true) from by rw [Hnum]; decide), if_neg (show ¬ (cdcB l j = true) from by rw [Hcdc]; decide), if_pos (show nameAt l j = true from Hname)])
  have HP := Lib.hid h
  generalize nextF l k = T at *
  go_enter Try.func32, Try.ntmps32
  go_wp2_with fail
  generalize hW1 : w.alloc (.cells [.int .i64 0, .int .i64 0, .int .i64 0, .string ⟨#[]⟩, .string ⟨#[]⟩, .bool false].toArray 52) = w1 at *
  have hz1 : w1.heap.size = w.heap.size + 1 := by rw [← hW1]; simp
  have hb1 : Below w.heap.size w w1 := by rw [← hW1]; exact (Below.refl _ w).alloc (Nat.le_refl _) _
  have B1 : Blk w1 w.heap.size zeroTkR 52 := by rw [← hW1]; exact Blk.alloc _ _
  have hS := HP.out.later hb1
  clear hW1 h
  have fb := rbehind_any (k : Int) k hS rfl hk
  rw [hj] at fb
  obtain ⟨_, _, e0, hc⟩ := hS.cell j hjn
  cases e0
  have hch := chA_ch hS.pre j
  have hjn' : ¬ (n : Int) ≤ (j : Int) := by omega
  have fs := fun w => rspace_any (chA l j) w hch
  rw [show spaceB (chA l j) = false from hsp] at fs
  have q34 : (chA l j == 34) = false := h34
  have q39 : (chA l j == 39) = false := h39
  have fn := rnumAt_any (j : Int) j hS rfl (by omega)
  rw [hnu] at fn
  have fm := rnameAt_any (j : Int) j hS rfl (by omega)
  rw [hna] at fm
  have q45 : (chA l j == 45) = true := h45
  have fd1 := ris_any ((j : Int) + 1) (j + 1) 45 hS (by omega) (by decide)
  rw [h45b] at fd1
  have fd2 := ris_any ((j : Int) + 2) (j + 2) 62 hS (by omega) (by decide)
  rw [h62] at fd2
  have fz := rcalled_any (j : Int) j hS rfl hjn
  generalize calledF l j = U at *
  clear hsp hj h34 h39 hnu Hquo Hnum Hcdc h45 h45b h62 hna Hname
  have r0 := B1.cell 0 _ rfl
  have r1 := B1.cell 1 _ rfl
  have r2 := B1.cell 2 _ rfl
  have r3 := B1.cell 3 _ rfl
  have r4 := B1.cell 4 _ rfl
  have r5 := B1.cell 5 _ rfl
  have zr0 := B1.frozen 0
  have zr1 := B1.frozen 1
  have zr2 := B1.frozen 2
  have zr3 := B1.frozen 3
  have zr4 := B1.frozen 4
  have zr5 := B1.frozen 5
  generalize chA l j = c at *
  go_wp2_with ((first | (go_at_call 47; with_reducible refine fb.mono ?_) | (go_at_call 48; with_reducible refine (fs _).mono ?_) | (go_at_call 51; with_reducible refine fn.mono ?_) | (go_at_call 53; with_reducible refine fd1.mono ?_) | (go_at_call 53; with_reducible refine fd2.mono ?_) | (go_at_call 54; with_reducible refine fm.mono ?_)); rintro e wq ⟨rfl, hwq⟩; replace hwq := hwq.symm; subst hwq)
  refine fz.mono ?_
  rintro e w2 ⟨rfl, hb2⟩
  have B2 := B1.later hb2 (by omega)
  have hbw2 := hb1.trans (hb2.mono (by omega))
  clear r0 r1 r2 r3 r4 r5 zr0 zr1 zr2 zr3 zr4 zr5 hS
  unfold tkV tkCells
  have r0 := B2.cell 0 _ rfl
  have r1 := B2.cell 1 _ rfl
  have r2 := B2.cell 2 _ rfl
  have r3 := B2.cell 3 _ rfl
  have r4 := B2.cell 4 _ rfl
  have r5 := B2.cell 5 _ rfl
  have zr0 := B2.frozen 0
  have zr1 := B2.frozen 1
  have zr2 := B2.frozen 2
  have zr3 := B2.frozen 3
  have zr4 := B2.frozen 4
  have zr5 := B2.frozen 5
  go_wp2
  refine bodyPost_ret (v := .agg #[.int .i64 U.kind, .int .i64 U.frm, .int .i64 U.to, .string (strOfNums U.text), .string (strOfNums U.num), .bool U.whole]) (by simp [results, Try.results32, go_sem, r0, r1, r2, r3, r4, r5]) rfl ⟨by rw [hN.out]; rfl, ?_⟩
  exact below_set6R hbw2 (Nat.le_refl _) _ _ _ _ _ _
set_option maxRecDepth 100000 in
set_option maxHeartbeats 4000000 in
theorem rnx_cdo {b off n cap : Nat} {l : List Int} {w : World} (i : Int) (k : Nat) (h : Src w (some ⟨b, off, none⟩) n cap l) (hi : i = (k : Int)) (hk : k ≤ n) (j : Nat) (hj : behindF l k = j) (hjn : j < n) (hsp : spB l j = false) (h34 : isB l j 34 = false) (h39 : isB l j 39 = false) (hnu : numAt l j = false) (h45 : isB l j 45 = false) (hna : nameAt l j = false) (h60 : isB l j 60 = true) (h33 : isB l (j + 1) 33 = true) (g45 : isB l (j + 2) 45 = true) (g45b : isB l (j + 3) 45 = true) :
    Calls Try.prog 32 #[.slice (some ⟨b, off, none⟩) n cap, .int .i64 i] w (Told (tkV (nextF l k)) w) := by
  subst hi
  have hlen := h.len
  have hsm := h.small
  obtain ⟨hcap1, hcap2⟩ := h.cap
  have hkn : ¬ (n : Int) < (k : Int) := by omega
  have Hquo : (isB l j 34 || isB l j 39) = false := by rw [h34, h39]; rfl
  have Hnum : numAt l j = false := hnu
  have Hcdc : cdcB l j = false := by unfold cdcB; rw [h45]; rfl
  have Hname : nameAt l j = false := hna
  have Hcdo : cdoB l j = true := by unfold cdoB; rw [h60, h33, g45, g45b]; rfl
  have hN : Hid (nextF l k = ⟨14, j, j + 4, [], [], false⟩) := Lib.hid (by
    unfold nextF tokAt
    rw [hj]
    rw [if_neg (show ¬ (l.length ≤ j) from by rw [hlen]; omega), if_neg (show ¬ (spB l j = true) from by rw [hsp]; decide), if_neg (show ¬ ((isB l j 34 || isB l j 39) = true) from by rw [Hquo]; decide), if_neg (show ¬ (numAt l j = true) from by rw [Hnum]; decide), if_neg (show ¬ (cdcB l j = true) from by rw [Hcdc]; decide), if_neg (show ¬ (nameAt l j = true) from by rw [Hname]; decide), if_pos (show cdoB l j = true from Hcdo)])
  have HP := Lib.hid h
  generalize nextF l k = T at *
  go_enter Try.func32, Try.ntmps32
  go_wp2_with fail
  generalize hW1 : w.alloc (.cells [.int .i64 0, .int .i64 0, .int .i64 0, .string ⟨#[]⟩, .string ⟨#[]⟩, .bool false].toArray 52) = w1 at *
  have hz1 : w1.heap.size = w.heap.size + 1 := by rw [← hW1]; simp
  have hb1 : Below w.heap.size w w1 := by rw [← hW1]; exact (Below.refl _ w).alloc (Nat.le_refl _) _
  have B1 : Blk w1 w.heap.size zeroTkR 52 := by rw [← hW1]; exact Blk.alloc _ _
  have hS := HP.out.later hb1
  clear hW1 h
  have fb := rbehind_any (k : Int) k hS rfl hk
  rw [hj] at fb
  obtain ⟨_, _, e0, hc⟩ := hS.cell j hjn
  cases e0
  have hch := chA_ch hS.pre j
  have hjn' : ¬ (n : Int) ≤ (j : Int) := by omega
  have fs := fun w => rspace_any (chA l j) w hch
  rw [show spaceB (chA l j) = false from hsp] at fs
  have q34 : (chA l j == 34) = false := h34
  have q39 : (chA l j == 39) = false := h39
  have fn := rnumAt_any (j : Int) j hS rfl (by omega)
  rw [hnu] at fn
  have fm := rnameAt_any (j : Int) j hS rfl (by omega)
  rw [hna] at fm
  have q45 : (chA l j == 45) = false := h45
  have q60 : (chA l j == 60) = true := h60
  have fo1 := ris_any ((j : Int) + 1) (j + 1) 33 hS (by omega) (by decide)
  rw [h33] at fo1
  have fo2 := ris_any ((j : Int) + 2) (j + 2) 45 hS (by omega) (by decide)
  rw [g45] at fo2
  have fo3 := ris_any ((j : Int) + 3) (j + 3) 45 hS (by omega) (by decide)
  rw [g45b] at fo3
  clear hsp hj h34 h39 hnu Hquo Hnum Hcdc h45 hna Hname h60 h33 g45 g45b Hcdo
  have r0 := B1.cell 0 _ rfl
  have r1 := B1.cell 1 _ rfl
  have r2 := B1.cell 2 _ rfl
  have r3 := B1.cell 3 _ rfl
  have r4 := B1.cell 4 _ rfl
  have r5 := B1.cell 5 _ rfl
  have zr0 := B1.frozen 0
  have zr1 := B1.frozen 1
  have zr2 := B1.frozen 2
  have zr3 := B1.frozen 3
  have zr4 := B1.frozen 4
  have zr5 := B1.frozen 5
  generalize chA l j = c at *
  go_wp2_with ((first | (go_at_call 47; with_reducible refine fb.mono ?_) | (go_at_call 48; with_reducible refine (fs _).mono ?_) | (go_at_call 51; with_reducible refine fn.mono ?_) | (go_at_call 54; with_reducible refine fm.mono ?_) | (go_at_call 53; with_reducible refine fo1.mono ?_) | (go_at_call 53; with_reducible refine fo2.mono ?_) | (go_at_call 53; with_reducible refine fo3.mono ?_)); rintro e wq ⟨rfl, hwq⟩; replace hwq := hwq.symm; subst hwq)
  refine bodyPost_ret (v := .agg #[.int .i64 14, .int .i64 j, .int .i64 (j + 4 : Nat), .string ⟨#[]⟩, .string ⟨#[]⟩, .bool false]) (by simp [results, Try.results32, go_sem, r0, r1, r2, r3, r4, r5]) rfl ⟨by rw [hN.out]; rfl, ?_⟩
  exact below_set6R hb1 (Nat.le_refl _) _ _ _ _ _ _
set_option maxRecDepth 100000 in
set_option maxHeartbeats 4000000 in
theorem rnx_at {b off n cap : Nat} {l : List Int} {w : World} (i : Int) (k : Nat) (h : Src w (some ⟨b, off, none⟩) n cap l) (hi : i = (k : Int)) (hk : k ≤ n) (j : Nat) (hj : behindF l k = j) (hjn : j < n) (hsp : spB l j = false) (h34 : isB l j 34 = false) (h39 : isB l j 39 = false) (hnu : numAt l j = false) (h45 : isB l j 45 = false) (hna : nameAt l j = false) (h60 : isB l j 60 = false) (h64 : isB l j 64 = true) (hnb : nameAt l (j + 1) = true) :
    Calls Try.prog 32 #[.slice (some ⟨b, off, none⟩) n cap, .int .i64 i] w (Told (tkV (nextF l k)) w) := by
  subst hi
  have hlen := h.len
  have hsm := h.small
  obtain ⟨hcap1, hcap2⟩ := h.cap
  have hkn : ¬ (n : Int) < (k : Int) := by omega
  have Hquo : (isB l j 34 || isB l j 39) = false := by rw [h34, h39]; rfl
  have Hnum : numAt l j = false := hnu
  have Hcdc : cdcB l j = false := by unfold cdcB; rw [h45]; rfl
  have Hname : nameAt l j = false := hna
  have Hcdo : cdoB l j = false := by unfold cdoB; rw [h60]; rfl
  have Hat : atSgB l j = true := by unfold atSgB; rw [h64, hnb]; rfl
  have hN : Hid (nextF l k = ⟨3, j, (namesF l (j + 1)).2, bytesF (namesF l (j + 1)).1, [], false⟩) := Lib.hid (by
    unfold nextF tokAt
    rw [hj]
    rw [if_neg (show ¬ (l.length ≤ j) from by rw [hlen]; omega), if_neg (show ¬ (spB l j = true) from by rw [hsp]; decide), if_neg (show ¬ ((isB l j 34 || isB l j 39) = true) from by rw [Hquo]; decide), if_neg (show ¬ (numAt l j = true) from by rw [Hnum]; decide), if_neg (show ¬ (cdcB l j = true) from by rw [Hcdc]; decide), if_neg (show ¬ (nameAt l j = true) from by rw [Hname]; decide), if_neg (show ¬ (cdoB l j = true) from by rw [Hcdo]; decide), if_pos (show atSgB l j = true from Hat)])
  have HP := Lib.hid h
  generalize nextF l k = T at *
  go_enter Try.func32, Try.ntmps32
  go_wp2_with fail
  generalize hW1 : w.alloc (.cells [.int .i64 0, .int .i64 0, .int .i64 0, .string ⟨#[]⟩, .string ⟨#[]⟩, .bool false].toArray 52) = w1 at *
  have hz1 : w1.heap.size = w.heap.size + 1 := by rw [← hW1]; simp
  have hb1 : Below w.heap.size w w1 := by rw [← hW1]; exact (Below.refl _ w).alloc (Nat.le_refl _) _
  have B1 : Blk w1 w.heap.size zeroTkR 52 := by rw [← hW1]; exact Blk.alloc _ _
  have hS := HP.out.later hb1
  clear hW1 h
  have fb := rbehind_any (k : Int) k hS rfl hk
  rw [hj] at fb
  obtain ⟨_, _, e0, hc⟩ := hS.cell j hjn
  cases e0
  have hch := chA_ch hS.pre j
  have hjn' : ¬ (n : Int) ≤ (j : Int) := by omega
  have fs := fun w => rspace_any (chA l j) w hch
  rw [show spaceB (chA l j) = false from hsp] at fs
  have q34 : (chA l j == 34) = false := h34
  have q39 : (chA l j == 39) = false := h39
  have fn := rnumAt_any (j : Int) j hS rfl (by omega)
  rw [hnu] at fn
  have fm := rnameAt_any (j : Int) j hS rfl (by omega)
  rw [hna] at fm
  have q45 : (chA l j == 45) = false := h45
  have q60 : (chA l j == 60) = false := h60
  have q64 : (chA l j == 64) = true := h64
  have fm2 := rnameAt_any ((j : Int) + 1) (j + 1) hS (by omega) (by omega)
  rw [hnb] at fm2
  clear hsp hj h34 h39 hnu Hquo Hnum Hcdc h45 hna Hname h60 h64 hnb Hcdo Hat
  have r0 := B1.cell 0 _ rfl
  have r1 := B1.cell 1 _ rfl
  have r2 := B1.cell 2 _ rfl
  have r3 := B1.cell 3 _ rfl
  have r4 := B1.cell 4 _ rfl
  have r5 := B1.cell 5 _ rfl
  have zr0 := B1.frozen 0
  have zr1 := B1.frozen 1
  have zr2 := B1.frozen 2
  have zr3 := B1.frozen 3
  have zr4 := B1.frozen 4
  have zr5 := B1.frozen 5
  generalize chA l j = c at *
  go_wp2_with ((first | (go_at_call 47; with_reducible refine fb.mono ?_) | (go_at_call 48; with_reducible refine (fs _).mono ?_) | (go_at_call 51; with_reducible refine fn.mono ?_) | (go_at_call 54; with_reducible refine fm.mono ?_) | (go_at_call 54; with_reducible refine fm2.mono ?_)); rintro e wq ⟨rfl, hwq⟩; replace hwq := hwq.symm; subst hwq)
  refine (rnames_any ((j : Int) + 1) (j + 1) hS (by omega) (by omega)).mono ?_
  rintro e w2 ⟨rfl, hb2⟩
  have B2 := B1.later hb2 (by omega)
  have hbw2 := hb1.trans (hb2.mono (by omega))
  have hS2 := hS.later hb2
  clear r0 r1 r2 r3 r4 r5 zr0 zr1 zr2 zr3 zr4 zr5 hS
  generalize bytesF (namesF l (j + 1)).1 = txt at *
  generalize (namesF l (j + 1)).2 = m at *
  have r0 := B2.cell 0 _ rfl
  have r1 := B2.cell 1 _ rfl
  have r2 := B2.cell 2 _ rfl
  have r3 := B2.cell 3 _ rfl
  have r4 := B2.cell 4 _ rfl
  have r5 := B2.cell 5 _ rfl
  have zr0 := B2.frozen 0
  have zr1 := B2.frozen 1
  have zr2 := B2.frozen 2
  have zr3 := B2.frozen 3
  have zr4 := B2.frozen 4
  have zr5 := B2.frozen 5
  go_wp2
  refine bodyPost_ret (v := .agg #[.int .i64 3, .int .i64 j, .int .i64 m, .string (strOfNums txt), .string ⟨#[]⟩, .bool false]) (by simp [results, Try.results32, go_sem, r0, r1, r2, r3, r4, r5]) rfl ⟨by rw [hN.out]; rfl, ?_⟩
  exact below_set6R hbw2 (Nat.le_refl _) _ _ _ _ _ _
set_option maxRecDepth 100000 in
set_option maxHeartbeats 4000000 in
theorem rnx_hash_n {b off n cap : Nat} {l : List Int} {w : World} (i : Int) (k : Nat) (h : Src w (some ⟨b, off, none⟩) n cap l) (hi : i = (k : Int)) (hk : k ≤ n) (j : Nat) (hj : behindF l k = j) (hjn : j < n) (hsp : spB l j = false) (h34 : isB l j 34 = false) (h39 : isB l j 39 = false) (hnu : numAt l j = false) (h45 : isB l j 45 = false) (hna : nameAt l j = false) (h60 : isB l j 60 = false) (h64 : isB l j 64 = false) (h35 : isB l j 35 = true) (hin : nmB l (j + 1) = true) :
    Calls Try.prog 32 #[.slice (some ⟨b, off, none⟩) n cap, .int .i64 i] w (Told (tkV (nextF l k)) w) := by
  subst hi
  have hlen := h.len
  have hsm := h.small
  obtain ⟨hcap1, hcap2⟩ := h.cap
  have hkn : ¬ (n : Int) < (k : Int) := by omega
  have Hquo : (isB l j 34 || isB l j 39) = false := by rw [h34, h39]; rfl
  have Hnum : numAt l j = false := hnu
  have Hcdc : cdcB l j = false := by unfold cdcB; rw [h45]; rfl
  have Hname : nameAt l j = false := hna
  have Hcdo : cdoB l j = false := by unfold cdoB; rw [h60]; rfl
  have Hat : atSgB l j = false := by unfold atSgB; rw [h64]; rfl
  have Hhash : hashB l j = true := by unfold hashB; rw [h35, hin]; rfl
  have hN : Hid (nextF l k = ⟨4, j, (namesF l (j + 1)).2, bytesF (namesF l (j + 1)).1, [], nameAt l (j + 1)⟩) := Lib.hid (by
    unfold nextF tokAt
    rw [hj]
    rw [if_neg (show ¬ (l.length ≤ j) from by rw [hlen]; omega), if_neg (show ¬ (spB l j = true) from by rw [hsp]; decide), if_neg (show ¬ ((isB l j 34 || isB l j 39) = true) from by rw [Hquo]; decide), if_neg (show ¬ (numAt l j = true) from by rw [Hnum]; decide), if_neg (show ¬ (cdcB l j = true) from by rw [Hcdc]; decide), if_neg (show ¬ (nameAt l j = true) from by rw [Hname]; decide), if_neg (show ¬ (cdoB l j = true) from by rw [Hcdo]; decide), if_neg (show ¬ (atSgB l j = true) from by rw [Hat]; decide), if_pos (show hashB l j = true from Hhash)])
  have HP := Lib.hid h
  generalize nextF l k = T at *
  go_enter Try.func32, Try.ntmps32
  go_wp2_with fail
  generalize hW1 : w.alloc (.cells [.int .i64 0, .int .i64 0, .int .i64 0, .string ⟨#[]⟩, .string ⟨#[]⟩, .bool false].toArray 52) = w1 at *
  have hz1 : w1.heap.size = w.heap.size + 1 := by rw [← hW1]; simp
  have hb1 : Below w.heap.size w w1 := by rw [← hW1]; exact (Below.refl _ w).alloc (Nat.le_refl _) _
  have B1 : Blk w1 w.heap.size zeroTkR 52 := by rw [← hW1]; exact Blk.alloc _ _
  have hS := HP.out.later hb1
  clear hW1 h
  have fb := rbehind_any (k : Int) k hS rfl hk
  rw [hj] at fb
  obtain ⟨_, _, e0, hc⟩ := hS.cell j hjn
  cases e0
  have hch := chA_ch hS.pre j
  have hjn' : ¬ (n : Int) ≤ (j : Int) := by omega
  have fs := fun w => rspace_any (chA l j) w hch
  rw [show spaceB (chA l j) = false from hsp] at fs
  have q34 : (chA l j == 34) = false := h34
  have q39 : (chA l j == 39) = false := h39
  have fn := rnumAt_any (j : Int) j hS rfl (by omega)
  rw [hnu] at fn
  have fm := rnameAt_any (j : Int) j hS rfl (by omega)
  rw [hna] at fm
  have q45 : (chA l j == 45) = false := h45
  have q60 : (chA l j == 60) = false := h60
  have q64 : (chA l j == 64) = false := h64
  have q35 : (chA l j == 35) = true := h35
  have fi := rinnerAt ((j : Int) + 1) (j + 1) hS (by omega)
  rw [hin] at fi
  clear hsp hj h34 h39 hnu Hquo Hnum Hcdc h45 hna Hname h60 h64 h35 Hcdo Hat Hhash hin
  have r0 := B1.cell 0 _ rfl
  have r1 := B1.cell 1 _ rfl
  have r2 := B1.cell 2 _ rfl
  have r3 := B1.cell 3 _ rfl
  have r4 := B1.cell 4 _ rfl
  have r5 := B1.cell 5 _ rfl
  have zr0 := B1.frozen 0
  have zr1 := B1.frozen 1
  have zr2 := B1.frozen 2
  have zr3 := B1.frozen 3
  have zr4 := B1.frozen 4
  have zr5 := B1.frozen 5
  generalize chA l j = c at *
  go_wp2_with ((first | (go_at_call 47; with_reducible refine fb.mono ?_) | (go_at_call 48; with_reducible refine (fs _).mono ?_) | (go_at_call 51; with_reducible refine fn.mono ?_) | (go_at_call 54; with_reducible refine fm.mono ?_) | (go_at_call 57; with_reducible refine fi.mono ?_)); rintro e wq ⟨rfl, hwq⟩; replace hwq := hwq.symm; subst hwq)
  refine (rnames_any ((j : Int) + 1) (j + 1) hS (by omega) (by omega)).mono ?_
  rintro e w2 ⟨rfl, hb2⟩
  have B2 := B1.later hb2 (by omega)
  have hbw2 := hb1.trans (hb2.mono (by omega))
  have hS2 := hS.later hb2
  clear r0 r1 r2 r3 r4 r5 zr0 zr1 zr2 zr3 zr4 zr5 hS
  have fw := rnameAt_any ((j : Int) + 1) (j + 1) hS2 (by omega) (by omega)
  generalize bytesF (namesF l (j + 1)).1 = txt at *
  generalize (namesF l (j + 1)).2 = m at *
  generalize nameAt l (j + 1) = wh at *
  have r0 := B2.cell 0 _ rfl
  have r1 := B2.cell 1 _ rfl
  have r2 := B2.cell 2 _ rfl
  have r3 := B2.cell 3 _ rfl
  have r4 := B2.cell 4 _ rfl
  have r5 := B2.cell 5 _ rfl
  have zr0 := B2.frozen 0
  have zr1 := B2.frozen 1
  have zr2 := B2.frozen 2
  have zr3 := B2.frozen 3
  have zr4 := B2.frozen 4
  have zr5 := B2.frozen 5
  go_wp2_with fail
  refine fw.mono ?_
  rintro e wq ⟨rfl, hwq⟩; replace hwq := hwq.symm; subst hwq
  go_wp2
  refine bodyPost_ret (v := .agg #[.int .i64 4, .int .i64 j, .int .i64 m, .string (strOfNums txt), .string ⟨#[]⟩, .bool wh]) (by simp [results, Try.results32, go_sem, r0, r1, r2, r3, r4, r5]) rfl ⟨by rw [hN.out]; rfl, ?_⟩
  exact below_set6R hbw2 (Nat.le_refl _) _ _ _ _ _ _
set_option maxRecDepth 100000 in
set_option maxHeartbeats 4000000 in
theorem rnx_hash_e {b off n cap : Nat} {l : List Int} {w : World} (i : Int) (k : Nat) (h : Src w (some ⟨b, off, none⟩) n cap l) (hi : i = (k : Int)) (hk : k ≤ n) (j : Nat) (hj : behindF l k = j) (hjn : j < n) (hsp : spB l j = false) (h34 : isB l j 34 = false) (h39 : isB l j 39 = false) (hnu : numAt l j = false) (h45 : isB l j 45 = false) (hna : nameAt l j = false) (h60 : isB l j 60 = false) (h64 : isB l j 64 = false) (h35 : isB l j 35 = true) (hin : nmB l (j + 1) = false) (hes : escB l (j + 1) = true) :
    Calls Try.prog 32 #[.slice (some ⟨b, off, none⟩) n cap, .int .i64 i] w (Told (tkV (nextF l k)) w) := by
  subst hi
  have hlen := h.len
  have hsm := h.small
  obtain ⟨hcap1, hcap2⟩ := h.cap
  have hkn : ¬ (n : Int) < (k : Int) := by omega
  have Hquo : (isB l j 34 || isB l j 39) = false := by rw [h34, h39]; rfl
  have Hnum : numAt l j = false := hnu
  have Hcdc : cdcB l j = false := by unfold cdcB; rw [h45]; rfl
  have Hname : nameAt l j = false := hna
  have Hcdo : cdoB l j = false := by unfold cdoB; rw [h60]; rfl
  have Hat : atSgB l j = false := by unfold atSgB; rw [h64]; rfl
  have Hhash : hashB l j = true := by unfold hashB; rw [h35, hin, hes]; rfl
  have hN : Hid (nextF l k = ⟨4, j, (namesF l (j + 1)).2, bytesF (namesF l (j + 1)).1, [], nameAt l (j + 1)⟩) := Lib.hid (by
    unfold nextF tokAt
    rw [hj]
    rw [if_neg (show ¬ (l.length ≤ j) from by rw [hlen]; omega), if_neg (show ¬ (spB l j = true) from by rw [hsp]; decide), if_neg (show ¬ ((isB l j 34 || isB l j 39) = true) from by rw [Hquo]; decide), if_neg (show ¬ (numAt l j = true) from by rw [Hnum]; decide), if_neg (show ¬ (cdcB l j = true) from by rw [Hcdc]; decide), if_neg (show ¬ (nameAt l j = true) from by rw [Hname]; decide), if_neg (show ¬ (cdoB l j = true) from by rw [Hcdo]; decide), if_neg (show ¬ (atSgB l j = true) from by rw [Hat]; decide), if_pos (show hashB l j = true from Hhash)])
  have HP := Lib.hid h
  generalize nextF l k = T at *
  go_enter Try.func32, Try.ntmps32
  go_wp2_with fail
  generalize hW1 : w.alloc (.cells [.int .i64 0, .int .i64 0, .int .i64 0, .string ⟨#[]⟩, .string ⟨#[]⟩, .bool false].toArray 52) = w1 at *
  have hz1 : w1.heap.size = w.heap.size + 1 := by rw [← hW1]; simp
  have hb1 : Below w.heap.size w w1 := by rw [← hW1]; exact (Below.refl _ w).alloc (Nat.le_refl _) _
  have B1 : Blk w1 w.heap.size zeroTkR 52 := by rw [← hW1]; exact Blk.alloc _ _
  have hS := HP.out.later hb1
  clear hW1 h
  have fb := rbehind_any (k : Int) k hS rfl hk
  rw [hj] at fb
  obtain ⟨_, _, e0, hc⟩ := hS.cell j hjn
  cases e0
  have hch := chA_ch hS.pre j
  have hjn' : ¬ (n : Int) ≤ (j : Int) := by omega
  have fs := fun w => rspace_any (chA l j) w hch
  rw [show spaceB (chA l j) = false from hsp] at fs
  have q34 : (chA l j == 34) = false := h34
  have q39 : (chA l j == 39) = false := h39
  have fn := rnumAt_any (j : Int) j hS rfl (by omega)
  rw [hnu] at fn
  have fm := rnameAt_any (j : Int) j hS rfl (by omega)
  rw [hna] at fm
  have q45 : (chA l j == 45) = false := h45
  have q60 : (chA l j == 60) = false := h60
  have q64 : (chA l j == 64) = false := h64
  have q35 : (chA l j == 35) = true := h35
  have fi := rinnerAt ((j : Int) + 1) (j + 1) hS (by omega)
  rw [hin] at fi
  have fe := resc_any ((j : Int) + 1) (j + 1) hS (by omega) (by omega)
  rw [hes] at fe
  clear hsp hj h34 h39 hnu Hquo Hnum Hcdc h45 hna Hname h60 h64 h35 Hcdo Hat Hhash hin hes
  have r0 := B1.cell 0 _ rfl
  have r1 := B1.cell 1 _ rfl
  have r2 := B1.cell 2 _ rfl
  have r3 := B1.cell 3 _ rfl
  have r4 := B1.cell 4 _ rfl
  have r5 := B1.cell 5 _ rfl
  have zr0 := B1.frozen 0
  have zr1 := B1.frozen 1
  have zr2 := B1.frozen 2
  have zr3 := B1.frozen 3
  have zr4 := B1.frozen 4
  have zr5 := B1.frozen 5
  generalize chA l j = c at *
  go_wp2_with ((first | (go_at_call 47; with_reducible refine fb.mono ?_) | (go_at_call 48; with_reducible refine (fs _).mono ?_) | (go_at_call 51; with_reducible refine fn.mono ?_) | (go_at_call 54; with_reducible refine fm.mono ?_) | (go_at_call 57; with_reducible refine fi.mono ?_) | (go_at_call 58; with_reducible refine fe.mono ?_)); rintro e wq ⟨rfl, hwq⟩; replace hwq := hwq.symm; subst hwq)
  refine (rnames_any ((j : Int) + 1) (j + 1) hS (by omega) (by omega)).mono ?_
  rintro e w2 ⟨rfl, hb2⟩
  have B2 := B1.later hb2 (by omega)
  have hbw2 := hb1.trans (hb2.mono (by omega))
  have hS2 := hS.later hb2
  clear r0 r1 r2 r3 r4 r5 zr0 zr1 zr2 zr3 zr4 zr5 hS
  have fw := rnameAt_any ((j : Int) + 1) (j + 1) hS2 (by omega) (by omega)
  generalize bytesF (namesF l (j + 1)).1 = txt at *
  generalize (namesF l (j + 1)).2 = m at *
  generalize nameAt l (j + 1) = wh at *
  have r0 := B2.cell 0 _ rfl
  have r1 := B2.cell 1 _ rfl
  have r2 := B2.cell 2 _ rfl
  have r3 := B2.cell 3 _ rfl
  have r4 := B2.cell 4 _ rfl
  have r5 := B2.cell 5 _ rfl
  have zr0 := B2.frozen 0
  have zr1 := B2.frozen 1
  have zr2 := B2.frozen 2
  have zr3 := B2.frozen 3
  have zr4 := B2.frozen 4
  have zr5 := B2.frozen 5
  go_wp2_with fail
  refine fw.mono ?_
  rintro e wq ⟨rfl, hwq⟩; replace hwq := hwq.symm; subst hwq
  go_wp2
  refine bodyPost_ret (v := .agg #[.int .i64 4, .int .i64 j, .int .i64 m, .string (strOfNums txt), .string ⟨#[]⟩, .bool wh]) (by simp [results, Try.results32, go_sem, r0, r1, r2, r3, r4, r5]) rfl ⟨by rw [hN.out]; rfl, ?_⟩
  exact below_set6R hbw2 (Nat.le_refl _) _ _ _ _ _ _
end
end Go.Proofs.Ytelbjnanpmdnnaa
