/- Several texts of mine in one. -/
import Derived.Test.YtickcbmfboajiaaGreatDoorFM
import Derived.Test.YtickcbmfboajiaaGreatDoorFC
namespace Go.Proofs.YtickcbmfboajiaaGreatDoor
section
open Go.RowKit Go.Shelf
set_option linter.unusedVariables false
set_option linter.unusedSimpArgs false

section
variable {l : List Int} {k : Nat}
theorem tokZ_0 (hk : k < l.length) (hsp : spB l k = true) : tkZ (tokAt l k) = ⟨13, 0, spacesF l k, [], [], false⟩ := by
  unfold tokAt
  rw [if_neg (show ¬ (l.length ≤ k) from by omega), if_pos (show (spB l k) = true from hsp)]
  all_goals rfl
theorem tokZ_1 (hk : k < l.length) (hsp : spB l k = false) (hqd : (isB l k 34 || isB l k 39) = true) : tkZ (tokAt l k) = quoF l (chA l k) (k + 1) [] := by
  unfold tokAt
  rw [if_neg (show ¬ (l.length ≤ k) from by omega), if_neg (show ¬ ((spB l k) = true) from by rw [hsp]; decide), if_pos (show ((isB l k 34 || isB l k 39)) = true from hqd)]
  exact quotedGo_frm l (chA l k) k _ _ _
theorem tokZ_2 (hk : k < l.length) (hsp : spB l k = false) (hqd : (isB l k 34 || isB l k 39) = false) (hnu : numAt l k = true) : tkZ (tokAt l k) = tkZ (numericF l k) := by
  unfold tokAt
  rw [if_neg (show ¬ (l.length ≤ k) from by omega), if_neg (show ¬ ((spB l k) = true) from by rw [hsp]; decide), if_neg (show ¬ (((isB l k 34 || isB l k 39)) = true) from by rw [hqd]; decide), if_pos (show (numAt l k) = true from hnu)]
  all_goals rfl
theorem tokZ_3 (hk : k < l.length) (hsp : spB l k = false) (hqd : (isB l k 34 || isB l k 39) = false) (hnu : numAt l k = false) (hcd : cdcB l k = true) : tkZ (tokAt l k) = ⟨15, 0, k + 3, [], [], false⟩ := by
  unfold tokAt
  rw [if_neg (show ¬ (l.length ≤ k) from by omega), if_neg (show ¬ ((spB l k) = true) from by rw [hsp]; decide), if_neg (show ¬ (((isB l k 34 || isB l k 39)) = true) from by rw [hqd]; decide), if_neg (show ¬ ((numAt l k) = true) from by rw [hnu]; decide), if_pos (show (cdcB l k) = true from hcd)]
  all_goals rfl
theorem tokZ_4 (hk : k < l.length) (hsp : spB l k = false) (hqd : (isB l k 34 || isB l k 39) = false) (hnu : numAt l k = false) (hcd : cdcB l k = false) (hna : nameAt l k = true) : tkZ (tokAt l k) = tkZ (calledF l k) := by
  unfold tokAt
  rw [if_neg (show ¬ (l.length ≤ k) from by omega), if_neg (show ¬ ((spB l k) = true) from by rw [hsp]; decide), if_neg (show ¬ (((isB l k 34 || isB l k 39)) = true) from by rw [hqd]; decide), if_neg (show ¬ ((numAt l k) = true) from by rw [hnu]; decide), if_neg (show ¬ ((cdcB l k) = true) from by rw [hcd]; decide), if_pos (show (nameAt l k) = true from hna)]
  all_goals rfl
theorem tokZ_5 (hk : k < l.length) (hsp : spB l k = false) (hqd : (isB l k 34 || isB l k 39) = false) (hnu : numAt l k = false) (hcd : cdcB l k = false) (hna : nameAt l k = false) (hco : cdoB l k = true) : tkZ (tokAt l k) = ⟨14, 0, k + 4, [], [], false⟩ := by
  unfold tokAt
  rw [if_neg (show ¬ (l.length ≤ k) from by omega), if_neg (show ¬ ((spB l k) = true) from by rw [hsp]; decide), if_neg (show ¬ (((isB l k 34 || isB l k 39)) = true) from by rw [hqd]; decide), if_neg (show ¬ ((numAt l k) = true) from by rw [hnu]; decide), if_neg (show ¬ ((cdcB l k) = true) from by rw [hcd]; decide), if_neg (show ¬ ((nameAt l k) = true) from by rw [hna]; decide), if_pos (show (cdoB l k) = true from hco)]
  all_goals rfl
theorem tokZ_6 (hk : k < l.length) (hsp : spB l k = false) (hqd : (isB l k 34 || isB l k 39) = false) (hnu : numAt l k = false) (hcd : cdcB l k = false) (hna : nameAt l k = false) (hco : cdoB l k = false) (hat : atSgB l k = true) : tkZ (tokAt l k) = ⟨3, 0, (namesF l (k + 1)).2, bytesF (namesF l (k + 1)).1, [], false⟩ := by
  unfold tokAt
  rw [if_neg (show ¬ (l.length ≤ k) from by omega), if_neg (show ¬ ((spB l k) = true) from by rw [hsp]; decide), if_neg (show ¬ (((isB l k 34 || isB l k 39)) = true) from by rw [hqd]; decide), if_neg (show ¬ ((numAt l k) = true) from by rw [hnu]; decide), if_neg (show ¬ ((cdcB l k) = true) from by rw [hcd]; decide), if_neg (show ¬ ((nameAt l k) = true) from by rw [hna]; decide), if_neg (show ¬ ((cdoB l k) = true) from by rw [hco]; decide), if_pos (show (atSgB l k) = true from hat)]
  all_goals rfl
theorem tokZ_7 (hk : k < l.length) (hsp : spB l k = false) (hqd : (isB l k 34 || isB l k 39) = false) (hnu : numAt l k = false) (hcd : cdcB l k = false) (hna : nameAt l k = false) (hco : cdoB l k = false) (hat : atSgB l k = false) (hha : hashB l k = true) : tkZ (tokAt l k) = ⟨4, 0, (namesF l (k + 1)).2, bytesF (namesF l (k + 1)).1, [], nameAt l (k + 1)⟩ := by
  unfold tokAt
  rw [if_neg (show ¬ (l.length ≤ k) from by omega), if_neg (show ¬ ((spB l k) = true) from by rw [hsp]; decide), if_neg (show ¬ (((isB l k 34 || isB l k 39)) = true) from by rw [hqd]; decide), if_neg (show ¬ ((numAt l k) = true) from by rw [hnu]; decide), if_neg (show ¬ ((cdcB l k) = true) from by rw [hcd]; decide), if_neg (show ¬ ((nameAt l k) = true) from by rw [hna]; decide), if_neg (show ¬ ((cdoB l k) = true) from by rw [hco]; decide), if_neg (show ¬ ((atSgB l k) = true) from by rw [hat]; decide), if_pos (show (hashB l k) = true from hha)]
  all_goals rfl
theorem tokZ_8 (hk : k < l.length) (hsp : spB l k = false) (hqd : (isB l k 34 || isB l k 39) = false) (hnu : numAt l k = false) (hcd : cdcB l k = false) (hna : nameAt l k = false) (hco : cdoB l k = false) (hat : atSgB l k = false) (hha : hashB l k = false) : tkZ (tokAt l k) = signF l k := by
  unfold tokAt
  rw [if_neg (show ¬ (l.length ≤ k) from by omega), if_neg (show ¬ ((spB l k) = true) from by rw [hsp]; decide), if_neg (show ¬ (((isB l k 34 || isB l k 39)) = true) from by rw [hqd]; decide), if_neg (show ¬ ((numAt l k) = true) from by rw [hnu]; decide), if_neg (show ¬ ((cdcB l k) = true) from by rw [hcd]; decide), if_neg (show ¬ ((nameAt l k) = true) from by rw [hna]; decide), if_neg (show ¬ ((cdoB l k) = true) from by rw [hco]; decide), if_neg (show ¬ ((atSgB l k) = true) from by rw [hat]; decide), if_neg (show ¬ ((hashB l k) = true) from by rw [hha]; decide)]
  unfold signF
  split <;> rfl
end
theorem asc_cdc : Asc ⟨#[45, 45, 62]⟩ := ⟨by decide, by decide⟩
theorem asc_cdo : Asc ⟨#[60, 33, 45, 45]⟩ := ⟨by decide, by decide⟩
theorem beg_cdc (l : List Int) (k : Nat) : begB l k (ascI ⟨#[45, 45, 62]⟩) = cdcB l k := by
  show (isB l k 45 && (isB l (k + 1) 45 && (isB l (k + 1 + 1) 62 && true))) = _
  unfold cdcB
  rw [Bool.and_true, Bool.and_assoc]
theorem beg_cdo (l : List Int) (k : Nat) : begB l k (ascI ⟨#[60, 33, 45, 45]⟩) = cdoB l k := by
  show (isB l k 60 && (isB l (k + 1) 33 && (isB l (k + 1 + 1) 45 && (isB l (k + 1 + 1 + 1) 45 && true)))) = _
  unfold cdoB
  rw [Bool.and_true, Bool.and_assoc, Bool.and_assoc]

set_option maxRecDepth 100000 in
set_option maxHeartbeats 8000000 in
theorem read_any3 {a : Option Addr} {n cap : Nat} {l : List Int} {w : World} (i : Int) (k : Nat) (h : Src w a n cap l) (hT : TkW w) (hi : i = (k : Int)) (hk : k < n) :
    Calls Tryz.prog 43 #[.slice a n cap, .int .i64 i] w (Told (tkV (tkZ (tokAt l k))) w) := by
  subst hi
  have hsm := h.small
  have HK := Lib.hid (show k < l.length from by rw [h.len]; exact hk)
  have HL := Lib.hid h.len
  have HP := Lib.hid h
  have HT := Lib.hid hT
  obtain ⟨b, off, rfl, hc0⟩ := h.cell k hk
  have hc : ∀ o, (w.alloc o).cell? ⟨b, off + k, none⟩ = some (.int .i64 (chA l k)) := fun o => ((Below.refl _ w).alloc (Nat.le_refl _) o).cell (p := ⟨b, off + k, none⟩) (World.block_lt_of_cell? w _ hc0) |>.trans hc0
  have hW0 : ∃ W0, W0 = w.alloc (.cells #[.int .i64 0, .int .i64 0, .int .i64 0, .string ⟨#[]⟩, .string ⟨#[]⟩, .bool false] 32) := ⟨_, rfl⟩
  obtain ⟨W0, hW0⟩ := hW0
  have hb0 : Below w.heap.size w W0 := by rw [hW0]; exact (Below.refl _ w).alloc (Nat.le_refl _) _
  have HB0 := Lib.hid (show Blk W0 w.heap.size zeroTk 32 from by rw [hW0]; exact Blk.alloc _ _)
  have HW := Lib.hid hb0
  have HW0 := Lib.hid hW0
  have f0 := fun w => space_any (chA l k) w (chA_ch h.pre k)
  have hq34 : (chA l k == 34) = isB l k 34 := by unfold isB; rfl
  have hq39 : (chA l k == 39) = isB l k 39 := by unfold isB; rfl
  have hq64 : (chA l k == 64) = isB l k 64 := by unfold isB; rfl
  have hq35 : (chA l k == 35) = isB l k 35 := by unfold isB; rfl
  have hS := fun {w' : World} (hb : Below w.heap.size w w') => h.later hb
  have cBl := passBlanks_any (k : Int) k (hS hb0) rfl (by omega)
  have cQ := quotedC_any (k : Int) k (hS hb0) (hT.mx.later hb0) rfl hk
  have cSN := startsNumber_any (k : Int) k (hS hb0) rfl (by omega)
  have cNu := numericC_any (k : Int) k (hS hb0) (hT.mx.later hb0) rfl hk
  have cB1 := begins_any (k : Int) k ⟨#[45, 45, 62]⟩ (hS hb0) rfl (by omega) asc_cdc
  rw [beg_cdc] at cB1
  have cNa := fun (w' : World) (hb : Below w.heap.size w w') => startsName_any (k : Int) k (hS hb) rfl (by omega)
  have cNd := fun (w' : World) (hb : Below w.heap.size w w') => named_any (k : Int) k (hS hb) (hT.mx.later hb) rfl hk
  have cB2 := fun (w' : World) (hb : Below w.heap.size w w') => begins_any (k : Int) k ⟨#[60, 33, 45, 45]⟩ (hS hb) rfl (by omega) asc_cdo
  simp only [beg_cdo] at cB2
  have cN1 := fun (w' : World) (hb : Below w.heap.size w w') => startsName_any ((k : Int) + 1) (k + 1) (hS hb) (by omega) (by omega)
  have cH1 := fun (w' : World) (hb : Below w.heap.size w w') => hasName_any ((k : Int) + 1) (k + 1) (hS hb) (by omega) (by omega)
  have cR1 := fun (w' : World) (hb : Below w.heap.size w w') => readName_any ((k : Int) + 1) (k + 1) (hS hb) (hT.mx.later hb) (by omega) (by omega)
  have cSg := fun (w' : World) (hb : Below w.heap.size w w') => sign_any (k : Int) k (hS hb) (hT.later hb) rfl hk
  have CNA := Lib.hid cNa
  have CND := Lib.hid cNd
  have CB2 := Lib.hid cB2
  have CN1 := Lib.hid cN1
  have CH1 := Lib.hid cH1
  have CR1 := Lib.hid cR1
  have CSG := Lib.hid cSg
  have HC := Lib.hid hc
  clear h hT hc0 hc cNa cNd cB2 cN1 cH1 cR1 cSg hS hb0 hW0
  generalize hR : tkZ (tokAt l k) = R
  have hRR := Lib.hid hR
  clear hR
  have hcc := HC.out
  rcases hsp : spB l k with _ | _
  rotate_left
  · have hsp' : spaceB (chA l k) = true := hsp
    have e := Lib.hid (show (⟨13, 0, spacesF l k, [], [], false⟩ : Tk) = R from by rw [← hRR.out]; exact (tokZ_0 HK.out hsp).symm)
    rw [hsp'] at f0
    generalize spacesF l k = s at *
    have r0 := HB0.out.cell 0 _ rfl
    have r1 := HB0.out.cell 1 _ rfl
    have r2 := HB0.out.cell 2 _ rfl
    have r3 := HB0.out.cell 3 _ rfl
    have r4 := HB0.out.cell 4 _ rfl
    have r5 := HB0.out.cell 5 _ rfl
    have q0 := HB0.out.frozen 0
    have q1 := HB0.out.frozen 1
    have q2 := HB0.out.frozen 2
    have q3 := HB0.out.frozen 3
    have q4 := HB0.out.frozen 4
    have q5 := HB0.out.frozen 5
    generalize chA l k = z at *
    go_enter Tryz.func43, Tryz.ntmps43
    go_wp2_with fail
    rw [show w.alloc (Obj.cells #[.int .i64 0, .int .i64 0, .int .i64 0, .string ⟨#[]⟩, .string ⟨#[]⟩, .bool false] 32) = W0 from HW0.out.symm]
    refine (f0 _).mono ?_
    rintro e w' ⟨rfl, hw'⟩; replace hw' := hw'.symm; subst hw'
    clear hcc f0
    go_wp2_with (first
      | (go_at_call 85; (with_reducible refine cBl.mono ?_); rintro e w' ⟨rfl, hw'⟩; replace hw' := hw'.symm; subst hw'))
    refine bodyPost_ret (v := .agg #[.int .i64 13, .int .i64 0, .int .i64 s, .string ⟨#[]⟩, .string ⟨#[]⟩, .bool false]) (by simp [results, Tryz.results43, go_sem, r0, r1, r2, r3, r4, r5]) rfl ⟨by rw [← e.out]; rfl, ?_⟩
    exact below_set6 HW.out (Nat.le_refl _) _ _ _ _ _ _
  have hsp' : spaceB (chA l k) = false := hsp
  rw [hsp'] at f0
  rcases hqd : (isB l k 34 || isB l k 39) with _ | _
  rotate_left
  · have e := Lib.hid (show (quoF l (chA l k) (k + 1) [] : Tk) = R from by rw [← hRR.out]; exact (tokZ_1 HK.out hsp hqd).symm)
    rw [e.out] at cQ
    have hk3 : isB l k 34 = true ∨ (isB l k 34 = false ∧ isB l k 39 = true) := by
      revert hqd; cases isB l k 34 <;> cases isB l k 39 <;> simp
    clear hqd hsp hsp' e hq64 hq35
    generalize isB l k 34 = p at *
    generalize isB l k 39 = q at *
    generalize chA l k = z at *
    rcases hk3 with rfl | ⟨rfl, rfl⟩
    all_goals
      go_enter Tryz.func43, Tryz.ntmps43
      go_wp2_with fail
      rw [show w.alloc (Obj.cells #[.int .i64 0, .int .i64 0, .int .i64 0, .string ⟨#[]⟩, .string ⟨#[]⟩, .bool false] 32) = W0 from HW0.out.symm]
      refine (f0 _).mono ?_
      rintro e w' ⟨rfl, hw'⟩; replace hw' := hw'.symm; subst hw'
      clear hcc f0
      go_wp2_with fail
      refine cQ.mono ?_
      rintro e w1 ⟨rfl, hbz⟩
      have hBz := HB0.out.later hbz HB0.out.lt
      have hblz := HW.out.trans (hbz.mono HW.out.size)
      have r0 := hBz.cell 0 _ rfl
      have r1 := hBz.cell 1 _ rfl
      have r2 := hBz.cell 2 _ rfl
      have r3 := hBz.cell 3 _ rfl
      have r4 := hBz.cell 4 _ rfl
      have r5 := hBz.cell 5 _ rfl
      have q0 := hBz.frozen 0
      have q1 := hBz.frozen 1
      have q2 := hBz.frozen 2
      have q3 := hBz.frozen 3
      have q4 := hBz.frozen 4
      have q5 := hBz.frozen 5
      clear hbz
      obtain ⟨kd, fr, to_, tx, nm, wh⟩ := R
      unfold tkV tkCells
      go_wp2
      refine bodyPost_ret (v := tkV ⟨kd, fr, to_, tx, nm, wh⟩) (by simp [results, Tryz.results43, go_sem, tkV, tkCells, r0, r1, r2, r3, r4, r5]) rfl ⟨rfl, ?_⟩
      exact below_set6 hblz (Nat.le_refl _) _ _ _ _ _ _
  have hp34 : isB l k 34 = false := by revert hqd; cases isB l k 34 <;> simp
  have hp39 : isB l k 39 = false := by revert hqd; cases isB l k 39 <;> simp
  rw [hp34] at hq34
  rw [hp39] at hq39
  rcases hnu : numAt l k with _ | _
  rotate_left
  · have e := Lib.hid (show (tkZ (numericF l k) : Tk) = R from by rw [← hRR.out]; exact (tokZ_2 HK.out hsp hqd hnu).symm)
    rw [e.out] at cNu
    rw [hnu] at cSN
    clear hqd hsp hsp' hnu hp34 hp39 e
    generalize chA l k = z at *
    go_enter Tryz.func43, Tryz.ntmps43
    go_wp2_with fail
    rw [show w.alloc (Obj.cells #[.int .i64 0, .int .i64 0, .int .i64 0, .string ⟨#[]⟩, .string ⟨#[]⟩, .bool false] 32) = W0 from HW0.out.symm]
    refine (f0 _).mono ?_
    rintro e w' ⟨rfl, hw'⟩; replace hw' := hw'.symm; subst hw'
    clear hcc f0
    go_wp2_with (first
      | (go_at_call 87; (with_reducible refine cSN.mono ?_); rintro e w' ⟨rfl, hw'⟩; replace hw' := hw'.symm; subst hw'))
    refine cNu.mono ?_
    rintro e w1 ⟨rfl, hbz⟩
    have hBz := HB0.out.later hbz HB0.out.lt
    have hblz := HW.out.trans (hbz.mono HW.out.size)
    have r0 := hBz.cell 0 _ rfl
    have r1 := hBz.cell 1 _ rfl
    have r2 := hBz.cell 2 _ rfl
    have r3 := hBz.cell 3 _ rfl
    have r4 := hBz.cell 4 _ rfl
    have r5 := hBz.cell 5 _ rfl
    have q0 := hBz.frozen 0
    have q1 := hBz.frozen 1
    have q2 := hBz.frozen 2
    have q3 := hBz.frozen 3
    have q4 := hBz.frozen 4
    have q5 := hBz.frozen 5
    clear hbz
    obtain ⟨kd, fr, to_, tx, nm, wh⟩ := R
    unfold tkV tkCells
    go_wp2
    refine bodyPost_ret (v := tkV ⟨kd, fr, to_, tx, nm, wh⟩) (by simp [results, Tryz.results43, go_sem, tkV, tkCells, r0, r1, r2, r3, r4, r5]) rfl ⟨rfl, ?_⟩
    exact below_set6 hblz (Nat.le_refl _) _ _ _ _ _ _
  rw [hnu] at cSN
  rcases hcd : cdcB l k with _ | _
  rotate_left
  · have e := Lib.hid (show (⟨15, 0, k + 3, [], [], false⟩ : Tk) = R from by rw [← hRR.out]; exact (tokZ_3 HK.out hsp hqd hnu hcd).symm)
    rw [hcd] at cB1
    clear hqd hsp hsp' hnu hcd hp34 hp39
    generalize chA l k = z at *
    go_enter Tryz.func43, Tryz.ntmps43
    go_wp2_with fail
    rw [show w.alloc (Obj.cells #[.int .i64 0, .int .i64 0, .int .i64 0, .string ⟨#[]⟩, .string ⟨#[]⟩, .bool false] 32) = W0 from HW0.out.symm]
    refine (f0 _).mono ?_
    rintro e w' ⟨rfl, hw'⟩; replace hw' := hw'.symm; subst hw'
    clear hcc f0
    go_wp2_with (first
      | (go_at_call 87; (with_reducible refine cSN.mono ?_); rintro e w' ⟨rfl, hw'⟩; replace hw' := hw'.symm; subst hw')
      | (go_at_call 83; (with_reducible refine cB1.mono ?_); rintro e w1 ⟨rfl, hb1⟩; have hB1 := HB0.out.later hb1 HB0.out.lt; have hbl1 := HW.out.trans (hb1.mono HW.out.size); have r0 := hB1.cell 0 _ rfl; have r1 := hB1.cell 1 _ rfl; have r2 := hB1.cell 2 _ rfl; have r3 := hB1.cell 3 _ rfl; have r4 := hB1.cell 4 _ rfl; have r5 := hB1.cell 5 _ rfl; have q0 := hB1.frozen 0; have q1 := hB1.frozen 1; have q2 := hB1.frozen 2; have q3 := hB1.frozen 3; have q4 := hB1.frozen 4; have q5 := hB1.frozen 5))
    refine bodyPost_ret (v := .agg #[.int .i64 15, .int .i64 0, .int .i64 (k + 3 : Nat), .string ⟨#[]⟩, .string ⟨#[]⟩, .bool false]) (by simp [results, Tryz.results43, go_sem, r0, r1, r2, r3, r4, r5]) rfl ⟨by rw [← e.out]; rfl, ?_⟩
    exact below_set6 hbl1 (Nat.le_refl _) _ _ _ _ _ _
  rw [hcd] at cB1
  have cNA := CNA.out
  rcases hna : nameAt l k with _ | _
  rotate_left
  · have e := Lib.hid (show (tkZ (calledF l k) : Tk) = R from by rw [← hRR.out]; exact (tokZ_4 HK.out hsp hqd hnu hcd hna).symm)
    rw [hna] at cNA
    have cND := CND.out
    rw [e.out] at cND
    clear hqd hsp hsp' hnu hcd hna hp34 hp39 e
    generalize chA l k = z at *
    go_enter Tryz.func43, Tryz.ntmps43
    go_wp2_with fail
    rw [show w.alloc (Obj.cells #[.int .i64 0, .int .i64 0, .int .i64 0, .string ⟨#[]⟩, .string ⟨#[]⟩, .bool false] 32) = W0 from HW0.out.symm]
    refine (f0 _).mono ?_
    rintro e w' ⟨rfl, hw'⟩; replace hw' := hw'.symm; subst hw'
    clear hcc f0
    go_wp2_with (first
      | (go_at_call 87; (with_reducible refine cSN.mono ?_); rintro e w' ⟨rfl, hw'⟩; replace hw' := hw'.symm; subst hw')
      | (go_at_call 83; (with_reducible refine cB1.mono ?_); rintro e w1 ⟨rfl, hb1⟩; have hB1 := HB0.out.later hb1 HB0.out.lt; have hbl1 := HW.out.trans (hb1.mono HW.out.size))
      | (go_at_call 89; (with_reducible refine (cNA _ hbl1).mono ?_); rintro e w' ⟨rfl, hw'⟩; replace hw' := hw'.symm; subst hw'))
    refine (cND _ hbl1).mono ?_
    rintro e w2 ⟨rfl, hbz⟩
    have hBz := hB1.later hbz hB1.lt
    have hblz := hbl1.trans (hbz.mono hbl1.size)
    have r0 := hBz.cell 0 _ rfl
    have r1 := hBz.cell 1 _ rfl
    have r2 := hBz.cell 2 _ rfl
    have r3 := hBz.cell 3 _ rfl
    have r4 := hBz.cell 4 _ rfl
    have r5 := hBz.cell 5 _ rfl
    have q0 := hBz.frozen 0
    have q1 := hBz.frozen 1
    have q2 := hBz.frozen 2
    have q3 := hBz.frozen 3
    have q4 := hBz.frozen 4
    have q5 := hBz.frozen 5
    clear hbz
    obtain ⟨kd, fr, to_, tx, nm, wh⟩ := R
    unfold tkV tkCells
    go_wp2
    refine bodyPost_ret (v := tkV ⟨kd, fr, to_, tx, nm, wh⟩) (by simp [results, Tryz.results43, go_sem, tkV, tkCells, r0, r1, r2, r3, r4, r5]) rfl ⟨rfl, ?_⟩
    exact below_set6 hblz (Nat.le_refl _) _ _ _ _ _ _
  rw [hna] at cNA
  have cB2 := CB2.out
  rcases hco : cdoB l k with _ | _
  rotate_left
  · have e := Lib.hid (show (⟨14, 0, k + 4, [], [], false⟩ : Tk) = R from by rw [← hRR.out]; exact (tokZ_5 HK.out hsp hqd hnu hcd hna hco).symm)
    rw [hco] at cB2
    clear hqd hsp hsp' hnu hcd hna hco hp34 hp39
    generalize chA l k = z at *
    go_enter Tryz.func43, Tryz.ntmps43
    go_wp2_with fail
    rw [show w.alloc (Obj.cells #[.int .i64 0, .int .i64 0, .int .i64 0, .string ⟨#[]⟩, .string ⟨#[]⟩, .bool false] 32) = W0 from HW0.out.symm]
    refine (f0 _).mono ?_
    rintro e w' ⟨rfl, hw'⟩; replace hw' := hw'.symm; subst hw'
    clear hcc f0
    go_wp2_with (first
      | (go_at_call 87; (with_reducible refine cSN.mono ?_); rintro e w' ⟨rfl, hw'⟩; replace hw' := hw'.symm; subst hw')
      | (go_at_call 83; (with_reducible refine cB1.mono ?_); rintro e w1 ⟨rfl, hb1⟩; have hB1 := HB0.out.later hb1 HB0.out.lt; have hbl1 := HW.out.trans (hb1.mono HW.out.size))
      | (go_at_call 89; (with_reducible refine (cNA _ hbl1).mono ?_); rintro e w' ⟨rfl, hw'⟩; replace hw' := hw'.symm; subst hw')
      | (go_at_call 83; (with_reducible refine (cB2 _ hbl1).mono ?_); rintro e w2 ⟨rfl, hb2⟩; have hB2 := hB1.later hb2 hB1.lt; have hbl2 := hbl1.trans (hb2.mono hbl1.size); have r0 := hB2.cell 0 _ rfl; have r1 := hB2.cell 1 _ rfl; have r2 := hB2.cell 2 _ rfl; have r3 := hB2.cell 3 _ rfl; have r4 := hB2.cell 4 _ rfl; have r5 := hB2.cell 5 _ rfl; have q0 := hB2.frozen 0; have q1 := hB2.frozen 1; have q2 := hB2.frozen 2; have q3 := hB2.frozen 3; have q4 := hB2.frozen 4; have q5 := hB2.frozen 5))
    refine bodyPost_ret (v := .agg #[.int .i64 14, .int .i64 0, .int .i64 (k + 4 : Nat), .string ⟨#[]⟩, .string ⟨#[]⟩, .bool false]) (by simp [results, Tryz.results43, go_sem, r0, r1, r2, r3, r4, r5]) rfl ⟨by rw [← e.out]; rfl, ?_⟩
    exact below_set6 hbl2 (Nat.le_refl _) _ _ _ _ _ _
  rw [hco] at cB2
  have cN1 := CN1.out
  have cH1 := CH1.out
  have cR1 := CR1.out
  rcases hat : atSgB l k with _ | _
  rotate_left
  · have e := Lib.hid (show (⟨3, 0, (namesF l (k + 1)).2, bytesF (namesF l (k + 1)).1, [], false⟩ : Tk) = R from by rw [← hRR.out]; exact (tokZ_6 HK.out hsp hqd hnu hcd hna hco hat).symm)
    have h2 : isB l k 64 = true ∧ nameAt l (k + 1) = true := by unfold atSgB at hat; rwa [Bool.and_eq_true] at hat
    rw [h2.1] at hq64
    rw [h2.2] at cN1
    clear hqd hsp hsp' hnu hcd hna hco hat h2 hp34 hp39 hq35 cH1
    generalize bytesF (namesF l (k + 1)).1 = txt at *
    generalize (namesF l (k + 1)).2 = m at *
    generalize chA l k = z at *
    go_enter Tryz.func43, Tryz.ntmps43
    go_wp2_with fail
    rw [show w.alloc (Obj.cells #[.int .i64 0, .int .i64 0, .int .i64 0, .string ⟨#[]⟩, .string ⟨#[]⟩, .bool false] 32) = W0 from HW0.out.symm]
    refine (f0 _).mono ?_
    rintro e w' ⟨rfl, hw'⟩; replace hw' := hw'.symm; subst hw'
    clear hcc f0
    go_wp2_with (first
      | (go_at_call 87; (with_reducible refine cSN.mono ?_); rintro e w' ⟨rfl, hw'⟩; replace hw' := hw'.symm; subst hw')
      | (go_at_call 83; (with_reducible refine cB1.mono ?_); rintro e w1 ⟨rfl, hb1⟩; have hB1 := HB0.out.later hb1 HB0.out.lt; have hbl1 := HW.out.trans (hb1.mono HW.out.size))
      | (go_at_call 89; (with_reducible refine (cNA _ hbl1).mono ?_); rintro e w' ⟨rfl, hw'⟩; replace hw' := hw'.symm; subst hw')
      | (go_at_call 83; (with_reducible refine (cB2 _ hbl1).mono ?_); rintro e w2 ⟨rfl, hb2⟩; have hB2 := hB1.later hb2 hB1.lt; have hbl2 := hbl1.trans (hb2.mono hbl1.size))
      | (go_at_call 89; (with_reducible refine (cN1 _ hbl2).mono ?_); rintro e w' ⟨rfl, hw'⟩; replace hw' := hw'.symm; subst hw')
      | (go_at_call 91; (with_reducible refine (cR1 _ hbl2).mono ?_); rintro e w3 ⟨rfl, hb3⟩; have hB3 := hB2.later hb3 hB2.lt; have hbl3 := hbl2.trans (hb3.mono hbl2.size); have r0 := hB3.cell 0 _ rfl; have r1 := hB3.cell 1 _ rfl; have r2 := hB3.cell 2 _ rfl; have r3 := hB3.cell 3 _ rfl; have r4 := hB3.cell 4 _ rfl; have r5 := hB3.cell 5 _ rfl; have q0 := hB3.frozen 0; have q1 := hB3.frozen 1; have q2 := hB3.frozen 2; have q3 := hB3.frozen 3; have q4 := hB3.frozen 4; have q5 := hB3.frozen 5))
    refine bodyPost_ret (v := .agg #[.int .i64 3, .int .i64 0, .int .i64 (m : Nat), .string (strOfNums txt), .string ⟨#[]⟩, .bool false]) (by simp [results, Tryz.results43, go_sem, r0, r1, r2, r3, r4, r5]) rfl ⟨by rw [← e.out]; rfl, ?_⟩
    exact below_set6 hbl3 (Nat.le_refl _) _ _ _ _ _ _
  have hat2 : isB l k 64 = false ∨ (isB l k 64 = true ∧ nameAt l (k + 1) = false) := by
    unfold atSgB at hat
    revert hat; cases isB l k 64 <;> cases nameAt l (k + 1) <;> simp
  rcases hha : hashB l k with _ | _
  rotate_left
  · have e := Lib.hid (show (⟨4, 0, (namesF l (k + 1)).2, bytesF (namesF l (k + 1)).1, [], nameAt l (k + 1)⟩ : Tk) = R from by rw [← hRR.out]; exact (tokZ_7 HK.out hsp hqd hnu hcd hna hco hat hha).symm)
    have h2 : isB l k 35 = true ∧ (nmB l (k + 1) || escB l (k + 1)) = true := by unfold hashB at hha; rwa [Bool.and_eq_true] at hha
    rw [h2.1] at hq35
    rw [h2.2] at cH1
    clear hqd hsp hsp' hnu hcd hna hco hat h2 hp34 hp39 hha
    generalize bytesF (namesF l (k + 1)).1 = txt at *
    generalize (namesF l (k + 1)).2 = m at *
    generalize nameAt l (k + 1) = na at *
    generalize isB l k 64 = p64 at *
    generalize chA l k = z at *
    rcases hat2 with rfl | ⟨rfl, rfl⟩
    · go_enter Tryz.func43, Tryz.ntmps43
      go_wp2_with fail
      rw [show w.alloc (Obj.cells #[.int .i64 0, .int .i64 0, .int .i64 0, .string ⟨#[]⟩, .string ⟨#[]⟩, .bool false] 32) = W0 from HW0.out.symm]
      refine (f0 _).mono ?_
      rintro e w' ⟨rfl, hw'⟩; replace hw' := hw'.symm; subst hw'
      clear hcc f0
      go_wp2_with (first
        | (go_at_call 87; (with_reducible refine cSN.mono ?_); rintro e w' ⟨rfl, hw'⟩; replace hw' := hw'.symm; subst hw')
        | (go_at_call 83; (with_reducible refine cB1.mono ?_); rintro e w1 ⟨rfl, hb1⟩; have hB1 := HB0.out.later hb1 HB0.out.lt; have hbl1 := HW.out.trans (hb1.mono HW.out.size))
        | (go_at_call 89; (with_reducible refine (cNA _ hbl1).mono ?_); rintro e w' ⟨rfl, hw'⟩; replace hw' := hw'.symm; subst hw')
        | (go_at_call 83; (with_reducible refine (cB2 _ hbl1).mono ?_); rintro e w2 ⟨rfl, hb2⟩; have hB2 := hB1.later hb2 hB1.lt; have hbl2 := hbl1.trans (hb2.mono hbl1.size))
        | (go_at_call 92; (with_reducible refine (cH1 _ hbl2).mono ?_); rintro e w' ⟨rfl, hw'⟩; replace hw' := hw'.symm; subst hw')
        | (go_at_call 91; (with_reducible refine (cR1 _ hbl2).mono ?_); rintro e w3 ⟨rfl, hb3⟩; have hB3 := hB2.later hb3 hB2.lt; have hbl3 := hbl2.trans (hb3.mono hbl2.size); have r0 := hB3.cell 0 _ rfl; have r1 := hB3.cell 1 _ rfl; have r2 := hB3.cell 2 _ rfl; have r3 := hB3.cell 3 _ rfl; have r4 := hB3.cell 4 _ rfl; have r5 := hB3.cell 5 _ rfl; have q0 := hB3.frozen 0; have q1 := hB3.frozen 1; have q2 := hB3.frozen 2; have q3 := hB3.frozen 3; have q4 := hB3.frozen 4; have q5 := hB3.frozen 5)
        | (go_at_call 89; (with_reducible refine (cN1 _ hbl3).mono ?_); rintro e w' ⟨rfl, hw'⟩; replace hw' := hw'.symm; subst hw'))
      refine bodyPost_ret (v := .agg #[.int .i64 4, .int .i64 0, .int .i64 (m : Nat), .string (strOfNums txt), .string ⟨#[]⟩, .bool na]) (by simp [results, Tryz.results43, go_sem, r0, r1, r2, r3, r4, r5]) rfl ⟨by rw [← e.out]; rfl, ?_⟩
      exact below_set6 hbl3 (Nat.le_refl _) _ _ _ _ _ _
    · go_enter Tryz.func43, Tryz.ntmps43
      go_wp2_with fail
      rw [show w.alloc (Obj.cells #[.int .i64 0, .int .i64 0, .int .i64 0, .string ⟨#[]⟩, .string ⟨#[]⟩, .bool false] 32) = W0 from HW0.out.symm]
      refine (f0 _).mono ?_
      rintro e w' ⟨rfl, hw'⟩; replace hw' := hw'.symm; subst hw'
      clear hcc f0
      go_wp2_with (first
        | (go_at_call 87; (with_reducible refine cSN.mono ?_); rintro e w' ⟨rfl, hw'⟩; replace hw' := hw'.symm; subst hw')
        | (go_at_call 83; (with_reducible refine cB1.mono ?_); rintro e w1 ⟨rfl, hb1⟩; have hB1 := HB0.out.later hb1 HB0.out.lt; have hbl1 := HW.out.trans (hb1.mono HW.out.size))
        | (go_at_call 89; (with_reducible refine (cNA _ hbl1).mono ?_); rintro e w' ⟨rfl, hw'⟩; replace hw' := hw'.symm; subst hw')
        | (go_at_call 83; (with_reducible refine (cB2 _ hbl1).mono ?_); rintro e w2 ⟨rfl, hb2⟩; have hB2 := hB1.later hb2 hB1.lt; have hbl2 := hbl1.trans (hb2.mono hbl1.size))
        | (go_at_call 89; (with_reducible refine (cN1 _ hbl2).mono ?_); rintro e w' ⟨rfl, hw'⟩; replace hw' := hw'.symm; subst hw')
        | (go_at_call 92; (with_reducible refine (cH1 _ hbl2).mono ?_); rintro e w' ⟨rfl, hw'⟩; replace hw' := hw'.symm; subst hw')
        | (go_at_call 91; (with_reducible refine (cR1 _ hbl2).mono ?_); rintro e w3 ⟨rfl, hb3⟩; have hB3 := hB2.later hb3 hB2.lt; have hbl3 := hbl2.trans (hb3.mono hbl2.size); have r0 := hB3.cell 0 _ rfl; have r1 := hB3.cell 1 _ rfl; have r2 := hB3.cell 2 _ rfl; have r3 := hB3.cell 3 _ rfl; have r4 := hB3.cell 4 _ rfl; have r5 := hB3.cell 5 _ rfl; have q0 := hB3.frozen 0; have q1 := hB3.frozen 1; have q2 := hB3.frozen 2; have q3 := hB3.frozen 3; have q4 := hB3.frozen 4; have q5 := hB3.frozen 5)
        | (go_at_call 89; (with_reducible refine (cN1 _ hbl3).mono ?_); rintro e w' ⟨rfl, hw'⟩; replace hw' := hw'.symm; subst hw'))
      refine bodyPost_ret (v := .agg #[.int .i64 4, .int .i64 0, .int .i64 (m : Nat), .string (strOfNums txt), .string ⟨#[]⟩, .bool false]) (by simp [results, Tryz.results43, go_sem, r0, r1, r2, r3, r4, r5]) rfl ⟨by rw [← e.out]; rfl, ?_⟩
      exact below_set6 hbl3 (Nat.le_refl _) _ _ _ _ _ _
  have e := Lib.hid (show (signF l k : Tk) = R from by rw [← hRR.out]; exact (tokZ_8 HK.out hsp hqd hnu hcd hna hco hat hha).symm)
  have hha2 : isB l k 35 = false ∨ (isB l k 35 = true ∧ (nmB l (k + 1) || escB l (k + 1)) = false) := by
    unfold hashB at hha
    revert hha; cases isB l k 35 <;> cases (nmB l (k + 1) || escB l (k + 1)) <;> simp
  have cSG := CSG.out
  rw [e.out] at cSG
  clear hqd hsp hsp' hnu hcd hna hco hat hp34 hp39 hha e cR1
  generalize nameAt l (k + 1) = na at *
  generalize (nmB l (k + 1) || escB l (k + 1)) = hn at *
  generalize isB l k 64 = p64 at *
  generalize isB l k 35 = p35 at *
  generalize chA l k = z at *
  rcases hat2 with rfl | ⟨rfl, rfl⟩ <;> rcases hha2 with rfl | ⟨rfl, rfl⟩
  all_goals
    go_enter Tryz.func43, Tryz.ntmps43
    go_wp2_with fail
    rw [show w.alloc (Obj.cells #[.int .i64 0, .int .i64 0, .int .i64 0, .string ⟨#[]⟩, .string ⟨#[]⟩, .bool false] 32) = W0 from HW0.out.symm]
    refine (f0 _).mono ?_
    rintro e w' ⟨rfl, hw'⟩; replace hw' := hw'.symm; subst hw'
    clear hcc f0
    go_wp2_with (first
      | (go_at_call 87; (with_reducible refine cSN.mono ?_); rintro e w' ⟨rfl, hw'⟩; replace hw' := hw'.symm; subst hw')
      | (go_at_call 83; (with_reducible refine cB1.mono ?_); rintro e w1 ⟨rfl, hb1⟩; have hB1 := HB0.out.later hb1 HB0.out.lt; have hbl1 := HW.out.trans (hb1.mono HW.out.size))
      | (go_at_call 89; (with_reducible refine (cNA _ hbl1).mono ?_); rintro e w' ⟨rfl, hw'⟩; replace hw' := hw'.symm; subst hw')
      | (go_at_call 83; (with_reducible refine (cB2 _ hbl1).mono ?_); rintro e w2 ⟨rfl, hb2⟩; have hB2 := hB1.later hb2 hB1.lt; have hbl2 := hbl1.trans (hb2.mono hbl1.size))
      | (go_at_call 89; (with_reducible refine (cN1 _ hbl2).mono ?_); rintro e w' ⟨rfl, hw'⟩; replace hw' := hw'.symm; subst hw')
      | (go_at_call 92; (with_reducible refine (cH1 _ hbl2).mono ?_); rintro e w' ⟨rfl, hw'⟩; replace hw' := hw'.symm; subst hw'))
    refine (cSG _ hbl2).mono ?_
    rintro e w3 ⟨rfl, hbz⟩
    have hBz := hB2.later hbz hB2.lt
    have hblz := hbl2.trans (hbz.mono hbl2.size)
    have r0 := hBz.cell 0 _ rfl
    have r1 := hBz.cell 1 _ rfl
    have r2 := hBz.cell 2 _ rfl
    have r3 := hBz.cell 3 _ rfl
    have r4 := hBz.cell 4 _ rfl
    have r5 := hBz.cell 5 _ rfl
    have q0 := hBz.frozen 0
    have q1 := hBz.frozen 1
    have q2 := hBz.frozen 2
    have q3 := hBz.frozen 3
    have q4 := hBz.frozen 4
    have q5 := hBz.frozen 5
    clear hbz
    obtain ⟨kd, fr, to_, tx, nm, wh⟩ := R
    unfold tkV tkCells
    go_wp2
    refine bodyPost_ret (v := tkV ⟨kd, fr, to_, tx, nm, wh⟩) (by simp [results, Tryz.results43, go_sem, tkV, tkCells, r0, r1, r2, r3, r4, r5]) rfl ⟨rfl, ?_⟩
    exact below_set6 hblz (Nat.le_refl _) _ _ _ _ _ _
end

section
open Go.RowKit
set_option linter.unusedVariables false
set_option linter.unusedSimpArgs false

/-- Where a token ends, and where it begins. -/
def Bd (l : List Int) (frm j : Nat) (t : Tk) : Prop := t.frm = frm ∧ j ≤ t.to ∧ t.to ≤ l.length
theorem Bd.mono {l : List Int} {frm j j' : Nat} {t : Tk} (h : Bd l frm j t) (hj : j' ≤ j) : Bd l frm j' t := ⟨h.1, Nat.le_trans hj h.2.1, h.2.2⟩
theorem restGo_bd (l : List Int) (frm : Nat) : ∀ (f i : Nat), i ≤ l.length → Bd l frm i (restGo f l frm i)
  | 0, i, hi => ⟨rfl, hi, Nat.le_refl _⟩
  | f + 1, i, hi => by
    rw [restGo]
    by_cases h1 : l.length ≤ i
    · rw [if_pos h1]; exact ⟨rfl, hi, Nat.le_refl _⟩
    · rw [if_neg h1]
      by_cases h2 : isB l i 41 = true
      · rw [if_pos h2]; exact ⟨rfl, Nat.le_succ _, by show i + 1 ≤ _; omega⟩
      · rw [if_neg h2]
        by_cases h3 : escB l i = true
        · rw [if_pos h3]
          have := valueF_bd (lt_of_escB h3)
          exact (restGo_bd l frm f _ this.2).mono (by omega)
        · rw [if_neg h3]; exact (restGo_bd l frm f _ (by omega)).mono (by omega)
theorem urlGo_bd (l : List Int) (frm : Nat) : ∀ (f i : Nat) (out : List Int), i ≤ l.length → Bd l frm i (urlGo f l frm i out)
  | 0, i, out, hi => ⟨rfl, hi, Nat.le_refl _⟩
  | f + 1, i, out, hi => by
    have hs := (spacesGo_le l (l.length + 1) i)
    have hs1 : i ≤ spacesF l i := hs.1
    have hs2 : spacesF l i ≤ l.length := hs.2 hi
    rw [urlGo]
    by_cases h1 : l.length ≤ spacesF l i
    · rw [if_pos h1]; exact ⟨rfl, hi, Nat.le_refl _⟩
    · rw [if_neg h1]
      by_cases h2 : isB l (spacesF l i) 41 = true
      · rw [if_pos h2]; exact ⟨rfl, by show i ≤ _ + 1; omega, by show _ + 1 ≤ _; omega⟩
      · rw [if_neg h2]
        by_cases h3 : i < spacesF l i
        · rw [if_pos h3]; exact (restGo_bd l frm _ _ hs2).mono hs1
        · rw [if_neg h3]
          by_cases h4 : urlBad l i = true
          · rw [if_pos h4]; exact restGo_bd l frm _ _ hi
          · rw [if_neg h4]
            by_cases h5 : isB l i 92 = true
            · rw [if_pos h5]
              have := valueF_bd (l := l) (j := i) (by omega)
              exact (urlGo_bd l frm f _ _ this.2).mono (by omega)
            · rw [if_neg h5]; exact (urlGo_bd l frm f _ _ (by omega)).mono (by omega)
theorem quotedGo_bd (l : List Int) (mark : Int) (frm : Nat) : ∀ (f i : Nat) (out : List Int), i ≤ l.length → Bd l frm i (quotedGo f l mark frm i out)
  | 0, i, out, hi => ⟨rfl, Nat.le_refl _, hi⟩
  | f + 1, i, out, hi => by
    rw [quotedGo]
    by_cases h1 : l.length ≤ i
    · rw [if_pos h1]; exact ⟨rfl, Nat.le_refl _, hi⟩
    · rw [if_neg h1]
      by_cases h2 : isB l i mark = true
      · rw [if_pos h2]; exact ⟨rfl, Nat.le_succ _, by show i + 1 ≤ _; omega⟩
      · rw [if_neg h2]
        by_cases h3 : isB l i 10 = true
        · rw [if_pos h3]; exact ⟨rfl, Nat.le_refl _, hi⟩
        · rw [if_neg h3]
          by_cases h4 : (!isB l i 92) = true
          · rw [if_pos h4]; exact (quotedGo_bd l mark frm f _ _ (by omega)).mono (by omega)
          · rw [if_neg h4]
            by_cases h5 : l.length ≤ i + 1
            · rw [if_pos h5]; exact (quotedGo_bd l mark frm f _ _ (by omega)).mono (by omega)
            · rw [if_neg h5]
              by_cases h6 : isB l (i + 1) 10 = true
              · rw [if_pos h6]; exact (quotedGo_bd l mark frm f _ _ (by omega)).mono (by omega)
              · rw [if_neg h6]
                have := valueF_bd (l := l) (j := i) (by omega)
                exact (quotedGo_bd l mark frm f _ _ this.2).mono (by omega)
theorem numericF_bd {l : List Int} {j : Nat} (hj : j < l.length) (h : numAt l j = true) : Bd l j (j + 1) (numericF l j) := by
  have h1 := numberF_pos h
  have h2 := (numberF_le l j).2 (by omega)
  have h3 := namesF_le l (numberF l j).1
  unfold numericF
  by_cases q : nameAt l (numberF l j).1 = true
  · rw [if_pos q]; exact ⟨rfl, by show j + 1 ≤ (namesF l _).2; omega, h3.2 h2⟩
  · rw [if_neg q]
    by_cases q2 : isB l (numberF l j).1 37 = true
    · rw [if_pos q2]
      have := lt_of_isB q2 (by decide)
      exact ⟨rfl, by show j + 1 ≤ _ + 1; omega, by show _ + 1 ≤ _; omega⟩
    · rw [if_neg q2]; exact ⟨rfl, h1, h2⟩
theorem calledF_bd {l : List Int} {j : Nat} (hj : j < l.length) (h : nameAt l j = true) : Bd l j (j + 1) (calledF l j) := by
  have h1 := namesF_pos (nameAt_first h)
  have h2 := (namesF_le l j).2 (by omega)
  unfold calledF
  by_cases q : (!isB l (namesF l j).2 40) = true
  · rw [if_pos q]; exact ⟨rfl, h1, h2⟩
  · rw [if_neg q]
    have h40 : isB l (namesF l j).2 40 = true := by revert q; cases isB l (namesF l j).2 40 <;> simp
    have h4 := lt_of_isB h40 (by decide)
    by_cases q2 : (urlName (bytesF (namesF l j).1) && !isB l (spacesF l ((namesF l j).2 + 1)) 34 && !isB l (spacesF l ((namesF l j).2 + 1)) 39) = true
    · rw [if_pos q2]
      have hs := spacesGo_le l (l.length + 1) ((namesF l j).2 + 1)
      have hs1 : (namesF l j).2 + 1 ≤ spacesF l ((namesF l j).2 + 1) := hs.1
      exact (urlGo_bd l j _ _ _ (hs.2 (by omega))).mono (by omega)
    · rw [if_neg q2]; exact ⟨rfl, by show j + 1 ≤ _ + 1; omega, by show _ + 1 ≤ _; omega⟩
/-- Each token begins where it is looked for, and has a character. -/
theorem tokAt_bd {l : List Int} {k : Nat} (hk : k < l.length) : Bd l k (k + 1) (tokAt l k) := by
  unfold tokAt
  rw [if_neg (by omega)]
  by_cases h1 : spB l k = true
  · rw [if_pos h1]; exact ⟨rfl, spacesF_pos h1, spacesF_le l k (by omega)⟩
  rw [if_neg h1]
  by_cases h2 : (isB l k 34 || isB l k 39) = true
  · rw [if_pos h2]; exact quotedGo_bd l _ k _ _ _ hk
  rw [if_neg h2]
  by_cases h3 : numAt l k = true
  · rw [if_pos h3]; exact numericF_bd hk h3
  rw [if_neg h3]
  by_cases h4 : cdcB l k = true
  · rw [if_pos h4]
    have : isB l (k + 2) 62 = true := by unfold cdcB at h4; rw [Bool.and_eq_true] at h4; exact h4.2
    have := lt_of_isB this (by decide)
    exact ⟨rfl, by show k + 1 ≤ k + 3; omega, by show k + 3 ≤ _; omega⟩
  rw [if_neg h4]
  by_cases h5 : nameAt l k = true
  · rw [if_pos h5]; exact calledF_bd hk h5
  rw [if_neg h5]
  by_cases h6 : cdoB l k = true
  · rw [if_pos h6]
    have : isB l (k + 3) 45 = true := by unfold cdoB at h6; rw [Bool.and_eq_true] at h6; exact h6.2
    have := lt_of_isB this (by decide)
    exact ⟨rfl, by show k + 1 ≤ k + 4; omega, by show k + 4 ≤ _; omega⟩
  rw [if_neg h6]
  have hn := namesF_le l (k + 1)
  by_cases h7 : atSgB l k = true
  · rw [if_pos h7]; exact ⟨rfl, hn.1, hn.2 (by omega)⟩
  rw [if_neg h7]
  by_cases h8 : hashB l k = true
  · rw [if_pos h8]; exact ⟨rfl, hn.1, hn.2 (by omega)⟩
  rw [if_neg h8]
  by_cases h9 : signKind (chA l k) = 9
  · rw [if_pos h9]; exact ⟨rfl, Nat.le_refl _, hk⟩
  · rw [if_neg h9]; exact ⟨rfl, Nat.le_refl _, hk⟩
theorem behindGo_le (l : List Int) : ∀ (f j : Nat), j ≤ l.length → j ≤ behindGo f l j ∧ behindGo f l j ≤ l.length
  | 0, j, h => ⟨Nat.le_refl _, h⟩
  | f + 1, j, h => by
    rw [behindGo]
    by_cases ho : openB l j = true
    · rw [if_pos ho]
      have h2 := openB_lt ho
      have hs := skipGo_ge l (l.length + 1) (j + 2) h2
      have := behindGo_le l f _ hs.2
      exact ⟨by omega, this.2⟩
    · rw [if_neg ho]; exact ⟨Nat.le_refl _, h⟩
theorem behindF_le {l : List Int} {j : Nat} (h : j ≤ l.length) : j ≤ behindF l j ∧ behindF l j ≤ l.length := behindGo_le l _ j h
theorem tokAt_end {l : List Int} {k : Nat} (hk : l.length ≤ k) : tokAt l k = ⟨0, l.length, l.length, [], [], false⟩ := by unfold tokAt; rw [if_pos hk]
/-- The next token: it is the end, or it has a character. -/
theorem nextF_bd {l : List Int} {j : Nat} (h : j ≤ l.length) : (nextF l j = ⟨0, l.length, l.length, [], [], false⟩ ∧ behindF l j = l.length) ∨ (behindF l j < l.length ∧ (nextF l j).frm = behindF l j ∧ j < (nextF l j).to ∧ (nextF l j).to ≤ l.length) := by
  obtain ⟨h1, h2⟩ := behindF_le h
  rcases Nat.lt_or_ge (behindF l j) l.length with hb | hb
  · have := tokAt_bd hb
    exact .inr ⟨hb, this.1, by have := this.2.1; unfold nextF; omega, this.2.2⟩
  · exact .inl ⟨tokAt_end hb, by omega⟩
theorem tk_frm {l : List Int} {j : Nat} (h : behindF l j < l.length) : { tkZ (tokAt l (behindF l j)) with frm := behindF l j } = nextF l j := by
  have := (tokAt_bd h).1
  unfold nextF tkZ
  generalize tokAt l (behindF l j) = t at *
  cases t
  simp at this
  subst this; rfl
end

section
open Go.RowKit Go.Shelf
set_option linter.unusedVariables false
set_option linter.unusedSimpArgs false

theorem blk_set6 {w : World} {p : Nat} {T : TypeId} {a0 a1 a2 a3 a4 a5 : Value} (h : Blk w p [a0, a1, a2, a3, a4, a5] T) (v0 v1 v2 v3 v4 v5 : Value) :
    Blk ((((((w.setCell ⟨p, 0, none⟩ v0).setCell ⟨p, 1, none⟩ v1).setCell ⟨p, 2, none⟩ v2).setCell ⟨p, 3, none⟩ v3).setCell ⟨p, 4, none⟩ v4).setCell ⟨p, 5, none⟩ v5) p [v0, v1, v2, v3, v4, v5] T :=
  (((((h.setCell 0 v0).setCell 1 v1).setCell 2 v2).setCell 3 v3).setCell 4 v4).setCell 5 v5

set_option maxRecDepth 100000 in
set_option maxHeartbeats 4000000 in
theorem next_any {a : Option Addr} {n cap : Nat} {l : List Int} {w : World} (i : Int) (k : Nat) (h : Src w a n cap l) (hT : TkW w) (hi : i = (k : Int)) (hk : k ≤ n) :
    Calls Tryz.prog 25 #[.slice a n cap, .int .i64 i] w (Told (tkV (nextF l k)) w) := by
  subst hi
  have hsm := h.small
  have HL := Lib.hid h.len
  have hbl := behindF_le (l := l) (j := k) (by rw [h.len]; exact hk)
  rw [h.len] at hbl
  obtain ⟨hbl1, hbl2⟩ := hbl
  have hfr := Lib.hid (fun hh : behindF l k < l.length => tk_frm (l := l) (j := k) hh)
  have hen := Lib.hid (fun hh : l.length ≤ behindF l k => tokAt_end (l := l) (k := behindF l k) hh)
  have hnx := Lib.hid (show nextF l k = tokAt l (behindF l k) from rfl)
  generalize hR : nextF l k = R at *
  clear hR
  have hW0 : ∃ W0, W0 = w.alloc (.cells #[.int .i64 0, .int .i64 0, .int .i64 0, .string ⟨#[]⟩, .string ⟨#[]⟩, .bool false] 32) := ⟨_, rfl⟩
  obtain ⟨W0, hW0⟩ := hW0
  have hb0 : Below w.heap.size w W0 := by rw [hW0]; exact (Below.refl _ w).alloc (Nat.le_refl _) _
  have HB0 := Lib.hid (show Blk W0 w.heap.size zeroTk 32 from by rw [hW0]; exact Blk.alloc _ _)
  have HP := Lib.hid h
  have HT := Lib.hid hT
  have cW := fun w => within_any (a := a) (n := n) (cap := cap) (w := w) (k : Int) k rfl (by omega) hsm
  rw [Nat.min_eq_left hk] at cW
  have cC := passComments_any (k : Int) k (h.later hb0) rfl hk
  have HBL := Lib.hid hb0
  have HW0 := Lib.hid hW0
  clear h hT hb0 hW0
  generalize behindF l k = j at *
  go_enter Tryz.func25, Tryz.ntmps25
  go_wp2_with fail
  rw [show w.alloc (Obj.cells #[.int .i64 0, .int .i64 0, .int .i64 0, .string ⟨#[]⟩, .string ⟨#[]⟩, .bool false] 32) = W0 from HW0.out.symm]
  refine (cW _).mono ?_
  rintro e w' ⟨rfl, hw'⟩; replace hw' := hw'.symm; subst hw'
  go_wp2_with fail
  refine cC.mono ?_
  rintro e w1 ⟨rfl, hb1⟩
  have hB1 := HB0.out.later hb1 HB0.out.lt
  have hbw1 := HBL.out.trans (hb1.mono HBL.out.size)
  clear cC hb1
  rcases Nat.lt_or_ge j n with hjn | hjn
  · have hq : ((j : Int) == (n : Int)) = false := beq_eq_false_iff_ne.2 (by omega)
    have e := Lib.hid (hfr.out (by rw [HL.out]; exact hjn))
    have cR := read_any3 (j : Int) j (HP.out.later hbw1) (HT.out.later hbw1) rfl hjn
    clear hfr hen hnx
    generalize tkZ (tokAt l j) = Z at *
    go_wp2_with fail
    refine cR.mono ?_
    rintro ee w2 ⟨rfl, hb2⟩
    have hB2 := hB1.later hb2 hB1.lt
    have hbw2 := hbw1.trans (hb2.mono hbw1.size)
    have hz2 := hB2.lt
    obtain ⟨kd, fr, to_, tx, nm, wh⟩ := Z
    unfold tkV tkCells
    clear cR hb2 hB1 hbw1
    have hne1 : ¬ w.heap.size = w2.heap.size := by omega
    have hne2 : ¬ w2.heap.size = w.heap.size := by omega
    have r0 := hB2.cell 0 _ rfl
    have r1 := hB2.cell 1 _ rfl
    have r2 := hB2.cell 2 _ rfl
    have r3 := hB2.cell 3 _ rfl
    have r4 := hB2.cell 4 _ rfl
    have r5 := hB2.cell 5 _ rfl
    have zr0 := hB2.frozen 0
    have zr1 := hB2.frozen 1
    have zr2 := hB2.frozen 2
    have zr3 := hB2.frozen 3
    have zr4 := hB2.frozen 4
    have zr5 := hB2.frozen 5
    have HBW := Lib.hid hbw2
    clear hbw2
    go_wp2
    have B6 := (blk_set6 hB2 (.int .i64 kd) (.int .i64 j) (.int .i64 to_) (.string (strOfNums tx)) (.string (strOfNums nm)) (.bool wh)).alloc_old (.cells #[.int .i64 kd, .int .i64 j, .int .i64 to_, .string (strOfNums tx), .string (strOfNums nm), .bool wh] 32)
    have b0 := B6.cell 0 _ rfl
    have b1 := B6.cell 1 _ rfl
    have b2 := B6.cell 2 _ rfl
    have b3 := B6.cell 3 _ rfl
    have b4 := B6.cell 4 _ rfl
    have b5 := B6.cell 5 _ rfl
    refine bodyPost_ret (v := .agg #[.int .i64 kd, .int .i64 j, .int .i64 to_, .string (strOfNums tx), .string (strOfNums nm), .bool wh]) (by simp [results, Tryz.results25, go_sem, b0, b1, b2, b3, b4, b5]) rfl ⟨by rw [← e.out]; rfl, ?_⟩
    exact (below_set6 HBW.out (Nat.le_refl _) _ _ _ _ _ _).alloc (by simpa using HBW.out.size) _
  · obtain rfl : j = n := by omega
    have hq : ((j : Int) == (j : Int)) = true := beq_self_eq_true _
    have e := Lib.hid (show (⟨0, j, j, [], [], false⟩ : Tk) = R from by rw [hnx.out, hen.out (by rw [HL.out]; exact Nat.le_refl _), HL.out])
    clear hfr hen hnx hjn
    have r0 := hB1.cell 0 _ rfl
    have r1 := hB1.cell 1 _ rfl
    have r2 := hB1.cell 2 _ rfl
    have r3 := hB1.cell 3 _ rfl
    have r4 := hB1.cell 4 _ rfl
    have r5 := hB1.cell 5 _ rfl
    have q0 := hB1.frozen 0
    have q1 := hB1.frozen 1
    have q2 := hB1.frozen 2
    have q3 := hB1.frozen 3
    have q4 := hB1.frozen 4
    have q5 := hB1.frozen 5
    go_wp2
    refine bodyPost_ret (v := .agg #[.int .i64 0, .int .i64 j, .int .i64 j, .string ⟨#[]⟩, .string ⟨#[]⟩, .bool false]) (by simp [results, Tryz.results25, go_sem, r0, r1, r2, r3, r4, r5]) rfl ⟨by rw [← e.out]; rfl, ?_⟩
    exact below_set6 hbw1 (Nat.le_refl _) _ _ _ _ _ _

set_option maxRecDepth 100000 in
set_option maxHeartbeats 4000000 in
theorem all_any {a : Option Addr} {n cap : Nat} {l : List Int} {w : World} (h : Src w a n cap l) (hT : TkW w) :
    Calls Tryz.prog 11 #[.slice a n cap] w (TksPost (allF l) w) := by
  obtain ⟨i0, hi, hz0, hz1, hz2⟩ := info_parts Tryz.infoTok
  have hlen := h.len
  have hsm := h.small
  have own0 := World.ownsRow_nil w w.heap.size 32 6
  generalize hR : allF l = R
  unfold allF at hR
  rw [hlen] at hR
  have HR := Lib.hid hR; clear hR
  have HL := Lib.hid hlen; clear hlen
  have HP := Lib.hid h; clear h
  have HT := Lib.hid hT; clear hT
  go_enter Tryz.func11, Tryz.ntmps11
  go_wp2_with fail
  go_loopw [3, 4] (fun v at_ wr => ∃ (f j : Nat) (acc : List Tk), at_ = .int .i64 j ∧ wr.ownsRow w.heap.size 32 6 v acc.length (acc.flatMap tkCells) ∧ Hid (allGo f l j acc = R) ∧ n < j + f ∧ j ≤ n ∧ acc.length ≤ j ∧ Below w.heap.size w wr)
    (fun _ at_ _ => n - (intOf at_).toNat)
  case atStart => exact ⟨n + 1, 0, [], rfl, own0, HR, by omega, by omega, by simp, Below.refl _ _⟩
  case round =>
    obtain ⟨f, j, acc, rfl, hown, hG, hf, hj, hal, hbl⟩ := hrel
    have hS := HP.out.later hbl
    obtain ⟨f, rfl⟩ : ∃ g, f = g + 1 := ⟨f - 1, by omega⟩
    have t2 : (nextF l j).kind ≠ 0 → j < (nextF l j).to ∧ (nextF l j).to ≤ n := fun hk => by
      rcases nextF_bd (l := l) (j := j) (by rw [HL.out]; exact hj) with ⟨h, _⟩ | ⟨_, _, h1, h2⟩
      · rw [h] at hk; exact absurd rfl hk
      · exact ⟨h1, by rw [← HL.out]; exact h2⟩
    have hx := next_any (j : Int) j hS (HT.out.later hbl) rfl hj
    have hG' : Hid ((if (nextF l j).kind = 0 then acc ++ [nextF l j] else allGo f l (nextF l j).to (acc ++ [nextF l j])) = R) := Lib.hid (by rw [← hG.out]; rfl)
    clear hG
    generalize nextF l j = t at *
    go_wp2_with fail
    refine hx.mono ?_
    rintro e w2 ⟨rfl, hb2⟩
    have hown2 := owns_later hown hb2
    have hbl2 := hbl.trans (hb2.mono hbl.size)
    have hsz2 := hbl2.size
    have hsz := hbl.size
    clear hown hx hS
    have hA : ∀ o : Obj, (w2.alloc o).heap.size = w2.heap.size + 1 := fun o => by simp
    have hB := Blk.alloc (w := w2.alloc (.cells (tkCells t).toArray 32)) (tkCells t) 32
    rw [hA] at hB
    have hnews : ∀ j u, (tkCells t)[j]? = some u → ((w2.alloc (.cells (tkCells t).toArray 32)).alloc (.cells (tkCells t).toArray 32)).cell? ((⟨w2.heap.size + 1, 0, none⟩ : Addr).add j) = some u := fun j u hu => by
      have h0 := hB.cell j u hu
      rw [← h0]; congr 1; unfold Addr.add; simp <;> (intro h; exact h.symm)
    have hown4 := (hown2.alloc (.cells (tkCells t).toArray 32)).alloc (.cells (tkCells t).toArray 32)
    have hbl4 := (hbl2.alloc hsz2 (.cells (tkCells t).toArray 32)).alloc (by rw [hA]; omega) (.cells (tkCells t).toArray 32)
    have B5 : Blk ((w2.alloc (.cells (tkCells t).toArray 32)).alloc (.cells (tkCells t).toArray 32)) w2.heap.size (tkCells t) 32 := (Blk.alloc _ _).alloc_old _
    have hone := tk_cells t
    have hz4 : ((w2.alloc (.cells (tkCells t).toArray 32)).alloc (.cells (tkCells t).toArray 32)).heap.size = w2.heap.size + 2 := by simp
    unfold tkV
    rw [show (tkCells t).toArray = #[.int .i64 t.kind, .int .i64 t.frm, .int .i64 t.to, .string (strOfNums t.text), .string (strOfNums t.num), .bool t.whole] from rfl] at *
    have hlA : ∀ t : Tk, (acc ++ [t]).flatMap tkCells = acc.flatMap tkCells ++ tkCells t := fun t => by simp
    by_cases hk0 : t.kind = 0
    · have n0 : (t.kind == 0) = true := beq_iff_eq.2 hk0
      have hE : R = acc ++ [t] := by rw [← hG'.out, if_pos hk0]
      clear hk0 hG' t2
      go_wp2_with (at_builtin; refine wpList_append_own _ rfl _ _ 24 rfl w.heap.size 32 i0 _ 6 64 Tryz.underlying24 hi hz0 hz1 hz2 rfl (by decide) _ acc.length _ rfl hown4 ⟨w2.heap.size + 1, 0, none⟩ 1 1 (tkCells t) rfl rfl hnews hone (by unfold maxLen; omega) (by omega) (by simp <;> omega) ?_; intro v' w5 hown5 hgrow5 _; have hB6 : Blk w5 w2.heap.size (tkCells t) 32 := (hgrow5.block w2.heap.size (by omega) (fun e => by have := (hown2.lt _ e.symm).2; omega)).trans B5; have c0 := hB6.cell 0 _ rfl; have c2 := hB6.cell 2 _ rfl)
      have hbl5 : Below w.heap.size w w5 := hbl4.grown hgrow5 (by omega) (fun j hj => (hown2.lt j hj).1)
      go_ret
      rcases hown5.2 with ⟨_, hx0⟩ | ⟨g, cp, cur, hv, hg, hh, hn1, hn2, _, _⟩
      · omega
      · have hll : R.length = acc.length + 1 := by rw [hE, List.length_append]; rfl
        have hfm : R.flatMap tkCells = acc.flatMap tkCells ++ tkCells t := by rw [hE]; exact hlA t
        subst hv
        refine ⟨some ⟨g, 0, none⟩, cp, by rw [hll]; rfl, ⟨by rw [hll]; exact hn1, hn2, g, rfl, lt_of_block hh, fun j v hv => ?_⟩, hbl5⟩
        rw [hfm] at hv
        have h0 := hown5.cells (g := g) rfl j v hv
        rw [← h0]; congr 1; unfold Addr.add; simp
    · have n0 : (t.kind == 0) = false := beq_eq_false_iff_ne.2 hk0
      obtain ⟨t3, t4⟩ := t2 hk0
      have hG2 : Hid (allGo f l t.to (acc ++ [t]) = R) := Lib.hid (by rw [← hG'.out, if_neg hk0])
      clear hk0 hG' t2
      go_wp2_with (at_builtin; refine wpList_append_own _ rfl _ _ 24 rfl w.heap.size 32 i0 _ 6 64 Tryz.underlying24 hi hz0 hz1 hz2 rfl (by decide) _ acc.length _ rfl hown4 ⟨w2.heap.size + 1, 0, none⟩ 1 1 (tkCells t) rfl rfl hnews hone (by unfold maxLen; omega) (by omega) (by simp <;> omega) ?_; intro v' w5 hown5 hgrow5 _; have hB6 : Blk w5 w2.heap.size (tkCells t) 32 := (hgrow5.block w2.heap.size (by omega) (fun e => by have := (hown2.lt _ e.symm).2; omega)).trans B5; have c0 := hB6.cell 0 _ rfl; have c2 := hB6.cell 2 _ rfl)
      have hbl5 : Below w.heap.size w w5 := hbl4.grown hgrow5 (by omega) (fun j hj => (hown2.lt j hj).1)
      go_roundw
      case rel => exact ⟨f, t.to, acc ++ [t], by go_num, by rw [hlA, List.length_append]; exact hown5, hG2, by omega, by omega, by rw [List.length_append]; simp; omega, hbl5⟩
      case measure => simp [intOf]; omega


theorem prep_pre (zs : List Int) : Pre (prepF zs) := by
  have key : ∀ k, ∀ z ∈ prepTo zs k, 1 ≤ z ∧ z < 1114112 := by
    intro k
    induction k with
    | zero => intro z hz; simp [prepTo] at hz
    | succ k ih =>
      intro z hz
      rw [prepTo] at hz
      rcases List.mem_append.1 hz with h | h
      · exact ih z h
      · rcases prep_cases zs k with ⟨_, _, _, HP⟩ | ⟨_, _, HP⟩ | ⟨_, _, _, HP⟩ | ⟨_, HP⟩ | ⟨_, HP⟩ | ⟨e1, e2, e3, HP⟩
        all_goals rw [HP] at h; simp at h
        all_goals try (subst h; omega)
        subst h
        have h1 := right_bd (charOf_right (zs[k]?.getD 0))
        have h2 : charOf (zs[k]?.getD 0) ≠ 0 := by
          unfold charOf
          split
          · exact e3
          · decide
        omega
  exact key _
theorem chars_len (zs : List Int) : (charsF zs).length ≤ zs.length := by
  have key : ∀ f k, (charsN f zs k).length ≤ f := by
    intro f
    induction f with
    | zero => intro k; simp [charsN]
    | succ f ih =>
      intro k
      rw [charsN]
      split
      · simp
      · rw [List.length_append]
        have := ih (k + sizeF (zs.drop k))
        have h1 : (if charF (zs.drop k) ≠ 65279 ∨ k ≠ 0 then [charF (zs.drop k)] else []).length ≤ 1 := by split <;> simp
        omega
  have := key (zs.length - 0) 0
  exact this
theorem chars_i64 (zs : List Int) (hz : U8 zs) : I64 (charsF zs) := by
  have key : ∀ f k, I64 (charsN f zs k) := by
    intro f
    induction f with
    | zero => intro k z hz; simp [charsN] at hz
    | succ f ih =>
      intro k z h
      rw [charsN] at h
      split at h
      · simp at h
      · rcases List.mem_append.1 h with h | h
        · split at h
          · simp at h
            have := readF_char (zs.drop k) (hz.drop k)
            subst h
            unfold charF
            split
            · omega
            · decide
          · simp at h
        · exact ih _ z h
  exact key _ _

set_option maxRecDepth 100000 in
set_option maxHeartbeats 2000000 in
theorem tread_any (a : Option Addr) (n cap : Nat) (zs : List Int) (w : World) (hn : zs.length = n) (hr : Reads w .u8 a cap zs) (hz : U8 zs) (hsm : n ≤ 100000) (hT : TkW w) :
    Calls Tryz.prog 8 #[.slice a n cap] w (TksPost (toksF zs) w) := by
  subst hn
  have hc := chars_any a cap zs w hr hz (by omega)
  have hcl := chars_len zs
  have hci := chars_i64 zs hz
  have HT := Lib.hid hT
  unfold toksF
  unfold CharsPost at hc
  clear hT hr
  generalize charsF zs = cs at *
  go_enter Tryz.func8, Tryz.ntmps8
  go_wp2_with fail
  refine hc.mono ?_
  rintro e w1 ⟨a1, c1, rfl, hr1, hb1, _, _⟩
  have cP := prepare_any a1 c1 cs.length cs w1 rfl hr1 hci (by omega)
  have hpl := prepTo_len cs cs.length
  have hpp := prep_pre cs
  have hpl : (prepF cs).length ≤ cs.length := hpl
  unfold NewPost at cP
  generalize prepF cs = l at *
  clear hc hr1 hci hz
  go_wp2_with fail
  refine cP.mono ?_
  rintro e w2 ⟨a2, c2, rfl, hr2, hb2, _, _⟩
  have hb12 := below_trans hb1 hb2
  have cA := all_any (a := a2) (cap := c2) (⟨hr2, rfl, hpp, by omega⟩ : Src w2 a2 l.length c2 l) (HT.out.later hb12)
  clear cP hr2 hpp
  go_wp2_with fail
  refine cA.mono ?_
  rintro e w3 ⟨a3, c3, rfl, hr3, hb3⟩
  go_wp2
  go_ret
  exact ⟨a3, c3, rfl, hr3, below_trans hb12 hb3⟩
end
end Go.Proofs.YtickcbmfboajiaaGreatDoor
