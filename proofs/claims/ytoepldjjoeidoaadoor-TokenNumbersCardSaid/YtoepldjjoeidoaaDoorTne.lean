/- Tokens, the program's side: the token at a place: a walk. -/
import Derived.Test.YtoepldjjoeidoaaDoorTnd
namespace Go.Proofs.YtoepldjjoeidoaaDoor
open Go.RowKit Go.Shelf
set_option linter.unusedVariables false
set_option linter.unusedSimpArgs false

section
variable {l : List Int} {k : Nat}
theorem tokZ_0 (hk : k < l.length) (hsp : spB l k = true) : tkZ (tokAt l k) = ⟨13, 0, spacesF l k, [], [], false⟩ := by
  unfold tokAt
  rw [if_neg (show ¬ (l.length ≤ k) from by omega), if_pos (show (spB l k) = true from hsp)]
  all_goals rfl
theorem tokZ_1 (hk : k < l.length) (hsp : spB l k = false) (hqd : (isB l k 34 || isB l k 39) = true) : tkZ (tokAt l k) = quoF l (chA l k) (k + 1) [] := by
  unfold tokAt
  rw [if_neg (show ¬ (l.length ≤ k) from by omega), if_neg (show ¬ ((spB l k) = true) from by rw [hsp]; decide), if_pos (show ((isB l k 34 || isB l k 39)) = true from hqd)]
  exact quotedGo_frm l (chA l k) k _ _ _
theorem tokZ_2 (hk : k < l.length) (hsp : spB l k = false) (hqd : (isB l k 34 || isB l k 39) = false) (hnu : numAt l k = true) : tkZ (tokAt l k) = tkZ (numericF l k) := by
  unfold tokAt
  rw [if_neg (show ¬ (l.length ≤ k) from by omega), if_neg (show ¬ ((spB l k) = true) from by rw [hsp]; decide), if_neg (show ¬ (((isB l k 34 || isB l k 39)) = true) from by rw [hqd]; decide), if_pos (show (numAt l k) = true from hnu)]
  all_goals rfl
theorem tokZ_3 (hk : k < l.length) (hsp : spB l k = false) (hqd : (isB l k 34 || isB l k 39) = false) (hnu : numAt l k = false) (hcd : cdcB l k = true) : tkZ (tokAt l k) = ⟨15, 0, k + 3, [], [], false⟩ := by
  unfold tokAt
  rw [if_neg (show ¬ (l.length ≤ k) from by omega), if_neg (show ¬ ((spB l k) = true) from by rw [hsp]; decide), if_neg (show ¬ (((isB l k 34 || isB l k 39)) = true) from by rw [hqd]; decide), if_neg (show ¬ ((numAt l k) = true) from by rw [hnu]; decide), if_pos (show (cdcB l k) = true from hcd)]
  all_goals rfl
theorem tokZ_4 (hk : k < l.length) (hsp : spB l k = false) (hqd : (isB l k 34 || isB l k 39) = false) (hnu : numAt l k = false) (hcd : cdcB l k = false) (hna : nameAt l k = true) : tkZ (tokAt l k) = tkZ (calledF l k) := by
  unfold tokAt
  rw [if_neg (show ¬ (l.length ≤ k) from by omega), if_neg (show ¬ ((spB l k) = true) from by rw [hsp]; decide), if_neg (show ¬ (((isB l k 34 || isB l k 39)) = true) from by rw [hqd]; decide), if_neg (show ¬ ((numAt l k) = true) from by rw [hnu]; decide), if_neg (show ¬ ((cdcB l k) = true) from by rw [hcd]; decide), if_pos (show (nameAt l k) = true from hna)]
  all_goals rfl
theorem tokZ_5 (hk : k < l.length) (hsp : spB l k = false) (hqd : (isB l k 34 || isB l k 39) = false) (hnu : numAt l k = false) (hcd : cdcB l k = false) (hna : nameAt l k = false) (hco : cdoB l k = true) : tkZ (tokAt l k) = ⟨14, 0, k + 4, [], [], false⟩ := by
  unfold tokAt
  rw [if_neg (show ¬ (l.length ≤ k) from by omega), if_neg (show ¬ ((spB l k) = true) from by rw [hsp]; decide), if_neg (show ¬ (((isB l k 34 || isB l k 39)) = true) from by rw [hqd]; decide), if_neg (show ¬ ((numAt l k) = true) from by rw [hnu]; decide), if_neg (show ¬ ((cdcB l k) = true) from by rw [hcd]; decide), if_neg (show ¬ ((nameAt l k) = true) from by rw [hna]; decide), if_pos (show (cdoB l k) = true from hco)]
  all_goals rfl
theorem tokZ_6 (hk : k < l.length) (hsp : spB l k = false) (hqd : (isB l k 34 || isB l k 39) = false) (hnu : numAt l k = false) (hcd : cdcB l k = false) (hna : nameAt l k = false) (hco : cdoB l k = false) (hat : atSgB l k = true) : tkZ (tokAt l k) = ⟨3, 0, (namesF l (k + 1)).2, bytesF (namesF l (k + 1)).1, [], false⟩ := by
  unfold tokAt
  rw [if_neg (show ¬ (l.length ≤ k) from by omega), if_neg (show ¬ ((spB l k) = true) from by rw [hsp]; decide), if_neg (show ¬ (((isB l k 34 || isB l k 39)) = true) from by rw [hqd]; decide), if_neg (show ¬ ((numAt l k) = true) from by rw [hnu]; decide), if_neg (show ¬ ((cdcB l k) = true) from by rw [hcd]; decide), if_neg (show ¬ ((nameAt l k) = true) from by rw [hna]; decide), if_neg (show ¬ ((cdoB l k) = true) from by rw [hco]; decide), if_pos (show (atSgB l k) = true from hat)]
  all_goals rfl
theorem tokZ_7 (hk : k < l.length) (hsp : spB l k = false) (hqd : (isB l k 34 || isB l k 39) = false) (hnu : numAt l k = false) (hcd : cdcB l k = false) (hna : nameAt l k = false) (hco : cdoB l k = false) (hat : atSgB l k = false) (hha : hashB l k = true) : tkZ (tokAt l k) = ⟨4, 0, (namesF l (k + 1)).2, bytesF (namesF l (k + 1)).1, [], nameAt l (k + 1)⟩ := by
  unfold tokAt
  rw [if_neg (show ¬ (l.length ≤ k) from by omega), if_neg (show ¬ ((spB l k) = true) from by rw [hsp]; decide), if_neg (show ¬ (((isB l k 34 || isB l k 39)) = true) from by rw [hqd]; decide), if_neg (show ¬ ((numAt l k) = true) from by rw [hnu]; decide), if_neg (show ¬ ((cdcB l k) = true) from by rw [hcd]; decide), if_neg (show ¬ ((nameAt l k) = true) from by rw [hna]; decide), if_neg (show ¬ ((cdoB l k) = true) from by rw [hco]; decide), if_neg (show ¬ ((atSgB l k) = true) from by rw [hat]; decide), if_pos (show (hashB l k) = true from hha)]
  all_goals rfl
theorem tokZ_8 (hk : k < l.length) (hsp : spB l k = false) (hqd : (isB l k 34 || isB l k 39) = false) (hnu : numAt l k = false) (hcd : cdcB l k = false) (hna : nameAt l k = false) (hco : cdoB l k = false) (hat : atSgB l k = false) (hha : hashB l k = false) : tkZ (tokAt l k) = signF l k := by
  unfold tokAt
  rw [if_neg (show ¬ (l.length ≤ k) from by omega), if_neg (show ¬ ((spB l k) = true) from by rw [hsp]; decide), if_neg (show ¬ (((isB l k 34 || isB l k 39)) = true) from by rw [hqd]; decide), if_neg (show ¬ ((numAt l k) = true) from by rw [hnu]; decide), if_neg (show ¬ ((cdcB l k) = true) from by rw [hcd]; decide), if_neg (show ¬ ((nameAt l k) = true) from by rw [hna]; decide), if_neg (show ¬ ((cdoB l k) = true) from by rw [hco]; decide), if_neg (show ¬ ((atSgB l k) = true) from by rw [hat]; decide), if_neg (show ¬ ((hashB l k) = true) from by rw [hha]; decide)]
  unfold signF
  split <;> rfl
end
theorem asc_cdc : Asc ⟨#[45, 45, 62]⟩ := ⟨by decide, by decide⟩
theorem asc_cdo : Asc ⟨#[60, 33, 45, 45]⟩ := ⟨by decide, by decide⟩
theorem beg_cdc (l : List Int) (k : Nat) : begB l k (ascI ⟨#[45, 45, 62]⟩) = cdcB l k := by
  show (isB l k 45 && (isB l (k + 1) 45 && (isB l (k + 1 + 1) 62 && true))) = _
  unfold cdcB
  rw [Bool.and_true, Bool.and_assoc]
theorem beg_cdo (l : List Int) (k : Nat) : begB l k (ascI ⟨#[60, 33, 45, 45]⟩) = cdoB l k := by
  show (isB l k 60 && (isB l (k + 1) 33 && (isB l (k + 1 + 1) 45 && (isB l (k + 1 + 1 + 1) 45 && true)))) = _
  unfold cdoB
  rw [Bool.and_true, Bool.and_assoc, Bool.and_assoc]

set_option maxRecDepth 100000 in
set_option maxHeartbeats 8000000 in
theorem read_any3 {a : Option Addr} {n cap : Nat} {l : List Int} {w : World} (i : Int) (k : Nat) (h : Src w a n cap l) (hT : TkW w) (hi : i = (k : Int)) (hk : k < n) :
    Calls Tryd.prog 38 #[.slice a n cap, .int .i64 i] w (Told (tkV (tkZ (tokAt l k))) w) := by
  subst hi
  have hsm := h.small
  have HK := Lib.hid (show k < l.length from by rw [h.len]; exact hk)
  have HL := Lib.hid h.len
  have HP := Lib.hid h
  have HT := Lib.hid hT
  obtain ⟨b, off, rfl, hc0⟩ := h.cell k hk
  have hc : ∀ o, (w.alloc o).cell? ⟨b, off + k, none⟩ = some (.int .i64 (chA l k)) := fun o => ((Below.refl _ w).alloc (Nat.le_refl _) o).cell (p := ⟨b, off + k, none⟩) (World.block_lt_of_cell? w _ hc0) |>.trans hc0
  have hW0 : ∃ W0, W0 = w.alloc (.cells #[.int .i64 0, .int .i64 0, .int .i64 0, .string ⟨#[]⟩, .string ⟨#[]⟩, .bool false] 33) := ⟨_, rfl⟩
  obtain ⟨W0, hW0⟩ := hW0
  have hb0 : Below w.heap.size w W0 := by rw [hW0]; exact (Below.refl _ w).alloc (Nat.le_refl _) _
  have HB0 := Lib.hid (show Blk W0 w.heap.size zeroTk 33 from by rw [hW0]; exact Blk.alloc _ _)
  have HW := Lib.hid hb0
  have HW0 := Lib.hid hW0
  have f0 := fun w => space_any (chA l k) w (chA_ch h.pre k)
  have hq34 : (chA l k == 34) = isB l k 34 := by unfold isB; rfl
  have hq39 : (chA l k == 39) = isB l k 39 := by unfold isB; rfl
  have hq64 : (chA l k == 64) = isB l k 64 := by unfold isB; rfl
  have hq35 : (chA l k == 35) = isB l k 35 := by unfold isB; rfl
  have hS := fun {w' : World} (hb : Below w.heap.size w w') => h.later hb
  have cBl := passBlanks_any (k : Int) k (hS hb0) rfl (by omega)
  have cQ := quotedC_any (k : Int) k (hS hb0) (hT.mx.later hb0) rfl hk
  have cSN := startsNumber_any (k : Int) k (hS hb0) rfl (by omega)
  have cNu := numericC_any (k : Int) k (hS hb0) (hT.mx.later hb0) rfl hk
  have cB1 := begins_any (k : Int) k ⟨#[45, 45, 62]⟩ (hS hb0) rfl (by omega) asc_cdc
  rw [beg_cdc] at cB1
  have cNa := fun (w' : World) (hb : Below w.heap.size w w') => startsName_any (k : Int) k (hS hb) rfl (by omega)
  have cNd := fun (w' : World) (hb : Below w.heap.size w w') => named_any (k : Int) k (hS hb) (hT.mx.later hb) rfl hk
  have cB2 := fun (w' : World) (hb : Below w.heap.size w w') => begins_any (k : Int) k ⟨#[60, 33, 45, 45]⟩ (hS hb) rfl (by omega) asc_cdo
  simp only [beg_cdo] at cB2
  have cN1 := fun (w' : World) (hb : Below w.heap.size w w') => startsName_any ((k : Int) + 1) (k + 1) (hS hb) (by omega) (by omega)
  have cH1 := fun (w' : World) (hb : Below w.heap.size w w') => hasName_any ((k : Int) + 1) (k + 1) (hS hb) (by omega) (by omega)
  have cR1 := fun (w' : World) (hb : Below w.heap.size w w') => readName_any ((k : Int) + 1) (k + 1) (hS hb) (hT.mx.later hb) (by omega) (by omega)
  have cSg := fun (w' : World) (hb : Below w.heap.size w w') => sign_any (k : Int) k (hS hb) (hT.later hb) rfl hk
  have CNA := Lib.hid cNa
  have CND := Lib.hid cNd
  have CB2 := Lib.hid cB2
  have CN1 := Lib.hid cN1
  have CH1 := Lib.hid cH1
  have CR1 := Lib.hid cR1
  have CSG := Lib.hid cSg
  have HC := Lib.hid hc
  clear h hT hc0 hc cNa cNd cB2 cN1 cH1 cR1 cSg hS hb0 hW0
  generalize hR : tkZ (tokAt l k) = R
  have hRR := Lib.hid hR
  clear hR
  have hcc := HC.out
  rcases hsp : spB l k with _ | _
  rotate_left
  · have hsp' : spaceB (chA l k) = true := hsp
    have e := Lib.hid (show (⟨13, 0, spacesF l k, [], [], false⟩ : Tk) = R from by rw [← hRR.out]; exact (tokZ_0 HK.out hsp).symm)
    rw [hsp'] at f0
    generalize spacesF l k = s at *
    have r0 := HB0.out.cell 0 _ rfl
    have r1 := HB0.out.cell 1 _ rfl
    have r2 := HB0.out.cell 2 _ rfl
    have r3 := HB0.out.cell 3 _ rfl
    have r4 := HB0.out.cell 4 _ rfl
    have r5 := HB0.out.cell 5 _ rfl
    have q0 := HB0.out.frozen 0
    have q1 := HB0.out.frozen 1
    have q2 := HB0.out.frozen 2
    have q3 := HB0.out.frozen 3
    have q4 := HB0.out.frozen 4
    have q5 := HB0.out.frozen 5
    generalize chA l k = z at *
    go_enter Tryd.func38, Tryd.ntmps38
    go_wp2_with fail
    rw [show w.alloc (Obj.cells #[.int .i64 0, .int .i64 0, .int .i64 0, .string ⟨#[]⟩, .string ⟨#[]⟩, .bool false] 33) = W0 from HW0.out.symm]
    refine (f0 _).mono ?_
    rintro e w' ⟨rfl, hw'⟩; replace hw' := hw'.symm; subst hw'
    clear hcc f0
    go_wp2_with (first
      | (go_at_call 44; (with_reducible refine cBl.mono ?_); rintro e w' ⟨rfl, hw'⟩; replace hw' := hw'.symm; subst hw'))
    refine bodyPost_ret (v := .agg #[.int .i64 13, .int .i64 0, .int .i64 s, .string ⟨#[]⟩, .string ⟨#[]⟩, .bool false]) (by simp [results, Tryd.results38, go_sem, r0, r1, r2, r3, r4, r5]) rfl ⟨by rw [← e.out]; rfl, ?_⟩
    exact below_set6 HW.out (Nat.le_refl _) _ _ _ _ _ _
  have hsp' : spaceB (chA l k) = false := hsp
  rw [hsp'] at f0
  rcases hqd : (isB l k 34 || isB l k 39) with _ | _
  rotate_left
  · have e := Lib.hid (show (quoF l (chA l k) (k + 1) [] : Tk) = R from by rw [← hRR.out]; exact (tokZ_1 HK.out hsp hqd).symm)
    rw [e.out] at cQ
    have hk3 : isB l k 34 = true ∨ (isB l k 34 = false ∧ isB l k 39 = true) := by
      revert hqd; cases isB l k 34 <;> cases isB l k 39 <;> simp
    clear hqd hsp hsp' e hq64 hq35
    generalize isB l k 34 = p at *
    generalize isB l k 39 = q at *
    generalize chA l k = z at *
    rcases hk3 with rfl | ⟨rfl, rfl⟩
    all_goals
      go_enter Tryd.func38, Tryd.ntmps38
      go_wp2_with fail
      rw [show w.alloc (Obj.cells #[.int .i64 0, .int .i64 0, .int .i64 0, .string ⟨#[]⟩, .string ⟨#[]⟩, .bool false] 33) = W0 from HW0.out.symm]
      refine (f0 _).mono ?_
      rintro e w' ⟨rfl, hw'⟩; replace hw' := hw'.symm; subst hw'
      clear hcc f0
      go_wp2_with fail
      refine cQ.mono ?_
      rintro e w1 ⟨rfl, hbz⟩
      have hBz := HB0.out.later hbz HB0.out.lt
      have hblz := HW.out.trans (hbz.mono HW.out.size)
      have r0 := hBz.cell 0 _ rfl
      have r1 := hBz.cell 1 _ rfl
      have r2 := hBz.cell 2 _ rfl
      have r3 := hBz.cell 3 _ rfl
      have r4 := hBz.cell 4 _ rfl
      have r5 := hBz.cell 5 _ rfl
      have q0 := hBz.frozen 0
      have q1 := hBz.frozen 1
      have q2 := hBz.frozen 2
      have q3 := hBz.frozen 3
      have q4 := hBz.frozen 4
      have q5 := hBz.frozen 5
      clear hbz
      obtain ⟨kd, fr, to_, tx, nm, wh⟩ := R
      unfold tkV tkCells
      go_wp2
      refine bodyPost_ret (v := tkV ⟨kd, fr, to_, tx, nm, wh⟩) (by simp [results, Tryd.results38, go_sem, tkV, tkCells, r0, r1, r2, r3, r4, r5]) rfl ⟨rfl, ?_⟩
      exact below_set6 hblz (Nat.le_refl _) _ _ _ _ _ _
  have hp34 : isB l k 34 = false := by revert hqd; cases isB l k 34 <;> simp
  have hp39 : isB l k 39 = false := by revert hqd; cases isB l k 39 <;> simp
  rw [hp34] at hq34
  rw [hp39] at hq39
  rcases hnu : numAt l k with _ | _
  rotate_left
  · have e := Lib.hid (show (tkZ (numericF l k) : Tk) = R from by rw [← hRR.out]; exact (tokZ_2 HK.out hsp hqd hnu).symm)
    rw [e.out] at cNu
    rw [hnu] at cSN
    clear hqd hsp hsp' hnu hp34 hp39 e
    generalize chA l k = z at *
    go_enter Tryd.func38, Tryd.ntmps38
    go_wp2_with fail
    rw [show w.alloc (Obj.cells #[.int .i64 0, .int .i64 0, .int .i64 0, .string ⟨#[]⟩, .string ⟨#[]⟩, .bool false] 33) = W0 from HW0.out.symm]
    refine (f0 _).mono ?_
    rintro e w' ⟨rfl, hw'⟩; replace hw' := hw'.symm; subst hw'
    clear hcc f0
    go_wp2_with (first
      | (go_at_call 46; (with_reducible refine cSN.mono ?_); rintro e w' ⟨rfl, hw'⟩; replace hw' := hw'.symm; subst hw'))
    refine cNu.mono ?_
    rintro e w1 ⟨rfl, hbz⟩
    have hBz := HB0.out.later hbz HB0.out.lt
    have hblz := HW.out.trans (hbz.mono HW.out.size)
    have r0 := hBz.cell 0 _ rfl
    have r1 := hBz.cell 1 _ rfl
    have r2 := hBz.cell 2 _ rfl
    have r3 := hBz.cell 3 _ rfl
    have r4 := hBz.cell 4 _ rfl
    have r5 := hBz.cell 5 _ rfl
    have q0 := hBz.frozen 0
    have q1 := hBz.frozen 1
    have q2 := hBz.frozen 2
    have q3 := hBz.frozen 3
    have q4 := hBz.frozen 4
    have q5 := hBz.frozen 5
    clear hbz
    obtain ⟨kd, fr, to_, tx, nm, wh⟩ := R
    unfold tkV tkCells
    go_wp2
    refine bodyPost_ret (v := tkV ⟨kd, fr, to_, tx, nm, wh⟩) (by simp [results, Tryd.results38, go_sem, tkV, tkCells, r0, r1, r2, r3, r4, r5]) rfl ⟨rfl, ?_⟩
    exact below_set6 hblz (Nat.le_refl _) _ _ _ _ _ _
  rw [hnu] at cSN
  rcases hcd : cdcB l k with _ | _
  rotate_left
  · have e := Lib.hid (show (⟨15, 0, k + 3, [], [], false⟩ : Tk) = R from by rw [← hRR.out]; exact (tokZ_3 HK.out hsp hqd hnu hcd).symm)
    rw [hcd] at cB1
    clear hqd hsp hsp' hnu hcd hp34 hp39
    generalize chA l k = z at *
    go_enter Tryd.func38, Tryd.ntmps38
    go_wp2_with fail
    rw [show w.alloc (Obj.cells #[.int .i64 0, .int .i64 0, .int .i64 0, .string ⟨#[]⟩, .string ⟨#[]⟩, .bool false] 33) = W0 from HW0.out.symm]
    refine (f0 _).mono ?_
    rintro e w' ⟨rfl, hw'⟩; replace hw' := hw'.symm; subst hw'
    clear hcc f0
    go_wp2_with (first
      | (go_at_call 46; (with_reducible refine cSN.mono ?_); rintro e w' ⟨rfl, hw'⟩; replace hw' := hw'.symm; subst hw')
      | (go_at_call 42; (with_reducible refine cB1.mono ?_); rintro e w1 ⟨rfl, hb1⟩; have hB1 := HB0.out.later hb1 HB0.out.lt; have hbl1 := HW.out.trans (hb1.mono HW.out.size); have r0 := hB1.cell 0 _ rfl; have r1 := hB1.cell 1 _ rfl; have r2 := hB1.cell 2 _ rfl; have r3 := hB1.cell 3 _ rfl; have r4 := hB1.cell 4 _ rfl; have r5 := hB1.cell 5 _ rfl; have q0 := hB1.frozen 0; have q1 := hB1.frozen 1; have q2 := hB1.frozen 2; have q3 := hB1.frozen 3; have q4 := hB1.frozen 4; have q5 := hB1.frozen 5))
    refine bodyPost_ret (v := .agg #[.int .i64 15, .int .i64 0, .int .i64 (k + 3 : Nat), .string ⟨#[]⟩, .string ⟨#[]⟩, .bool false]) (by simp [results, Tryd.results38, go_sem, r0, r1, r2, r3, r4, r5]) rfl ⟨by rw [← e.out]; rfl, ?_⟩
    exact below_set6 hbl1 (Nat.le_refl _) _ _ _ _ _ _
  rw [hcd] at cB1
  have cNA := CNA.out
  rcases hna : nameAt l k with _ | _
  rotate_left
  · have e := Lib.hid (show (tkZ (calledF l k) : Tk) = R from by rw [← hRR.out]; exact (tokZ_4 HK.out hsp hqd hnu hcd hna).symm)
    rw [hna] at cNA
    have cND := CND.out
    rw [e.out] at cND
    clear hqd hsp hsp' hnu hcd hna hp34 hp39 e
    generalize chA l k = z at *
    go_enter Tryd.func38, Tryd.ntmps38
    go_wp2_with fail
    rw [show w.alloc (Obj.cells #[.int .i64 0, .int .i64 0, .int .i64 0, .string ⟨#[]⟩, .string ⟨#[]⟩, .bool false] 33) = W0 from HW0.out.symm]
    refine (f0 _).mono ?_
    rintro e w' ⟨rfl, hw'⟩; replace hw' := hw'.symm; subst hw'
    clear hcc f0
    go_wp2_with (first
      | (go_at_call 46; (with_reducible refine cSN.mono ?_); rintro e w' ⟨rfl, hw'⟩; replace hw' := hw'.symm; subst hw')
      | (go_at_call 42; (with_reducible refine cB1.mono ?_); rintro e w1 ⟨rfl, hb1⟩; have hB1 := HB0.out.later hb1 HB0.out.lt; have hbl1 := HW.out.trans (hb1.mono HW.out.size))
      | (go_at_call 48; (with_reducible refine (cNA _ hbl1).mono ?_); rintro e w' ⟨rfl, hw'⟩; replace hw' := hw'.symm; subst hw'))
    refine (cND _ hbl1).mono ?_
    rintro e w2 ⟨rfl, hbz⟩
    have hBz := hB1.later hbz hB1.lt
    have hblz := hbl1.trans (hbz.mono hbl1.size)
    have r0 := hBz.cell 0 _ rfl
    have r1 := hBz.cell 1 _ rfl
    have r2 := hBz.cell 2 _ rfl
    have r3 := hBz.cell 3 _ rfl
    have r4 := hBz.cell 4 _ rfl
    have r5 := hBz.cell 5 _ rfl
    have q0 := hBz.frozen 0
    have q1 := hBz.frozen 1
    have q2 := hBz.frozen 2
    have q3 := hBz.frozen 3
    have q4 := hBz.frozen 4
    have q5 := hBz.frozen 5
    clear hbz
    obtain ⟨kd, fr, to_, tx, nm, wh⟩ := R
    unfold tkV tkCells
    go_wp2
    refine bodyPost_ret (v := tkV ⟨kd, fr, to_, tx, nm, wh⟩) (by simp [results, Tryd.results38, go_sem, tkV, tkCells, r0, r1, r2, r3, r4, r5]) rfl ⟨rfl, ?_⟩
    exact below_set6 hblz (Nat.le_refl _) _ _ _ _ _ _
  rw [hna] at cNA
  have cB2 := CB2.out
  rcases hco : cdoB l k with _ | _
  rotate_left
  · have e := Lib.hid (show (⟨14, 0, k + 4, [], [], false⟩ : Tk) = R from by rw [← hRR.out]; exact (tokZ_5 HK.out hsp hqd hnu hcd hna hco).symm)
    rw [hco] at cB2
    clear hqd hsp hsp' hnu hcd hna hco hp34 hp39
    generalize chA l k = z at *
    go_enter Tryd.func38, Tryd.ntmps38
    go_wp2_with fail
    rw [show w.alloc (Obj.cells #[.int .i64 0, .int .i64 0, .int .i64 0, .string ⟨#[]⟩, .string ⟨#[]⟩, .bool false] 33) = W0 from HW0.out.symm]
    refine (f0 _).mono ?_
    rintro e w' ⟨rfl, hw'⟩; replace hw' := hw'.symm; subst hw'
    clear hcc f0
    go_wp2_with (first
      | (go_at_call 46; (with_reducible refine cSN.mono ?_); rintro e w' ⟨rfl, hw'⟩; replace hw' := hw'.symm; subst hw')
      | (go_at_call 42; (with_reducible refine cB1.mono ?_); rintro e w1 ⟨rfl, hb1⟩; have hB1 := HB0.out.later hb1 HB0.out.lt; have hbl1 := HW.out.trans (hb1.mono HW.out.size))
      | (go_at_call 48; (with_reducible refine (cNA _ hbl1).mono ?_); rintro e w' ⟨rfl, hw'⟩; replace hw' := hw'.symm; subst hw')
      | (go_at_call 42; (with_reducible refine (cB2 _ hbl1).mono ?_); rintro e w2 ⟨rfl, hb2⟩; have hB2 := hB1.later hb2 hB1.lt; have hbl2 := hbl1.trans (hb2.mono hbl1.size); have r0 := hB2.cell 0 _ rfl; have r1 := hB2.cell 1 _ rfl; have r2 := hB2.cell 2 _ rfl; have r3 := hB2.cell 3 _ rfl; have r4 := hB2.cell 4 _ rfl; have r5 := hB2.cell 5 _ rfl; have q0 := hB2.frozen 0; have q1 := hB2.frozen 1; have q2 := hB2.frozen 2; have q3 := hB2.frozen 3; have q4 := hB2.frozen 4; have q5 := hB2.frozen 5))
    refine bodyPost_ret (v := .agg #[.int .i64 14, .int .i64 0, .int .i64 (k + 4 : Nat), .string ⟨#[]⟩, .string ⟨#[]⟩, .bool false]) (by simp [results, Tryd.results38, go_sem, r0, r1, r2, r3, r4, r5]) rfl ⟨by rw [← e.out]; rfl, ?_⟩
    exact below_set6 hbl2 (Nat.le_refl _) _ _ _ _ _ _
  rw [hco] at cB2
  have cN1 := CN1.out
  have cH1 := CH1.out
  have cR1 := CR1.out
  rcases hat : atSgB l k with _ | _
  rotate_left
  · have e := Lib.hid (show (⟨3, 0, (namesF l (k + 1)).2, bytesF (namesF l (k + 1)).1, [], false⟩ : Tk) = R from by rw [← hRR.out]; exact (tokZ_6 HK.out hsp hqd hnu hcd hna hco hat).symm)
    have h2 : isB l k 64 = true ∧ nameAt l (k + 1) = true := by unfold atSgB at hat; rwa [Bool.and_eq_true] at hat
    rw [h2.1] at hq64
    rw [h2.2] at cN1
    clear hqd hsp hsp' hnu hcd hna hco hat h2 hp34 hp39 hq35 cH1
    generalize bytesF (namesF l (k + 1)).1 = txt at *
    generalize (namesF l (k + 1)).2 = m at *
    generalize chA l k = z at *
    go_enter Tryd.func38, Tryd.ntmps38
    go_wp2_with fail
    rw [show w.alloc (Obj.cells #[.int .i64 0, .int .i64 0, .int .i64 0, .string ⟨#[]⟩, .string ⟨#[]⟩, .bool false] 33) = W0 from HW0.out.symm]
    refine (f0 _).mono ?_
    rintro e w' ⟨rfl, hw'⟩; replace hw' := hw'.symm; subst hw'
    clear hcc f0
    go_wp2_with (first
      | (go_at_call 46; (with_reducible refine cSN.mono ?_); rintro e w' ⟨rfl, hw'⟩; replace hw' := hw'.symm; subst hw')
      | (go_at_call 42; (with_reducible refine cB1.mono ?_); rintro e w1 ⟨rfl, hb1⟩; have hB1 := HB0.out.later hb1 HB0.out.lt; have hbl1 := HW.out.trans (hb1.mono HW.out.size))
      | (go_at_call 48; (with_reducible refine (cNA _ hbl1).mono ?_); rintro e w' ⟨rfl, hw'⟩; replace hw' := hw'.symm; subst hw')
      | (go_at_call 42; (with_reducible refine (cB2 _ hbl1).mono ?_); rintro e w2 ⟨rfl, hb2⟩; have hB2 := hB1.later hb2 hB1.lt; have hbl2 := hbl1.trans (hb2.mono hbl1.size))
      | (go_at_call 48; (with_reducible refine (cN1 _ hbl2).mono ?_); rintro e w' ⟨rfl, hw'⟩; replace hw' := hw'.symm; subst hw')
      | (go_at_call 50; (with_reducible refine (cR1 _ hbl2).mono ?_); rintro e w3 ⟨rfl, hb3⟩; have hB3 := hB2.later hb3 hB2.lt; have hbl3 := hbl2.trans (hb3.mono hbl2.size); have r0 := hB3.cell 0 _ rfl; have r1 := hB3.cell 1 _ rfl; have r2 := hB3.cell 2 _ rfl; have r3 := hB3.cell 3 _ rfl; have r4 := hB3.cell 4 _ rfl; have r5 := hB3.cell 5 _ rfl; have q0 := hB3.frozen 0; have q1 := hB3.frozen 1; have q2 := hB3.frozen 2; have q3 := hB3.frozen 3; have q4 := hB3.frozen 4; have q5 := hB3.frozen 5))
    refine bodyPost_ret (v := .agg #[.int .i64 3, .int .i64 0, .int .i64 (m : Nat), .string (strOfNums txt), .string ⟨#[]⟩, .bool false]) (by simp [results, Tryd.results38, go_sem, r0, r1, r2, r3, r4, r5]) rfl ⟨by rw [← e.out]; rfl, ?_⟩
    exact below_set6 hbl3 (Nat.le_refl _) _ _ _ _ _ _
  have hat2 : isB l k 64 = false ∨ (isB l k 64 = true ∧ nameAt l (k + 1) = false) := by
    unfold atSgB at hat
    revert hat; cases isB l k 64 <;> cases nameAt l (k + 1) <;> simp
  rcases hha : hashB l k with _ | _
  rotate_left
  · have e := Lib.hid (show (⟨4, 0, (namesF l (k + 1)).2, bytesF (namesF l (k + 1)).1, [], nameAt l (k + 1)⟩ : Tk) = R from by rw [← hRR.out]; exact (tokZ_7 HK.out hsp hqd hnu hcd hna hco hat hha).symm)
    have h2 : isB l k 35 = true ∧ (nmB l (k + 1) || escB l (k + 1)) = true := by unfold hashB at hha; rwa [Bool.and_eq_true] at hha
    rw [h2.1] at hq35
    rw [h2.2] at cH1
    clear hqd hsp hsp' hnu hcd hna hco hat h2 hp34 hp39 hha
    generalize bytesF (namesF l (k + 1)).1 = txt at *
    generalize (namesF l (k + 1)).2 = m at *
    generalize nameAt l (k + 1) = na at *
    generalize isB l k 64 = p64 at *
    generalize chA l k = z at *
    rcases hat2 with rfl | ⟨rfl, rfl⟩
    · go_enter Tryd.func38, Tryd.ntmps38
      go_wp2_with fail
      rw [show w.alloc (Obj.cells #[.int .i64 0, .int .i64 0, .int .i64 0, .string ⟨#[]⟩, .string ⟨#[]⟩, .bool false] 33) = W0 from HW0.out.symm]
      refine (f0 _).mono ?_
      rintro e w' ⟨rfl, hw'⟩; replace hw' := hw'.symm; subst hw'
      clear hcc f0
      go_wp2_with (first
        | (go_at_call 46; (with_reducible refine cSN.mono ?_); rintro e w' ⟨rfl, hw'⟩; replace hw' := hw'.symm; subst hw')
        | (go_at_call 42; (with_reducible refine cB1.mono ?_); rintro e w1 ⟨rfl, hb1⟩; have hB1 := HB0.out.later hb1 HB0.out.lt; have hbl1 := HW.out.trans (hb1.mono HW.out.size))
        | (go_at_call 48; (with_reducible refine (cNA _ hbl1).mono ?_); rintro e w' ⟨rfl, hw'⟩; replace hw' := hw'.symm; subst hw')
        | (go_at_call 42; (with_reducible refine (cB2 _ hbl1).mono ?_); rintro e w2 ⟨rfl, hb2⟩; have hB2 := hB1.later hb2 hB1.lt; have hbl2 := hbl1.trans (hb2.mono hbl1.size))
        | (go_at_call 51; (with_reducible refine (cH1 _ hbl2).mono ?_); rintro e w' ⟨rfl, hw'⟩; replace hw' := hw'.symm; subst hw')
        | (go_at_call 50; (with_reducible refine (cR1 _ hbl2).mono ?_); rintro e w3 ⟨rfl, hb3⟩; have hB3 := hB2.later hb3 hB2.lt; have hbl3 := hbl2.trans (hb3.mono hbl2.size); have r0 := hB3.cell 0 _ rfl; have r1 := hB3.cell 1 _ rfl; have r2 := hB3.cell 2 _ rfl; have r3 := hB3.cell 3 _ rfl; have r4 := hB3.cell 4 _ rfl; have r5 := hB3.cell 5 _ rfl; have q0 := hB3.frozen 0; have q1 := hB3.frozen 1; have q2 := hB3.frozen 2; have q3 := hB3.frozen 3; have q4 := hB3.frozen 4; have q5 := hB3.frozen 5)
        | (go_at_call 48; (with_reducible refine (cN1 _ hbl3).mono ?_); rintro e w' ⟨rfl, hw'⟩; replace hw' := hw'.symm; subst hw'))
      refine bodyPost_ret (v := .agg #[.int .i64 4, .int .i64 0, .int .i64 (m : Nat), .string (strOfNums txt), .string ⟨#[]⟩, .bool na]) (by simp [results, Tryd.results38, go_sem, r0, r1, r2, r3, r4, r5]) rfl ⟨by rw [← e.out]; rfl, ?_⟩
      exact below_set6 hbl3 (Nat.le_refl _) _ _ _ _ _ _
    · go_enter Tryd.func38, Tryd.ntmps38
      go_wp2_with fail
      rw [show w.alloc (Obj.cells #[.int .i64 0, .int .i64 0, .int .i64 0, .string ⟨#[]⟩, .string ⟨#[]⟩, .bool false] 33) = W0 from HW0.out.symm]
      refine (f0 _).mono ?_
      rintro e w' ⟨rfl, hw'⟩; replace hw' := hw'.symm; subst hw'
      clear hcc f0
      go_wp2_with (first
        | (go_at_call 46; (with_reducible refine cSN.mono ?_); rintro e w' ⟨rfl, hw'⟩; replace hw' := hw'.symm; subst hw')
        | (go_at_call 42; (with_reducible refine cB1.mono ?_); rintro e w1 ⟨rfl, hb1⟩; have hB1 := HB0.out.later hb1 HB0.out.lt; have hbl1 := HW.out.trans (hb1.mono HW.out.size))
        | (go_at_call 48; (with_reducible refine (cNA _ hbl1).mono ?_); rintro e w' ⟨rfl, hw'⟩; replace hw' := hw'.symm; subst hw')
        | (go_at_call 42; (with_reducible refine (cB2 _ hbl1).mono ?_); rintro e w2 ⟨rfl, hb2⟩; have hB2 := hB1.later hb2 hB1.lt; have hbl2 := hbl1.trans (hb2.mono hbl1.size))
        | (go_at_call 48; (with_reducible refine (cN1 _ hbl2).mono ?_); rintro e w' ⟨rfl, hw'⟩; replace hw' := hw'.symm; subst hw')
        | (go_at_call 51; (with_reducible refine (cH1 _ hbl2).mono ?_); rintro e w' ⟨rfl, hw'⟩; replace hw' := hw'.symm; subst hw')
        | (go_at_call 50; (with_reducible refine (cR1 _ hbl2).mono ?_); rintro e w3 ⟨rfl, hb3⟩; have hB3 := hB2.later hb3 hB2.lt; have hbl3 := hbl2.trans (hb3.mono hbl2.size); have r0 := hB3.cell 0 _ rfl; have r1 := hB3.cell 1 _ rfl; have r2 := hB3.cell 2 _ rfl; have r3 := hB3.cell 3 _ rfl; have r4 := hB3.cell 4 _ rfl; have r5 := hB3.cell 5 _ rfl; have q0 := hB3.frozen 0; have q1 := hB3.frozen 1; have q2 := hB3.frozen 2; have q3 := hB3.frozen 3; have q4 := hB3.frozen 4; have q5 := hB3.frozen 5)
        | (go_at_call 48; (with_reducible refine (cN1 _ hbl3).mono ?_); rintro e w' ⟨rfl, hw'⟩; replace hw' := hw'.symm; subst hw'))
      refine bodyPost_ret (v := .agg #[.int .i64 4, .int .i64 0, .int .i64 (m : Nat), .string (strOfNums txt), .string ⟨#[]⟩, .bool false]) (by simp [results, Tryd.results38, go_sem, r0, r1, r2, r3, r4, r5]) rfl ⟨by rw [← e.out]; rfl, ?_⟩
      exact below_set6 hbl3 (Nat.le_refl _) _ _ _ _ _ _
  have e := Lib.hid (show (signF l k : Tk) = R from by rw [← hRR.out]; exact (tokZ_8 HK.out hsp hqd hnu hcd hna hco hat hha).symm)
  have hha2 : isB l k 35 = false ∨ (isB l k 35 = true ∧ (nmB l (k + 1) || escB l (k + 1)) = false) := by
    unfold hashB at hha
    revert hha; cases isB l k 35 <;> cases (nmB l (k + 1) || escB l (k + 1)) <;> simp
  have cSG := CSG.out
  rw [e.out] at cSG
  clear hqd hsp hsp' hnu hcd hna hco hat hp34 hp39 hha e cR1
  generalize nameAt l (k + 1) = na at *
  generalize (nmB l (k + 1) || escB l (k + 1)) = hn at *
  generalize isB l k 64 = p64 at *
  generalize isB l k 35 = p35 at *
  generalize chA l k = z at *
  rcases hat2 with rfl | ⟨rfl, rfl⟩ <;> rcases hha2 with rfl | ⟨rfl, rfl⟩
  all_goals
    go_enter Tryd.func38, Tryd.ntmps38
    go_wp2_with fail
    rw [show w.alloc (Obj.cells #[.int .i64 0, .int .i64 0, .int .i64 0, .string ⟨#[]⟩, .string ⟨#[]⟩, .bool false] 33) = W0 from HW0.out.symm]
    refine (f0 _).mono ?_
    rintro e w' ⟨rfl, hw'⟩; replace hw' := hw'.symm; subst hw'
    clear hcc f0
    go_wp2_with (first
      | (go_at_call 46; (with_reducible refine cSN.mono ?_); rintro e w' ⟨rfl, hw'⟩; replace hw' := hw'.symm; subst hw')
      | (go_at_call 42; (with_reducible refine cB1.mono ?_); rintro e w1 ⟨rfl, hb1⟩; have hB1 := HB0.out.later hb1 HB0.out.lt; have hbl1 := HW.out.trans (hb1.mono HW.out.size))
      | (go_at_call 48; (with_reducible refine (cNA _ hbl1).mono ?_); rintro e w' ⟨rfl, hw'⟩; replace hw' := hw'.symm; subst hw')
      | (go_at_call 42; (with_reducible refine (cB2 _ hbl1).mono ?_); rintro e w2 ⟨rfl, hb2⟩; have hB2 := hB1.later hb2 hB1.lt; have hbl2 := hbl1.trans (hb2.mono hbl1.size))
      | (go_at_call 48; (with_reducible refine (cN1 _ hbl2).mono ?_); rintro e w' ⟨rfl, hw'⟩; replace hw' := hw'.symm; subst hw')
      | (go_at_call 51; (with_reducible refine (cH1 _ hbl2).mono ?_); rintro e w' ⟨rfl, hw'⟩; replace hw' := hw'.symm; subst hw'))
    refine (cSG _ hbl2).mono ?_
    rintro e w3 ⟨rfl, hbz⟩
    have hBz := hB2.later hbz hB2.lt
    have hblz := hbl2.trans (hbz.mono hbl2.size)
    have r0 := hBz.cell 0 _ rfl
    have r1 := hBz.cell 1 _ rfl
    have r2 := hBz.cell 2 _ rfl
    have r3 := hBz.cell 3 _ rfl
    have r4 := hBz.cell 4 _ rfl
    have r5 := hBz.cell 5 _ rfl
    have q0 := hBz.frozen 0
    have q1 := hBz.frozen 1
    have q2 := hBz.frozen 2
    have q3 := hBz.frozen 3
    have q4 := hBz.frozen 4
    have q5 := hBz.frozen 5
    clear hbz
    obtain ⟨kd, fr, to_, tx, nm, wh⟩ := R
    unfold tkV tkCells
    go_wp2
    refine bodyPost_ret (v := tkV ⟨kd, fr, to_, tx, nm, wh⟩) (by simp [results, Tryd.results38, go_sem, tkV, tkCells, r0, r1, r2, r3, r4, r5]) rfl ⟨rfl, ?_⟩
    exact below_set6 hblz (Nat.le_refl _) _ _ _ _ _ _
end Go.Proofs.YtoepldjjoeidoaaDoor
