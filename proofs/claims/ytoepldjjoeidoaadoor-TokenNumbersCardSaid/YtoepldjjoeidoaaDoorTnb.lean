/- Tokens, the program's side: urls: the walk. -/
import Derived.Test.YtoepldjjoeidoaaDoorTna
namespace Go.Proofs.YtoepldjjoeidoaaDoor
open Go.RowKit Go.Shelf
set_option linter.unusedVariables false
set_option linter.unusedSimpArgs false

theorem urlS_cases (l : List Int) (i : Nat) (out : List Int) : (∃ t, urlS l i out = t) := ⟨_, rfl⟩

set_option maxRecDepth 100000 in
set_option maxHeartbeats 8000000 in
theorem urlC_any {a : Option Addr} {n cap : Nat} {l : List Int} {w : World} (i : Int) (k : Nat) (h : Src w a n cap l) (hM : MxW w) (hi : i = (k : Int)) (hk : k ≤ n) :
    Calls Tryd.prog 64 #[.slice a n cap, .int .i64 i] w (Told (tkV (urlS l k [])) w) := by
  subst hi
  obtain ⟨i0, hi, hz0, hz1, hz2⟩ := info_parts Tryd.info3
  have hsm := h.small
  have HL := Lib.hid h.len
  generalize hR : urlS l k [] = R
  have HR := Lib.hid hR
  have HP := Lib.hid h
  have HM := Lib.hid hM
  clear h hR hM
  have own0 := World.ownsRow_nil (w.alloc (.cells zeroTk.toArray 33)) (w.heap.size + 1) 3 1
  have HB0 := Lib.hid (Blk.alloc (w := w) zeroTk 33)
  go_enter Tryd.func64, Tryd.ntmps64
  go_wp2_with fail
  go_loopw [1, 5, 6, 7, 8] (fun v ov _ _ _ wr => ∃ (j : Nat) (out out' : List Int), v = .int .i64 j ∧ j ≤ n ∧ Hid (urlS l j out' = R) ∧ Hid (out.map cleanF = out'.map cleanF) ∧ out.length ≤ j ∧ wr.ownsRow (w.heap.size + 1) 3 1 ov out.length (out.map (Value.int .i64)) ∧ Hid (Blk wr w.heap.size zeroTk 33) ∧ Below w.heap.size w wr) (fun v _ _ _ _ _ => n - (intOf v).toNat)
  case atStart => exact ⟨k, [], [], rfl, by omega, HR, Lib.hid rfl, by simp, own0, HB0, (Below.refl _ _).alloc (Nat.le_refl _) _⟩
  case round =>
    obtain ⟨j, out, out', rfl, hj, hG, hE, hol, hown, hB, hbl⟩ := hrel
    have hS := Lib.hid (HP.out.later hbl)
    have HBL := Lib.hid hbl
    have hsz : w.heap.size + 1 ≤ wr.heap.size := hB.out.lt
    clear hbl
    have c3 := fun w => within_any (a := a) (n := n) (cap := cap) (w := w) ((j : Int) + 1) (j + 1) (by omega) (by omega) (by omega)
    by_cases hlt : j < n
    · have hlt' : (j : Int) < (n : Int) := by omega
      have HLT := Lib.hid (show j < l.length from by rw [HL.out]; exact hlt)
      obtain ⟨b, off, rfl, hc⟩ := hS.out.cell j hlt
      have hq : (chA l j != 41) = !isB l j 41 := by unfold isB; rfl
      have f1 := isEscape_any (j : Int) j hS.out rfl (by omega)
      have f3 := fun w => space_any (chA l j) w (chA_ch HP.out.pre j)
      have f4 := fun w => isWrong_any (chA l j) w (chA_ch HP.out.pre j)
      rcases h41 : isB l j 41 with _ | _
      · rw [h41] at hq
        rcases hes : escB l j with _ | _
        · rw [hes] at f1
          rcases hsp : spB l j with _ | _
          · have hsp' := hsp
            unfold spB at hsp'
            rw [hsp'] at f3
            have hub := urlBad_wrong hes hsp
            rcases hw : wrongB (chA l j) with _ | _
            · -- a character
              rw [hw] at f4 hub
              have h92 : isB l j 92 = false := by
                rcases q : isB l j 92 with _ | _
                · rfl
                · rw [isB_iff.1 q] at hw; exact absurd hw (by decide)
              have e := Lib.hid ((urlS_char HLT.out hsp h41 hub h92).symm.trans hG.out)
              have hE2 := Lib.hid (map_snoc2 hE.out (rfl : cleanF (chA l j) = cleanF (chA l j)))
              clear hsp hsp' hes h41 hG c3 hub hw h92
              generalize chA l j = z at *
              go_wp2_with (first
                | (go_at_call 55; (with_reducible refine f1.mono ?_); rintro e w1 ⟨rfl, hw1⟩; replace hw1 := hw1.symm; subst hw1)
                | (go_at_call 43; (with_reducible refine (f3 _).mono ?_); rintro e w1 ⟨rfl, hw1⟩; replace hw1 := hw1.symm; subst hw1)
                | (go_at_call 72; (with_reducible refine (f4 _).mono ?_); rintro e w1 ⟨rfl, hw1⟩; replace hw1 := hw1.symm; subst hw1)
                | (at_builtin; refine wpList_append_reads rfl _ _ 22 rfl (w.heap.size + 1) 3 i0 .i64 8 Tryd.underlying22 hi hz0 hz1 hz2 _ out.length out rfl (hown.alloc _) rfl (some ⟨wr.heap.size, 0, none⟩) 1 1 [z] rfl rfl (reads_new wr .i64 _ 3 1 rfl (by unfold maxLen; omega)) (fun h => by cases h) (by unfold maxLen; omega) (by omega) (by simp <;> omega) ?_; intro v' w3 hown3 hgrow3))
              have hB3 : Blk w3 w.heap.size zeroTk 33 := (hB.out.alloc_old _).kept hgrow3 (fun e => by have := (hown.lt _ e).1; omega)
              have hbl3 : Below w.heap.size w w3 := (HBL.out.alloc (by omega) _).grown hgrow3 (by simp <;> omega) (fun q hq => by have := (hown.lt q hq).1; omega)
              go_roundw
              case rel => exact ⟨j + 1, out ++ [z], out' ++ [z], by go_num, by omega, e, hE2, by rw [List.length_append]; simp; omega, hown3, Lib.hid hB3, hbl3⟩
              case measure => simp [intOf]; omega
            · -- one that may not stand there
              rw [hw] at f4 hub
              have e := Lib.hid ((urlS_bad HLT.out hsp h41 hub (out := out')).symm.trans hG.out)
              have f5 := badURL_any (j : Int) j hS.out rfl (by omega)
              rw [e.out] at f5
              clear hsp hsp' hes h41 hG c3 hub hw hown
              generalize chA l j = z at *
              go_wp2_with (first
                | (go_at_call 55; (with_reducible refine f1.mono ?_); rintro e w1 ⟨rfl, hw1⟩; replace hw1 := hw1.symm; subst hw1)
                | (go_at_call 43; (with_reducible refine (f3 _).mono ?_); rintro e w1 ⟨rfl, hw1⟩; replace hw1 := hw1.symm; subst hw1)
                | (go_at_call 72; (with_reducible refine (f4 _).mono ?_); rintro e w1 ⟨rfl, hw1⟩; replace hw1 := hw1.symm; subst hw1))
              refine f5.mono ?_
              rintro e w2 ⟨rfl, hb2⟩
              have hB2 := hB.out.later hb2 (by omega)
              have hbl2 := HBL.out.trans (hb2.mono (by omega))
              have r0 := hB2.cell 0 _ rfl
              have r1 := hB2.cell 1 _ rfl
              have r2 := hB2.cell 2 _ rfl
              have r3 := hB2.cell 3 _ rfl
              have r4 := hB2.cell 4 _ rfl
              have r5 := hB2.cell 5 _ rfl
              have q0 := hB2.frozen 0
              have q1 := hB2.frozen 1
              have q2 := hB2.frozen 2
              have q3 := hB2.frozen 3
              have q4 := hB2.frozen 4
              have q5 := hB2.frozen 5
              clear f5 hb2
              obtain ⟨kd, fr, to_, tx, nm, wh⟩ := R
              unfold tkV tkCells
              go_wp2
              refine bodyPost_ret (v := tkV ⟨kd, fr, to_, tx, nm, wh⟩) (by simp [results, Tryd.results64, go_sem, tkV, tkCells, r0, r1, r2, r3, r4, r5]) rfl ⟨rfl, ?_⟩
              exact below_set6 hbl2 (Nat.le_refl _) _ _ _ _ _ _
          · -- blanks
            have hsp' := hsp
            unfold spB at hsp'
            rw [hsp'] at f3
            have f6 := passBlanks_any (j : Int) j hS.out rfl (by omega)
            have hs1 := spacesF_pos hsp
            have hs2 := spacesF_le l j (by rw [HL.out]; omega)
            rw [HL.out] at hs2
            by_cases hsl : spacesF l j < n
            · obtain ⟨b', off', hcc, hc2⟩ := hS.out.cell (spacesF l j) hsl
              cases hcc
              have hq2 : (chA l (spacesF l j) != 41) = !isB l (spacesF l j) 41 := by unfold isB; rfl
              rcases h41b : isB l (spacesF l j) 41 with _ | _
              · rw [h41b] at hq2
                have e := Lib.hid ((urlS_rest (by rw [HL.out]; exact hsl) h41b hs1 (out := out')).symm.trans hG.out)
                have f5 := badURL_any ((spacesF l j : Nat) : Int) (spacesF l j) hS.out rfl (by omega)
                rw [e.out] at f5
                have hsl' : ((spacesF l j : Nat) : Int) < (n : Int) := by omega
                clear hsp hsp' hes h41 hG c3 hown f4 h41b
                generalize chA l (spacesF l j) = z2 at *
                generalize spacesF l j = s at *
                generalize chA l j = z at *
                go_wp2_with (first
                  | (go_at_call 55; (with_reducible refine f1.mono ?_); rintro e w1 ⟨rfl, hw1⟩; replace hw1 := hw1.symm; subst hw1)
                  | (go_at_call 43; (with_reducible refine (f3 _).mono ?_); rintro e w1 ⟨rfl, hw1⟩; replace hw1 := hw1.symm; subst hw1)
                  | (go_at_call 44; (with_reducible refine f6.mono ?_); rintro e w1 ⟨rfl, hw1⟩; replace hw1 := hw1.symm; subst hw1))
                refine f5.mono ?_
                rintro e w2 ⟨rfl, hb2⟩
                have hB2 := hB.out.later hb2 (by omega)
                have hbl2 := HBL.out.trans (hb2.mono (by omega))
                have r0 := hB2.cell 0 _ rfl
                have r1 := hB2.cell 1 _ rfl
                have r2 := hB2.cell 2 _ rfl
                have r3 := hB2.cell 3 _ rfl
                have r4 := hB2.cell 4 _ rfl
                have r5 := hB2.cell 5 _ rfl
                have q0 := hB2.frozen 0
                have q1 := hB2.frozen 1
                have q2 := hB2.frozen 2
                have q3 := hB2.frozen 3
                have q4 := hB2.frozen 4
                have q5 := hB2.frozen 5
                clear f5 hb2
                obtain ⟨kd, fr, to_, tx, nm, wh⟩ := R
                unfold tkV tkCells
                go_wp2
                refine bodyPost_ret (v := tkV ⟨kd, fr, to_, tx, nm, wh⟩) (by simp [results, Tryd.results64, go_sem, tkV, tkCells, r0, r1, r2, r3, r4, r5]) rfl ⟨rfl, ?_⟩
                exact below_set6 hbl2 (Nat.le_refl _) _ _ _ _ _ _
              · rw [h41b] at hq2
                have e := Lib.hid ((urlS_skip (.inr h41b) (out := out')).symm.trans hG.out)
                have hsl' : ((spacesF l j : Nat) : Int) < (n : Int) := by omega
                clear hsp hsp' hes h41 hG c3 f4 h41b
                generalize chA l (spacesF l j) = z2 at *
                generalize spacesF l j = s at *
                generalize chA l j = z at *
                go_wp2_with (first
                  | (go_at_call 55; (with_reducible refine f1.mono ?_); rintro e w1 ⟨rfl, hw1⟩; replace hw1 := hw1.symm; subst hw1)
                  | (go_at_call 43; (with_reducible refine (f3 _).mono ?_); rintro e w1 ⟨rfl, hw1⟩; replace hw1 := hw1.symm; subst hw1)
                  | (go_at_call 44; (with_reducible refine f6.mono ?_); rintro e w1 ⟨rfl, hw1⟩; replace hw1 := hw1.symm; subst hw1))
                go_roundw
                case rel => exact ⟨s, out, out', by go_num, by omega, e, hE, by omega, hown, hB, HBL.out⟩
                case measure => simp [intOf]; omega
            · have e := Lib.hid ((urlS_skip (.inl (by rw [HL.out]; omega)) (out := out')).symm.trans hG.out)
              have hsl' : ¬ ((spacesF l j : Nat) : Int) < (n : Int) := by omega
              clear hsp hsp' hes h41 hG c3 f4
              generalize spacesF l j = s at *
              generalize chA l j = z at *
              go_wp2_with (first
                | (go_at_call 55; (with_reducible refine f1.mono ?_); rintro e w1 ⟨rfl, hw1⟩; replace hw1 := hw1.symm; subst hw1)
                | (go_at_call 43; (with_reducible refine (f3 _).mono ?_); rintro e w1 ⟨rfl, hw1⟩; replace hw1 := hw1.symm; subst hw1)
                | (go_at_call 44; (with_reducible refine f6.mono ?_); rintro e w1 ⟨rfl, hw1⟩; replace hw1 := hw1.symm; subst hw1))
              go_roundw
              case rel => exact ⟨s, out, out', by go_num, by omega, e, hE, by omega, hown, hB, HBL.out⟩
              case measure => simp [intOf]; omega
        · -- an escape
          rw [hes] at f1
          obtain ⟨h92, hub⟩ := urlBad_esc hes
          have hsp : spB l j = false := by unfold spB; rw [isB_iff.1 h92]; decide
          have e := Lib.hid ((urlS_esc HLT.out hsp h41 hub h92 (out := out')).symm.trans hG.out)
          have hvv := valC_value (l := l) (j := j) HP.out.pre
          have hbd := valueF_bd (l := l) (j := j) HLT.out
          rw [HL.out] at hbd
          have hE2 := Lib.hid (map_snoc2 hE.out hvv.2)
          have f2 := readEscape_any (j : Int) j hS.out rfl hlt
          rw [hvv.1] at f2
          clear hsp hes h41 hG c3 hvv hub h92 f3 f4
          generalize (valueF l j).2 = j2 at *
          generalize (valueF l j).1 = c' at *
          generalize (valC l j).1 = c at *
          generalize chA l j = z at *
          go_wp2_with (first
            | (go_at_call 55; (with_reducible refine f1.mono ?_); rintro e w1 ⟨rfl, hw1⟩; replace hw1 := hw1.symm; subst hw1)
            | (go_at_call 56; (with_reducible refine f2.mono ?_); rintro e w1 ⟨rfl, hw1⟩; replace hw1 := hw1.symm; subst hw1)
            | (at_builtin; refine wpList_append_reads rfl _ _ 22 rfl (w.heap.size + 1) 3 i0 .i64 8 Tryd.underlying22 hi hz0 hz1 hz2 _ out.length out rfl (hown.alloc _) rfl (some ⟨wr.heap.size, 0, none⟩) 1 1 [c] rfl rfl (reads_new wr .i64 _ 3 1 rfl (by unfold maxLen; omega)) (fun h => by cases h) (by unfold maxLen; omega) (by omega) (by simp <;> omega) ?_; intro v' w3 hown3 hgrow3))
          have hB3 : Blk w3 w.heap.size zeroTk 33 := (hB.out.alloc_old _).kept hgrow3 (fun e => by have := (hown.lt _ e).1; omega)
          have hbl3 : Below w.heap.size w w3 := (HBL.out.alloc (by omega) _).grown hgrow3 (by simp <;> omega) (fun q hq => by have := (hown.lt q hq).1; omega)
          go_roundw
          case rel => exact ⟨j2, out ++ [c], out' ++ [c'], by go_num, by omega, e, hE2, by rw [List.length_append]; simp; omega, hown3, Lib.hid hB3, hbl3⟩
          case measure => simp [intOf]; omega
      · -- the end of it
        rw [h41] at hq
        have hsp : spB l j = false := by unfold spB; rw [isB_iff.1 h41]; decide
        have hss := spacesF_stop hsp
        have e := Lib.hid ((urlS_close (by rw [hss]; exact HLT.out) (by rw [hss]; exact h41) (out := out')).symm.trans hG.out)
        rw [hss] at e
        rw [Nat.min_eq_left (by omega : j + 1 ≤ n)] at c3
        obtain ⟨a2, c2, hv, hrd⟩ := Reads.of_owns hown
        subst hv
        have cT := tokText_any a2 c2 out.length out wr rfl hrd (by omega) (HM.out.later HBL.out)
        clear h41 hG hsp hss f1 f3 f4 hown
        generalize chA l j = z at *
        go_wp2_with (go_at_call 17; (with_reducible refine (c3 _).mono ?_); rintro e w1 ⟨rfl, hw1⟩; replace hw1 := hw1.symm; subst hw1)
        refine cT.mono ?_
        rintro e w2 ⟨rfl, hb2⟩
        have hB2 := hB.out.later hb2 (by omega)
        have hbl2 := HBL.out.trans (hb2.mono (by omega))
        have r0 := hB2.cell 0 _ rfl
        have r1 := hB2.cell 1 _ rfl
        have r2 := hB2.cell 2 _ rfl
        have r3 := hB2.cell 3 _ rfl
        have r4 := hB2.cell 4 _ rfl
        have r5 := hB2.cell 5 _ rfl
        have q0 := hB2.frozen 0
        have q1 := hB2.frozen 1
        have q2 := hB2.frozen 2
        have q3 := hB2.frozen 3
        have q4 := hB2.frozen 4
        have q5 := hB2.frozen 5
        clear cT hb2
        go_wp2
        refine bodyPost_ret (v := .agg #[.int .i64 7, .int .i64 0, .int .i64 (j + 1 : Nat), .string (strOfNums (bytesF out)), .string ⟨#[]⟩, .bool false]) (by simp [results, Tryd.results64, go_sem, r0, r1, r2, r3, r4, r5]) rfl ⟨by rw [← e.out, bytesF_same hE.out]; rfl, ?_⟩
        exact below_set6 hbl2 (Nat.le_refl _) _ _ _ _ _ _
    · obtain rfl : j = n := by omega
      have hlt' : ¬ (j : Int) < (j : Int) := by omega
      have e := Lib.hid ((urlS_end (out := out') (i := j) (by have := (spacesGo_le l (l.length + 1) j).1; have := HL.out; unfold spacesF; omega)).symm.trans hG.out)
      rw [Nat.min_eq_right (by omega : j ≤ j + 1)] at c3
      obtain ⟨a2, c2, hv, hrd⟩ := Reads.of_owns hown
      subst hv
      have cT := tokText_any a2 c2 out.length out wr rfl hrd (by omega) (HM.out.later HBL.out)
      clear hG hown hlt
      go_wp2_with (go_at_call 17; (with_reducible refine (c3 _).mono ?_); rintro e w1 ⟨rfl, hw1⟩; replace hw1 := hw1.symm; subst hw1)
      refine cT.mono ?_
      rintro e w2 ⟨rfl, hb2⟩
      have hB2 := hB.out.later hb2 (by omega)
      have hbl2 := HBL.out.trans (hb2.mono (by omega))
      have r0 := hB2.cell 0 _ rfl
      have r1 := hB2.cell 1 _ rfl
      have r2 := hB2.cell 2 _ rfl
      have r3 := hB2.cell 3 _ rfl
      have r4 := hB2.cell 4 _ rfl
      have r5 := hB2.cell 5 _ rfl
      have q0 := hB2.frozen 0
      have q1 := hB2.frozen 1
      have q2 := hB2.frozen 2
      have q3 := hB2.frozen 3
      have q4 := hB2.frozen 4
      have q5 := hB2.frozen 5
      clear cT hb2
      go_wp2
      refine bodyPost_ret (v := .agg #[.int .i64 7, .int .i64 0, .int .i64 (j : Nat), .string (strOfNums (bytesF out)), .string ⟨#[]⟩, .bool false]) (by simp [results, Tryd.results64, go_sem, r0, r1, r2, r3, r4, r5]) rfl ⟨by rw [← e.out, bytesF_same hE.out, HL.out]; rfl, ?_⟩
      exact below_set6 hbl2 (Nat.le_refl _) _ _ _ _ _ _
end Go.Proofs.YtoepldjjoeidoaaDoor
