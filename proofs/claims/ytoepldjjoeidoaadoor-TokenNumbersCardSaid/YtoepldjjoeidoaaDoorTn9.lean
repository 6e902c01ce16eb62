/- Tokens, the program's side: strings: a walk. -/
import Derived.Test.YtoepldjjoeidoaaDoorTn8
namespace Go.Proofs.YtoepldjjoeidoaaDoor
open Go.RowKit Go.Shelf
set_option linter.unusedVariables false
set_option linter.unusedSimpArgs false

theorem quotedGo_frm (l : List Int) (mark : Int) (frm : Nat) : ∀ (f i : Nat) (out : List Int), tkZ (quotedGo f l mark frm i out) = quotedGo f l mark 0 i out
  | 0, i, out => rfl
  | f + 1, i, out => by
    rw [quotedGo, quotedGo]
    split
    · rfl
    · split
      · rfl
      · split
        · rfl
        · split
          · exact quotedGo_frm l mark frm f _ _
          · split
            · exact quotedGo_frm l mark frm f _ _
            · split
              · exact quotedGo_frm l mark frm f _ _
              · exact quotedGo_frm l mark frm f _ _
theorem quotedGo_fuel (l : List Int) (mark : Int) : ∀ (f g i : Nat) (out : List Int), i ≤ l.length → l.length < i + f → l.length < i + g → quotedGo f l mark 0 i out = quotedGo g l mark 0 i out
  | f, g, i, out, hi, hf, hg => by
    obtain ⟨f, rfl⟩ : ∃ f', f = f' + 1 := ⟨f - 1, by omega⟩
    obtain ⟨g, rfl⟩ : ∃ g', g = g' + 1 := ⟨g - 1, by omega⟩
    rw [quotedGo, quotedGo]
    by_cases h1 : l.length ≤ i
    · rw [if_pos h1, if_pos h1]
    · rw [if_neg h1, if_neg h1]
      by_cases h2 : isB l i mark = true
      · rw [if_pos h2, if_pos h2]
      · rw [if_neg h2, if_neg h2]
        by_cases h3 : isB l i 10 = true
        · rw [if_pos h3, if_pos h3]
        · rw [if_neg h3, if_neg h3]
          by_cases h4 : (!isB l i 92) = true
          · rw [if_pos h4, if_pos h4]; exact quotedGo_fuel l mark f g _ _ (by omega) (by omega) (by omega)
          · rw [if_neg h4, if_neg h4]
            by_cases h5 : l.length ≤ i + 1
            · rw [if_pos h5, if_pos h5]; exact quotedGo_fuel l mark f g _ _ (by omega) (by omega) (by omega)
            · rw [if_neg h5, if_neg h5]
              by_cases h6 : isB l (i + 1) 10 = true
              · rw [if_pos h6, if_pos h6]; exact quotedGo_fuel l mark f g _ _ (by omega) (by omega) (by omega)
              · rw [if_neg h6, if_neg h6]
                have := valueF_bd (l := l) (j := i) (by omega)
                exact quotedGo_fuel l mark f g _ _ (by omega) (by omega) (by omega)
def quoF (l : List Int) (mark : Int) (i : Nat) (out : List Int) : Tk := quotedGo (l.length + 1) l mark 0 i out
section
variable {l : List Int} {mark : Int} {i : Nat} {out : List Int}
theorem quoF_end (h : l.length ≤ i) : quoF l mark i out = ⟨5, 0, i, bytesF out, [], false⟩ := by unfold quoF; rw [quotedGo, if_pos h]
theorem quoF_mark (h : i < l.length) (h2 : isB l i mark = true) : quoF l mark i out = ⟨5, 0, i + 1, bytesF out, [], false⟩ := by unfold quoF; rw [quotedGo, if_neg (by omega), if_pos h2]
theorem quoF_bad (h : i < l.length) (h2 : isB l i mark = false) (h3 : isB l i 10 = true) : quoF l mark i out = ⟨6, 0, i, [], [], false⟩ := by
  unfold quoF; rw [quotedGo, if_neg (by omega), if_neg (by rw [h2]; decide), if_pos h3]
theorem quoF_char (h : i < l.length) (h2 : isB l i mark = false) (h3 : isB l i 10 = false) (h4 : isB l i 92 = false) : quoF l mark i out = quoF l mark (i + 1) (out ++ [chA l i]) := by
  unfold quoF
  rw [quotedGo, if_neg (by omega), if_neg (by rw [h2]; decide), if_neg (by rw [h3]; decide), if_pos (by rw [h4]; rfl)]
  exact quotedGo_fuel l mark _ _ _ _ (by omega) (by omega) (by omega)
theorem quoF_last (h : i < l.length) (h2 : isB l i mark = false) (h3 : isB l i 10 = false) (h4 : isB l i 92 = true) (h5 : l.length ≤ i + 1) : quoF l mark i out = quoF l mark (i + 1) out := by
  unfold quoF
  rw [quotedGo, if_neg (by omega), if_neg (by rw [h2]; decide), if_neg (by rw [h3]; decide), if_neg (by rw [h4]; decide), if_pos h5]
  exact quotedGo_fuel l mark _ _ _ _ (by omega) (by omega) (by omega)
theorem quoF_line (h : i + 1 < l.length) (h2 : isB l i mark = false) (h3 : isB l i 10 = false) (h4 : isB l i 92 = true) (h5 : isB l (i + 1) 10 = true) : quoF l mark i out = quoF l mark (i + 2) out := by
  unfold quoF
  rw [quotedGo, if_neg (by omega), if_neg (by rw [h2]; decide), if_neg (by rw [h3]; decide), if_neg (by rw [h4]; decide), if_neg (by omega), if_pos h5]
  exact quotedGo_fuel l mark _ _ _ _ (by omega) (by omega) (by omega)
theorem quoF_esc (h : i + 1 < l.length) (h2 : isB l i mark = false) (h3 : isB l i 10 = false) (h4 : isB l i 92 = true) (h5 : isB l (i + 1) 10 = false) : quoF l mark i out = quoF l mark (valueF l i).2 (out ++ [(valueF l i).1]) := by
  unfold quoF
  rw [quotedGo, if_neg (by omega), if_neg (by rw [h2]; decide), if_neg (by rw [h3]; decide), if_neg (by rw [h4]; decide), if_neg (by omega), if_neg (by rw [h5]; decide)]
  have := valueF_bd (l := l) (j := i) (by omega)
  exact quotedGo_fuel l mark _ _ _ _ (by omega) (by omega) (by omega)
end

set_option maxRecDepth 100000 in
set_option maxHeartbeats 4000000 in
theorem quotedC_any {a : Option Addr} {n cap : Nat} {l : List Int} {w : World} (i : Int) (k : Nat) (h : Src w a n cap l) (hM : MxW w) (hi : i = (k : Int)) (hk : k < n) :
    Calls Tryd.prog 45 #[.slice a n cap, .int .i64 i] w (Told (tkV (quoF l (chA l k) (k + 1) [])) w) := by
  subst hi
  obtain ⟨i0, hi, hz0, hz1, hz2⟩ := info_parts Tryd.info3
  have hsm := h.small
  have HL := Lib.hid h.len
  generalize hR : quoF l (chA l k) (k + 1) [] = R
  have HR := Lib.hid hR
  have HP := Lib.hid h
  have HM := Lib.hid hM
  obtain ⟨b, off, rfl, hc0⟩ := h.cell k hk
  have hc : ∀ o, (w.alloc o).cell? ⟨b, off + k, none⟩ = some (.int .i64 (chA l k)) := fun o => ((Below.refl _ w).alloc (Nat.le_refl _) o).cell (p := ⟨b, off + k, none⟩) (World.block_lt_of_cell? w _ hc0) |>.trans hc0
  clear h hR hM hc0
  generalize hmk : chA l k = mark at *
  have own0 := World.ownsRow_nil (w.alloc (.cells zeroTk.toArray 33)) (w.heap.size + 1) 3 1
  have HB0 := Lib.hid (Blk.alloc (w := w) zeroTk 33)
  have HMK := Lib.hid hmk
  clear hmk
  go_enter Tryd.func45, Tryd.ntmps45
  go_wp2_with fail
  go_loopw [1, 5, 7, 8] (fun v ov _ _ wr => ∃ (j : Nat) (out out' : List Int), v = .int .i64 j ∧ j ≤ n ∧ Hid (quoF l mark j out' = R) ∧ Hid (out.map cleanF = out'.map cleanF) ∧ out.length ≤ j ∧ wr.ownsRow (w.heap.size + 1) 3 1 ov out.length (out.map (Value.int .i64)) ∧ Hid (Blk wr w.heap.size zeroTk 33) ∧ Below w.heap.size w wr) (fun v _ _ _ _ => n - (intOf v).toNat)
  case atStart => exact ⟨k + 1, [], [], by go_num, by omega, HR, Lib.hid rfl, by simp, own0, HB0, (Below.refl _ _).alloc (Nat.le_refl _) _⟩
  case round =>
    obtain ⟨j, out, out', rfl, hj, hG, hE, hol, hown, hB, hbl⟩ := hrel
    have hS := Lib.hid (HP.out.later hbl)
    have HBL := Lib.hid hbl
    have hsz : w.heap.size + 1 ≤ wr.heap.size := hB.out.lt
    clear hbl hc
    have c3 := fun w => within_any (a := some ⟨b, off, none⟩) (n := n) (cap := cap) (w := w) ((j : Int) + 1) (j + 1) (by omega) (by omega) (by omega)
    by_cases hlt : j < n
    · have hlt' : (j : Int) < (n : Int) := by omega
      have hc : wr.cell? ⟨b, off + j, none⟩ = some (.int .i64 (chA l j)) := by
        obtain ⟨b', off', e, hc⟩ := hS.out.cell j hlt
        cases e; exact hc
      have hq : (chA l j != mark) = !isB l j mark := by unfold isB; rfl
      have hq10 : (chA l j == 10) = isB l j 10 := by unfold isB; rfl
      have hq92 : (chA l j != 92) = !isB l j 92 := by unfold isB; rfl
      rcases hm : isB l j mark with _ | _
      · rw [hm] at hq
        rcases h10 : isB l j 10 with _ | _
        · rw [h10] at hq10
          rcases h92 : isB l j 92 with _ | _
          · -- a character
            have e := Lib.hid ((quoF_char (by rw [HL.out]; exact hlt) hm h10 h92).symm.trans hG.out)
            rw [h92] at hq92
            have hE2 := Lib.hid (map_snoc2 hE.out (rfl : cleanF (chA l j) = cleanF (chA l j)))
            clear hm h10 h92 hG c3
            generalize chA l j = z at *
            go_wp2_with (at_builtin; refine wpList_append_reads rfl _ _ 22 rfl (w.heap.size + 1) 3 i0 .i64 8 Tryd.underlying22 hi hz0 hz1 hz2 _ out.length out rfl (hown.alloc _) rfl (some ⟨wr.heap.size, 0, none⟩) 1 1 [z] rfl rfl (reads_new wr .i64 _ 3 1 rfl (by unfold maxLen; omega)) (fun h => by cases h) (by unfold maxLen; omega) (by omega) (by simp <;> omega) ?_; intro v' w3 hown3 hgrow3)
            have hB3 : Blk w3 w.heap.size zeroTk 33 := (hB.out.alloc_old _).kept hgrow3 (fun e => by have := (hown.lt _ e).1; omega)
            have hbl3 : Below w.heap.size w w3 := (HBL.out.alloc (by omega) _).grown hgrow3 (by simp <;> omega) (fun q hq => by have := (hown.lt q hq).1; omega)
            go_roundw
            case rel => exact ⟨j + 1, out ++ [z], out' ++ [z], by go_num, by omega, e, hE2, by rw [List.length_append]; simp; omega, hown3, Lib.hid hB3, hbl3⟩
            case measure => simp [intOf]; omega
          · rw [h92] at hq92
            have f1 := isEscape_any (j : Int) j hS.out rfl (by omega)
            have c4 := fun w => within_any (a := some ⟨b, off, none⟩) (n := n) (cap := cap) (w := w) ((j : Int) + 2) (j + 2) (by omega) (by omega) (by omega)
            by_cases h5 : j + 1 < n
            · have h5' : (j : Int) + 1 < (n : Int) := by omega
              rcases h6 : isB l (j + 1) 10 with _ | _
              · -- an escape
                have e := Lib.hid ((quoF_esc (out := out') (by rw [HL.out]; exact h5) hm h10 h92 h6).symm.trans hG.out)
                have hes : escB l j = true := by unfold escB; rw [h92, h6]; rfl
                rw [hes] at f1
                have hvv := valC_value (l := l) (j := j) HP.out.pre
                have hbd := valueF_bd (l := l) (j := j) (by rw [HL.out]; exact hlt)
                rw [HL.out] at hbd
                have hE2 := Lib.hid (map_snoc2 hE.out hvv.2)
                have f2 := readEscape_any (j : Int) j hS.out rfl hlt
                rw [hvv.1] at f2
                clear hm h10 h92 h6 hes hG c3 c4 hvv
                generalize (valueF l j).2 = j2 at *
                generalize (valueF l j).1 = c' at *
                generalize (valC l j).1 = c at *
                generalize chA l j = z at *
                go_wp2_with (first
                  | (go_at_call 55; (with_reducible refine f1.mono ?_); rintro e w1 ⟨rfl, hw1⟩; replace hw1 := hw1.symm; subst hw1)
                  | (go_at_call 56; (with_reducible refine f2.mono ?_); rintro e w1 ⟨rfl, hw1⟩; replace hw1 := hw1.symm; subst hw1)
                  | (at_builtin; refine wpList_append_reads rfl _ _ 22 rfl (w.heap.size + 1) 3 i0 .i64 8 Tryd.underlying22 hi hz0 hz1 hz2 _ out.length out rfl (hown.alloc _) rfl (some ⟨wr.heap.size, 0, none⟩) 1 1 [c] rfl rfl (reads_new wr .i64 _ 3 1 rfl (by unfold maxLen; omega)) (fun h => by cases h) (by unfold maxLen; omega) (by omega) (by simp <;> omega) ?_; intro v' w3 hown3 hgrow3))
                have hB3 : Blk w3 w.heap.size zeroTk 33 := (hB.out.alloc_old _).kept hgrow3 (fun e => by have := (hown.lt _ e).1; omega)
                have hbl3 : Below w.heap.size w w3 := (HBL.out.alloc (by omega) _).grown hgrow3 (by simp <;> omega) (fun q hq => by have := (hown.lt q hq).1; omega)
                go_roundw
                case rel => exact ⟨j2, out ++ [c], out' ++ [c'], by go_num, by omega, e, hE2, by rw [List.length_append]; simp; omega, hown3, Lib.hid hB3, hbl3⟩
                case measure => simp [intOf]; omega
              · -- an end of a line behind it
                have e := Lib.hid ((quoF_line (out := out') (by rw [HL.out]; exact h5) hm h10 h92 h6).symm.trans hG.out)
                have hes : escB l j = false := by unfold escB; rw [h92, h6]; rfl
                rw [hes] at f1
                rw [Nat.min_eq_left (by omega : j + 2 ≤ n)] at c4
                clear hm h10 h92 h6 hes hG c3
                generalize chA l j = z at *
                go_wp2_with (first
                  | (go_at_call 55; (with_reducible refine f1.mono ?_); rintro e w1 ⟨rfl, hw1⟩; replace hw1 := hw1.symm; subst hw1)
                  | (go_at_call 17; (with_reducible refine (c4 _).mono ?_); rintro e w1 ⟨rfl, hw1⟩; replace hw1 := hw1.symm; subst hw1))
                go_roundw
                case rel => exact ⟨j + 2, out, out', by go_num, by omega, e, hE, by omega, hown, hB, HBL.out⟩
                case measure => simp [intOf]; omega
            · have h5' : ¬ (j : Int) + 1 < (n : Int) := by omega
              have e := Lib.hid ((quoF_last (out := out') (by rw [HL.out]; exact hlt) hm h10 h92 (by rw [HL.out]; omega)).symm.trans hG.out)
              have hj1 : min (j + 2) n = j + 1 := by omega
              rw [hj1] at c4
              clear hm h10 h92 hG c3 f1
              generalize chA l j = z at *
              go_wp2_with (go_at_call 17; (with_reducible refine (c4 _).mono ?_); rintro e w1 ⟨rfl, hw1⟩; replace hw1 := hw1.symm; subst hw1)
              go_roundw
              case rel => exact ⟨j + 1, out, out', by go_num, by omega, e, hE, by omega, hown, hB, HBL.out⟩
              case measure => simp [intOf]; omega
        · -- an end of a line
          rw [h10] at hq10
          have e := Lib.hid ((quoF_bad (out := out') (by rw [HL.out]; exact hlt) hm h10).symm.trans hG.out)
          have r0 := hB.out.cell 0 _ rfl
          have r1 := hB.out.cell 1 _ rfl
          have r2 := hB.out.cell 2 _ rfl
          have r3 := hB.out.cell 3 _ rfl
          have r4 := hB.out.cell 4 _ rfl
          have r5 := hB.out.cell 5 _ rfl
          have q0 := hB.out.frozen 0
          have q1 := hB.out.frozen 1
          have q2 := hB.out.frozen 2
          have q3 := hB.out.frozen 3
          have q4 := hB.out.frozen 4
          have q5 := hB.out.frozen 5
          clear hm h10 hG c3 hq92
          generalize chA l j = z at *
          go_wp2
          refine bodyPost_ret (v := .agg #[.int .i64 6, .int .i64 0, .int .i64 j, .string ⟨#[]⟩, .string ⟨#[]⟩, .bool false]) (by simp [results, Tryd.results45, go_sem, r0, r1, r2, r3, r4, r5]) rfl ⟨by rw [← e.out]; rfl, ?_⟩
          exact below_set6 HBL.out (Nat.le_refl _) _ _ _ _ _ _
      · -- the mark
        rw [hm] at hq
        have e := Lib.hid ((quoF_mark (out := out') (by rw [HL.out]; exact hlt) hm).symm.trans hG.out)
        rw [Nat.min_eq_left (by omega : j + 1 ≤ n)] at c3
        obtain ⟨a2, c2, hv, hrd⟩ := Reads.of_owns hown
        subst hv
        have cT := tokText_any a2 c2 out.length out wr rfl hrd (by omega) (HM.out.later HBL.out)
        clear hm hG hq10 hq92 hown
        generalize chA l j = z at *
        go_wp2_with (go_at_call 17; (with_reducible refine (c3 _).mono ?_); rintro e w1 ⟨rfl, hw1⟩; replace hw1 := hw1.symm; subst hw1)
        refine cT.mono ?_
        rintro e w2 ⟨rfl, hb2⟩
        have hB2 := hB.out.later hb2 (by omega)
        have hbl2 := HBL.out.trans (hb2.mono (by omega))
        have r0 := hB2.cell 0 _ rfl
        have r1 := hB2.cell 1 _ rfl
        have r2 := hB2.cell 2 _ rfl
        have r3 := hB2.cell 3 _ rfl
        have r4 := hB2.cell 4 _ rfl
        have r5 := hB2.cell 5 _ rfl
        have q0 := hB2.frozen 0
        have q1 := hB2.frozen 1
        have q2 := hB2.frozen 2
        have q3 := hB2.frozen 3
        have q4 := hB2.frozen 4
        have q5 := hB2.frozen 5
        clear cT hb2
        go_wp2
        refine bodyPost_ret (v := .agg #[.int .i64 5, .int .i64 0, .int .i64 (j + 1 : Nat), .string (strOfNums (bytesF out)), .string ⟨#[]⟩, .bool false]) (by simp [results, Tryd.results45, go_sem, r0, r1, r2, r3, r4, r5]) rfl ⟨by rw [← e.out, bytesF_same hE.out]; rfl, ?_⟩
        exact below_set6 hbl2 (Nat.le_refl _) _ _ _ _ _ _
    · obtain rfl : j = n := by omega
      have hlt' : ¬ (j : Int) < (j : Int) := by omega
      have e := Lib.hid ((quoF_end (out := out') (by rw [HL.out]; exact Nat.le_refl _)).symm.trans hG.out)
      rw [Nat.min_eq_right (by omega : j ≤ j + 1)] at c3
      obtain ⟨a2, c2, hv, hrd⟩ := Reads.of_owns hown
      subst hv
      have cT := tokText_any a2 c2 out.length out wr rfl hrd (by omega) (HM.out.later HBL.out)
      clear hG hown hlt
      go_wp2_with (go_at_call 17; (with_reducible refine (c3 _).mono ?_); rintro e w1 ⟨rfl, hw1⟩; replace hw1 := hw1.symm; subst hw1)
      refine cT.mono ?_
      rintro e w2 ⟨rfl, hb2⟩
      have hB2 := hB.out.later hb2 (by omega)
      have hbl2 := HBL.out.trans (hb2.mono (by omega))
      have r0 := hB2.cell 0 _ rfl
      have r1 := hB2.cell 1 _ rfl
      have r2 := hB2.cell 2 _ rfl
      have r3 := hB2.cell 3 _ rfl
      have r4 := hB2.cell 4 _ rfl
      have r5 := hB2.cell 5 _ rfl
      have q0 := hB2.frozen 0
      have q1 := hB2.frozen 1
      have q2 := hB2.frozen 2
      have q3 := hB2.frozen 3
      have q4 := hB2.frozen 4
      have q5 := hB2.frozen 5
      clear cT hb2
      go_wp2
      refine bodyPost_ret (v := .agg #[.int .i64 5, .int .i64 0, .int .i64 (j : Nat), .string (strOfNums (bytesF out)), .string ⟨#[]⟩, .bool false]) (by simp [results, Tryd.results45, go_sem, r0, r1, r2, r3, r4, r5]) rfl ⟨by rw [← e.out, bytesF_same hE.out]; rfl, ?_⟩
      exact below_set6 hbl2 (Nat.le_refl _) _ _ _ _ _ _
end Go.Proofs.YtoepldjjoeidoaaDoor
