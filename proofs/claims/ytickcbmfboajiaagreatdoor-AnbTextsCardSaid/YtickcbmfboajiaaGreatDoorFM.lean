/- Several texts of mine in one. -/
import Derived.Test.YtickcbmfboajiaaGreatDoorTnaZ
namespace Go.Proofs.YtickcbmfboajiaaGreatDoor
section
open Go.RowKit Go.Shelf
set_option linter.unusedVariables false
set_option linter.unusedSimpArgs false

theorem urlS_cases (l : List Int) (i : Nat) (out : List Int) : (∃ t, urlS l i out = t) := ⟨_, rfl⟩

set_option maxRecDepth 100000 in
set_option maxHeartbeats 8000000 in
theorem urlC_any {a : Option Addr} {n cap : Nat} {l : List Int} {w : World} (i : Int) (k : Nat) (h : Src w a n cap l) (hM : MxW w) (hi : i = (k : Int)) (hk : k ≤ n) :
    Calls Tryz.prog 128 #[.slice a n cap, .int .i64 i] w (Told (tkV (urlS l k [])) w) := by
  subst hi
  obtain ⟨i0, hi, hz0, hz1, hz2⟩ := info_parts Tryz.info3
  have hsm := h.small
  have HL := Lib.hid h.len
  generalize hR : urlS l k [] = R
  have HR := Lib.hid hR
  have HP := Lib.hid h
  have HM := Lib.hid hM
  clear h hR hM
  have own0 := World.ownsRow_nil (w.alloc (.cells zeroTk.toArray 32)) (w.heap.size + 1) 3 1
  have HB0 := Lib.hid (Blk.alloc (w := w) zeroTk 32)
  go_enter Tryz.func128, Tryz.ntmps128
  go_wp2_with fail
  go_loopw [1, 5, 6, 7, 8] (fun v ov _ _ _ wr => ∃ (j : Nat) (out out' : List Int), v = .int .i64 j ∧ j ≤ n ∧ Hid (urlS l j out' = R) ∧ Hid (out.map cleanF = out'.map cleanF) ∧ out.length ≤ j ∧ wr.ownsRow (w.heap.size + 1) 3 1 ov out.length (out.map (Value.int .i64)) ∧ Hid (Blk wr w.heap.size zeroTk 32) ∧ Below w.heap.size w wr) (fun v _ _ _ _ _ => n - (intOf v).toNat)
  case atStart => exact ⟨k, [], [], rfl, by omega, HR, Lib.hid rfl, by simp, own0, HB0, (Below.refl _ _).alloc (Nat.le_refl _) _⟩
  case round =>
    obtain ⟨j, out, out', rfl, hj, hG, hE, hol, hown, hB, hbl⟩ := hrel
    have hS := Lib.hid (HP.out.later hbl)
    have HBL := Lib.hid hbl
    have hsz : w.heap.size + 1 ≤ wr.heap.size := hB.out.lt
    clear hbl
    have c3 := fun w => within_any (a := a) (n := n) (cap := cap) (w := w) ((j : Int) + 1) (j + 1) (by omega) (by omega) (by omega)
    by_cases hlt : j < n
    · have hlt' : (j : Int) < (n : Int) := by omega
      have HLT := Lib.hid (show j < l.length from by rw [HL.out]; exact hlt)
      obtain ⟨b, off, rfl, hc⟩ := hS.out.cell j hlt
      have hq : (chA l j != 41) = !isB l j 41 := by unfold isB; rfl
      have f1 := isEscape_any (j : Int) j hS.out rfl (by omega)
      have f3 := fun w => space_any (chA l j) w (chA_ch HP.out.pre j)
      have f4 := fun w => isWrong_any (chA l j) w (chA_ch HP.out.pre j)
      rcases h41 : isB l j 41 with _ | _
      · rw [h41] at hq
        rcases hes : escB l j with _ | _
        · rw [hes] at f1
          rcases hsp : spB l j with _ | _
          · have hsp' := hsp
            unfold spB at hsp'
            rw [hsp'] at f3
            have hub := urlBad_wrong hes hsp
            rcases hw : wrongB (chA l j) with _ | _
            · -- a character
              rw [hw] at f4 hub
              have h92 : isB l j 92 = false := by
                rcases q : isB l j 92 with _ | _
                · rfl
                · rw [isB_iff.1 q] at hw; exact absurd hw (by decide)
              have e := Lib.hid ((urlS_char HLT.out hsp h41 hub h92).symm.trans hG.out)
              have hE2 := Lib.hid (map_snoc2 hE.out (rfl : cleanF (chA l j) = cleanF (chA l j)))
              clear hsp hsp' hes h41 hG c3 hub hw h92
              generalize chA l j = z at *
              go_wp2_with (first
                | (go_at_call 120; (with_reducible refine f1.mono ?_); rintro e w1 ⟨rfl, hw1⟩; replace hw1 := hw1.symm; subst hw1)
                | (go_at_call 84; (with_reducible refine (f3 _).mono ?_); rintro e w1 ⟨rfl, hw1⟩; replace hw1 := hw1.symm; subst hw1)
                | (go_at_call 151; (with_reducible refine (f4 _).mono ?_); rintro e w1 ⟨rfl, hw1⟩; replace hw1 := hw1.symm; subst hw1)
                | (at_builtin; refine wpList_append_reads rfl _ _ 28 rfl (w.heap.size + 1) 3 i0 .i64 8 Tryz.underlying28 hi hz0 hz1 hz2 _ out.length out rfl (hown.alloc _) rfl (some ⟨wr.heap.size, 0, none⟩) 1 1 [z] rfl rfl (reads_new wr .i64 _ 3 1 rfl (by unfold maxLen; omega)) (fun h => by cases h) (by unfold maxLen; omega) (by omega) (by simp <;> omega) ?_; intro v' w3 hown3 hgrow3))
              have hB3 : Blk w3 w.heap.size zeroTk 32 := (hB.out.alloc_old _).kept hgrow3 (fun e => by have := (hown.lt _ e).1; omega)
              have hbl3 : Below w.heap.size w w3 := (HBL.out.alloc (by omega) _).grown hgrow3 (by simp <;> omega) (fun q hq => by have := (hown.lt q hq).1; omega)
              go_roundw
              case rel => exact ⟨j + 1, out ++ [z], out' ++ [z], by go_num, by omega, e, hE2, by rw [List.length_append]; simp; omega, hown3, Lib.hid hB3, hbl3⟩
              case measure => simp [intOf]; omega
            · -- one that may not stand there
              rw [hw] at f4 hub
              have e := Lib.hid ((urlS_bad HLT.out hsp h41 hub (out := out')).symm.trans hG.out)
              have f5 := badURL_any (j : Int) j hS.out rfl (by omega)
              rw [e.out] at f5
              clear hsp hsp' hes h41 hG c3 hub hw hown
              generalize chA l j = z at *
              go_wp2_with (first
                | (go_at_call 120; (with_reducible refine f1.mono ?_); rintro e w1 ⟨rfl, hw1⟩; replace hw1 := hw1.symm; subst hw1)
                | (go_at_call 84; (with_reducible refine (f3 _).mono ?_); rintro e w1 ⟨rfl, hw1⟩; replace hw1 := hw1.symm; subst hw1)
                | (go_at_call 151; (with_reducible refine (f4 _).mono ?_); rintro e w1 ⟨rfl, hw1⟩; replace hw1 := hw1.symm; subst hw1))
              refine f5.mono ?_
              rintro e w2 ⟨rfl, hb2⟩
              have hB2 := hB.out.later hb2 (by omega)
              have hbl2 := HBL.out.trans (hb2.mono (by omega))
              have r0 := hB2.cell 0 _ rfl
              have r1 := hB2.cell 1 _ rfl
              have r2 := hB2.cell 2 _ rfl
              have r3 := hB2.cell 3 _ rfl
              have r4 := hB2.cell 4 _ rfl
              have r5 := hB2.cell 5 _ rfl
              have q0 := hB2.frozen 0
              have q1 := hB2.frozen 1
              have q2 := hB2.frozen 2
              have q3 := hB2.frozen 3
              have q4 := hB2.frozen 4
              have q5 := hB2.frozen 5
              clear f5 hb2
              obtain ⟨kd, fr, to_, tx, nm, wh⟩ := R
              unfold tkV tkCells
              go_wp2
              refine bodyPost_ret (v := tkV ⟨kd, fr, to_, tx, nm, wh⟩) (by simp [results, Tryz.results128, go_sem, tkV, tkCells, r0, r1, r2, r3, r4, r5]) rfl ⟨rfl, ?_⟩
              exact below_set6 hbl2 (Nat.le_refl _) _ _ _ _ _ _
          · -- blanks
            have hsp' := hsp
            unfold spB at hsp'
            rw [hsp'] at f3
            have f6 := passBlanks_any (j : Int) j hS.out rfl (by omega)
            have hs1 := spacesF_pos hsp
            have hs2 := spacesF_le l j (by rw [HL.out]; omega)
            rw [HL.out] at hs2
            by_cases hsl : spacesF l j < n
            · obtain ⟨b', off', hcc, hc2⟩ := hS.out.cell (spacesF l j) hsl
              cases hcc
              have hq2 : (chA l (spacesF l j) != 41) = !isB l (spacesF l j) 41 := by unfold isB; rfl
              rcases h41b : isB l (spacesF l j) 41 with _ | _
              · rw [h41b] at hq2
                have e := Lib.hid ((urlS_rest (by rw [HL.out]; exact hsl) h41b hs1 (out := out')).symm.trans hG.out)
                have f5 := badURL_any ((spacesF l j : Nat) : Int) (spacesF l j) hS.out rfl (by omega)
                rw [e.out] at f5
                have hsl' : ((spacesF l j : Nat) : Int) < (n : Int) := by omega
                clear hsp hsp' hes h41 hG c3 hown f4 h41b
                generalize chA l (spacesF l j) = z2 at *
                generalize spacesF l j = s at *
                generalize chA l j = z at *
                go_wp2_with (first
                  | (go_at_call 120; (with_reducible refine f1.mono ?_); rintro e w1 ⟨rfl, hw1⟩; replace hw1 := hw1.symm; subst hw1)
                  | (go_at_call 84; (with_reducible refine (f3 _).mono ?_); rintro e w1 ⟨rfl, hw1⟩; replace hw1 := hw1.symm; subst hw1)
                  | (go_at_call 85; (with_reducible refine f6.mono ?_); rintro e w1 ⟨rfl, hw1⟩; replace hw1 := hw1.symm; subst hw1))
                refine f5.mono ?_
                rintro e w2 ⟨rfl, hb2⟩
                have hB2 := hB.out.later hb2 (by omega)
                have hbl2 := HBL.out.trans (hb2.mono (by omega))
                have r0 := hB2.cell 0 _ rfl
                have r1 := hB2.cell 1 _ rfl
                have r2 := hB2.cell 2 _ rfl
                have r3 := hB2.cell 3 _ rfl
                have r4 := hB2.cell 4 _ rfl
                have r5 := hB2.cell 5 _ rfl
                have q0 := hB2.frozen 0
                have q1 := hB2.frozen 1
                have q2 := hB2.frozen 2
                have q3 := hB2.frozen 3
                have q4 := hB2.frozen 4
                have q5 := hB2.frozen 5
                clear f5 hb2
                obtain ⟨kd, fr, to_, tx, nm, wh⟩ := R
                unfold tkV tkCells
                go_wp2
                refine bodyPost_ret (v := tkV ⟨kd, fr, to_, tx, nm, wh⟩) (by simp [results, Tryz.results128, go_sem, tkV, tkCells, r0, r1, r2, r3, r4, r5]) rfl ⟨rfl, ?_⟩
                exact below_set6 hbl2 (Nat.le_refl _) _ _ _ _ _ _
              · rw [h41b] at hq2
                have e := Lib.hid ((urlS_skip (.inr h41b) (out := out')).symm.trans hG.out)
                have hsl' : ((spacesF l j : Nat) : Int) < (n : Int) := by omega
                clear hsp hsp' hes h41 hG c3 f4 h41b
                generalize chA l (spacesF l j) = z2 at *
                generalize spacesF l j = s at *
                generalize chA l j = z at *
                go_wp2_with (first
                  | (go_at_call 120; (with_reducible refine f1.mono ?_); rintro e w1 ⟨rfl, hw1⟩; replace hw1 := hw1.symm; subst hw1)
                  | (go_at_call 84; (with_reducible refine (f3 _).mono ?_); rintro e w1 ⟨rfl, hw1⟩; replace hw1 := hw1.symm; subst hw1)
                  | (go_at_call 85; (with_reducible refine f6.mono ?_); rintro e w1 ⟨rfl, hw1⟩; replace hw1 := hw1.symm; subst hw1))
                go_roundw
                case rel => exact ⟨s, out, out', by go_num, by omega, e, hE, by omega, hown, hB, HBL.out⟩
                case measure => simp [intOf]; omega
            · have e := Lib.hid ((urlS_skip (.inl (by rw [HL.out]; omega)) (out := out')).symm.trans hG.out)
              have hsl' : ¬ ((spacesF l j : Nat) : Int) < (n : Int) := by omega
              clear hsp hsp' hes h41 hG c3 f4
              generalize spacesF l j = s at *
              generalize chA l j = z at *
              go_wp2_with (first
                | (go_at_call 120; (with_reducible refine f1.mono ?_); rintro e w1 ⟨rfl, hw1⟩; replace hw1 := hw1.symm; subst hw1)
                | (go_at_call 84; (with_reducible refine (f3 _).mono ?_); rintro e w1 ⟨rfl, hw1⟩; replace hw1 := hw1.symm; subst hw1)
                | (go_at_call 85; (with_reducible refine f6.mono ?_); rintro e w1 ⟨rfl, hw1⟩; replace hw1 := hw1.symm; subst hw1))
              go_roundw
              case rel => exact ⟨s, out, out', by go_num, by omega, e, hE, by omega, hown, hB, HBL.out⟩
              case measure => simp [intOf]; omega
        · -- an escape
          rw [hes] at f1
          obtain ⟨h92, hub⟩ := urlBad_esc hes
          have hsp : spB l j = false := by unfold spB; rw [isB_iff.1 h92]; decide
          have e := Lib.hid ((urlS_esc HLT.out hsp h41 hub h92 (out := out')).symm.trans hG.out)
          have hvv := valC_value (l := l) (j := j) HP.out.pre
          have hbd := valueF_bd (l := l) (j := j) HLT.out
          rw [HL.out] at hbd
          have hE2 := Lib.hid (map_snoc2 hE.out hvv.2)
          have f2 := readEscape_any (j : Int) j hS.out rfl hlt
          rw [hvv.1] at f2
          clear hsp hes h41 hG c3 hvv hub h92 f3 f4
          generalize (valueF l j).2 = j2 at *
          generalize (valueF l j).1 = c' at *
          generalize (valC l j).1 = c at *
          generalize chA l j = z at *
          go_wp2_with (first
            | (go_at_call 120; (with_reducible refine f1.mono ?_); rintro e w1 ⟨rfl, hw1⟩; replace hw1 := hw1.symm; subst hw1)
            | (go_at_call 121; (with_reducible refine f2.mono ?_); rintro e w1 ⟨rfl, hw1⟩; replace hw1 := hw1.symm; subst hw1)
            | (at_builtin; refine wpList_append_reads rfl _ _ 28 rfl (w.heap.size + 1) 3 i0 .i64 8 Tryz.underlying28 hi hz0 hz1 hz2 _ out.length out rfl (hown.alloc _) rfl (some ⟨wr.heap.size, 0, none⟩) 1 1 [c] rfl rfl (reads_new wr .i64 _ 3 1 rfl (by unfold maxLen; omega)) (fun h => by cases h) (by unfold maxLen; omega) (by omega) (by simp <;> omega) ?_; intro v' w3 hown3 hgrow3))
          have hB3 : Blk w3 w.heap.size zeroTk 32 := (hB.out.alloc_old _).kept hgrow3 (fun e => by have := (hown.lt _ e).1; omega)
          have hbl3 : Below w.heap.size w w3 := (HBL.out.alloc (by omega) _).grown hgrow3 (by simp <;> omega) (fun q hq => by have := (hown.lt q hq).1; omega)
          go_roundw
          case rel => exact ⟨j2, out ++ [c], out' ++ [c'], by go_num, by omega, e, hE2, by rw [List.length_append]; simp; omega, hown3, Lib.hid hB3, hbl3⟩
          case measure => simp [intOf]; omega
      · -- the end of it
        rw [h41] at hq
        have hsp : spB l j = false := by unfold spB; rw [isB_iff.1 h41]; decide
        have hss := spacesF_stop hsp
        have e := Lib.hid ((urlS_close (by rw [hss]; exact HLT.out) (by rw [hss]; exact h41) (out := out')).symm.trans hG.out)
        rw [hss] at e
        rw [Nat.min_eq_left (by omega : j + 1 ≤ n)] at c3
        obtain ⟨a2, c2, hv, hrd⟩ := Reads.of_owns hown
        subst hv
        have cT := tokText_any a2 c2 out.length out wr rfl hrd (by omega) (HM.out.later HBL.out)
        clear h41 hG hsp hss f1 f3 f4 hown
        generalize chA l j = z at *
        go_wp2_with (go_at_call 42; (with_reducible refine (c3 _).mono ?_); rintro e w1 ⟨rfl, hw1⟩; replace hw1 := hw1.symm; subst hw1)
        refine cT.mono ?_
        rintro e w2 ⟨rfl, hb2⟩
        have hB2 := hB.out.later hb2 (by omega)
        have hbl2 := HBL.out.trans (hb2.mono (by omega))
        have r0 := hB2.cell 0 _ rfl
        have r1 := hB2.cell 1 _ rfl
        have r2 := hB2.cell 2 _ rfl
        have r3 := hB2.cell 3 _ rfl
        have r4 := hB2.cell 4 _ rfl
        have r5 := hB2.cell 5 _ rfl
        have q0 := hB2.frozen 0
        have q1 := hB2.frozen 1
        have q2 := hB2.frozen 2
        have q3 := hB2.frozen 3
        have q4 := hB2.frozen 4
        have q5 := hB2.frozen 5
        clear cT hb2
        go_wp2
        refine bodyPost_ret (v := .agg #[.int .i64 7, .int .i64 0, .int .i64 (j + 1 : Nat), .string (strOfNums (bytesF out)), .string ⟨#[]⟩, .bool false]) (by simp [results, Tryz.results128, go_sem, r0, r1, r2, r3, r4, r5]) rfl ⟨by rw [← e.out, bytesF_same hE.out]; rfl, ?_⟩
        exact below_set6 hbl2 (Nat.le_refl _) _ _ _ _ _ _
    · obtain rfl : j = n := by omega
      have hlt' : ¬ (j : Int) < (j : Int) := by omega
      have e := Lib.hid ((urlS_end (out := out') (i := j) (by have := (spacesGo_le l (l.length + 1) j).1; have := HL.out; unfold spacesF; omega)).symm.trans hG.out)
      rw [Nat.min_eq_right (by omega : j ≤ j + 1)] at c3
      obtain ⟨a2, c2, hv, hrd⟩ := Reads.of_owns hown
      subst hv
      have cT := tokText_any a2 c2 out.length out wr rfl hrd (by omega) (HM.out.later HBL.out)
      clear hG hown hlt
      go_wp2_with (go_at_call 42; (with_reducible refine (c3 _).mono ?_); rintro e w1 ⟨rfl, hw1⟩; replace hw1 := hw1.symm; subst hw1)
      refine cT.mono ?_
      rintro e w2 ⟨rfl, hb2⟩
      have hB2 := hB.out.later hb2 (by omega)
      have hbl2 := HBL.out.trans (hb2.mono (by omega))
      have r0 := hB2.cell 0 _ rfl
      have r1 := hB2.cell 1 _ rfl
      have r2 := hB2.cell 2 _ rfl
      have r3 := hB2.cell 3 _ rfl
      have r4 := hB2.cell 4 _ rfl
      have r5 := hB2.cell 5 _ rfl
      have q0 := hB2.frozen 0
      have q1 := hB2.frozen 1
      have q2 := hB2.frozen 2
      have q3 := hB2.frozen 3
      have q4 := hB2.frozen 4
      have q5 := hB2.frozen 5
      clear cT hb2
      go_wp2
      refine bodyPost_ret (v := .agg #[.int .i64 7, .int .i64 0, .int .i64 (j : Nat), .string (strOfNums (bytesF out)), .string ⟨#[]⟩, .bool false]) (by simp [results, Tryz.results128, go_sem, r0, r1, r2, r3, r4, r5]) rfl ⟨by rw [← e.out, bytesF_same hE.out, HL.out]; rfl, ?_⟩
      exact below_set6 hbl2 (Nat.le_refl _) _ _ _ _ _ _
end

section
open Go.RowKit Go.Shelf
set_option linter.unusedVariables false
set_option linter.unusedSimpArgs false

def sgs : ByteArray := ⟨#[40, 41, 91, 93, 123, 125, 44, 58, 59]⟩
def sgKinds : List Int := [21, 22, 19, 20, 23, 24, 18, 16, 17]
/-- The listed table of kinds. -/
def SgW (w : World) : Prop := ∀ p, p < 9 → w.cell? ⟨2, p, none⟩ = some (.int .i64 (sgKinds.getD p 0))
theorem SgW.lt {w : World} (h : SgW w) : 2 < w.heap.size := World.block_lt_of_cell? w _ (h 0 (by decide))
theorem SgW.later {w w' : World} (h : SgW w) (hb : Below w.heap.size w w') : SgW w' := fun p hp => (hb.cell (p := ⟨2, p, none⟩) h.lt).trans (h p hp)
/-- What tokens ask of the library's and the program's tables. -/
structure TkW (w : World) : Prop where
  mx : MxW w
  sg : SgW w
theorem TkW.later {w w' : World} (h : TkW w) (hb : Below w.heap.size w w') : TkW w' := ⟨h.mx.later hb, h.sg.later hb⟩
def signF (l : List Int) (k : Nat) : Tk := if signKind (chA l k) = 9 then ⟨9, 0, k + 1, bytesF [chA l k], [], false⟩ else ⟨signKind (chA l k), 0, k + 1, [], [], false⟩
theorem sgs_at : ∀ p (h : p < sgs.size), 1 ≤ (sgs[p]'h).toNat ∧ (sgs[p]'h).toNat < 128 ∧ signKind ((sgs[p]'h).toNat : Int) = sgKinds.getD p 0 ∧ sgKinds.getD p 0 ≠ 9 := by decide +kernel
theorem sgs_none (c : Int) (h : ∀ p (h : p < sgs.size), c ≠ ((sgs[p]'h).toNat : Int)) : signKind c = 9 := by
  have h0 : c ≠ 40 := h 0 (by decide)
  have h1 : c ≠ 41 := h 1 (by decide)
  have h2 : c ≠ 91 := h 2 (by decide)
  have h3 : c ≠ 93 := h 3 (by decide)
  have h4 : c ≠ 123 := h 4 (by decide)
  have h5 : c ≠ 125 := h 5 (by decide)
  have h6 : c ≠ 44 := h 6 (by decide)
  have h7 : c ≠ 58 := h 7 (by decide)
  have h8 : c ≠ 59 := h 8 (by decide)
  unfold signKind
  rw [if_neg h0, if_neg h1, if_neg h2, if_neg h3, if_neg h4, if_neg h5, if_neg h6, if_neg h7, if_neg h8]

set_option maxRecDepth 100000 in
set_option maxHeartbeats 4000000 in
theorem sign_any {a : Option Addr} {n cap : Nat} {l : List Int} {w : World} (i : Int) (k : Nat) (h : Src w a n cap l) (hT : TkW w) (hi : i = (k : Int)) (hk : k < n) :
    Calls Tryz.prog 93 #[.slice a n cap, .int .i64 i] w (Told (tkV (signF l k)) w) := by
  subst hi
  have hsm := h.small
  obtain ⟨hcap1, hcap2⟩ := h.cap
  have hlen := h.len
  generalize hR : signF l k = R
  unfold signF at hR
  have HR := Lib.hid hR
  clear hR
  generalize hW0 : w.alloc (.cells zeroTk.toArray 32) = W0
  have hb0 : Below w.heap.size w W0 := by rw [← hW0]; exact (Below.refl _ w).alloc (Nat.le_refl _) _
  have hz0 : W0.heap.size = w.heap.size + 1 := by rw [← hW0]; simp
  have HB0 := Lib.hid (show Blk W0 w.heap.size zeroTk 32 from by rw [← hW0]; exact Blk.alloc _ _)
  have HP := Lib.hid h
  have HT := Lib.hid hT
  obtain ⟨b, off, rfl, hcw⟩ := h.cell k hk
  have HC := Lib.hid (And.intro (World.block_lt_of_cell? w _ hcw) hcw)
  have HW0 := Lib.hid hW0
  clear h hT hcw
  go_enter Tryz.func93, Tryz.ntmps93
  go_wp2_with fail
  rw [show w.alloc (Obj.cells #[.int .i64 0, .int .i64 0, .int .i64 0, .string ⟨#[]⟩, .string ⟨#[]⟩, .bool false] 32) = W0 from HW0.out]
  clear hW0
  go_loopg [5, 6] 9 (fun gf _ _ wr => ∃ p : Nat, p + gf = 9 ∧ Hid (∀ q (h : q < sgs.size), q < p → chA l k ≠ ((sgs[q]'h).toNat : Int)) ∧ wr = W0.iter sgs p)
  case atStart => exact ⟨0, by omega, Lib.hid (fun q h hq => by omega), rfl⟩
  case round =>
    obtain ⟨p, hp, hN, rfl⟩ := hrel
    have hbi : ∀ p, Below w.heap.size w (W0.iter sgs p) := fun p => hb0.alloc (by omega) _
    have HBI := Lib.hid hbi
    have hBk : ∀ p, Blk (W0.iter sgs p) w.heap.size zeroTk 32 := fun p => HB0.out.alloc_old _
    have HBK := Lib.hid hBk
    clear hbi hBk
    by_cases hlt : p < sgs.size
    · obtain ⟨g', rfl⟩ : ∃ g', gk = g' + 1 := ⟨gk - 1, by have : sgs.size = 9 := rfl; omega⟩
      obtain ⟨ha1, ha2, ha3, ha4⟩ := sgs_at p hlt
      have hnx := fun ty => run_next_ascii (P := Tryz.prog) W0 sgs p ty hlt ha2
      simp only [hz0] at hnx
      have hc := ((HBI.out (p + 1)).cell (p := ⟨b, off + k, none⟩) HC.out.1).trans HC.out.2
      have hg := (HT.out.later (HBI.out (p + 1))).sg p hlt
      have hp9 : (p : Int) < 9 := by have : p < 9 := hlt; omega
      have hN1 := hN.out
      by_cases hq : chA l k = ((sgs[p]'hlt).toNat : Int)
      · have hbq : (chA l k == ((sgs[p]'hlt).toNat : Int)) = true := beq_iff_eq.2 hq
        have hRR := HR.out
        rw [hq, ha3, if_neg ha4] at hRR
        have HRR := Lib.hid hRR
        have r0 := (HBK.out (p + 1)).cell 0 _ rfl
        have r1 := (HBK.out (p + 1)).cell 1 _ rfl
        have r2 := (HBK.out (p + 1)).cell 2 _ rfl
        have r3 := (HBK.out (p + 1)).cell 3 _ rfl
        have r4 := (HBK.out (p + 1)).cell 4 _ rfl
        have r5 := (HBK.out (p + 1)).cell 5 _ rfl
        have q0 := (HBK.out (p + 1)).frozen 0
        have q1 := (HBK.out (p + 1)).frozen 1
        have q2 := (HBK.out (p + 1)).frozen 2
        have q3 := (HBK.out (p + 1)).frozen 3
        have q4 := (HBK.out (p + 1)).frozen 4
        have q5 := (HBK.out (p + 1)).frozen 5
        clear hN hN1 hRR ha3 ha4 hq
        generalize sgKinds.getD p 0 = kd at *
        generalize chA l k = z at *
        generalize (sgs[p]'hlt).toNat = y at *
        go_wp2
        refine bodyPost_ret (v := .agg #[.int .i64 kd, .int .i64 0, .int .i64 (k + 1 : Nat), .string ⟨#[]⟩, .string ⟨#[]⟩, .bool false]) (by simp [results, Tryz.results93, go_sem, r0, r1, r2, r3, r4, r5]) rfl ⟨by rw [← HRR.out]; rfl, ?_⟩
        exact below_set6 (HBI.out (p + 1)) (Nat.le_refl _) _ _ _ _ _ _
      · have hbq : (chA l k == ((sgs[p]'hlt).toNat : Int)) = false := beq_eq_false_iff_ne.2 hq
        have HNN := Lib.hid (show ∀ q (h : q < sgs.size), q < p + 1 → chA l k ≠ ((sgs[q]'h).toNat : Int) from fun q h hq' => by
          rcases Nat.lt_or_ge q p with hh | hh
          · exact hN1 q h hh
          · obtain rfl : q = p := by omega
            exact hq)
        clear hN hN1 ha3 ha4 hq hg
        generalize hz : chA l k = z at hc hbq
        generalize (sgs[p]'hlt).toNat = y at *
        clear hz
        go_wp2
        go_roundg g'
        case measure => omega
        case rel => exact ⟨p + 1, by omega, HNN, rfl⟩
    · obtain rfl : p = sgs.size := by have : sgs.size = 9 := rfl; omega
      have hnx := fun ty => run_next_end (P := Tryz.prog) W0 sgs sgs.size ty hlt
      simp only [hz0] at hnx
      have hsk := sgs_none (chA l k) (fun q h => hN.out q h h)
      have hRR := HR.out
      rw [if_pos hsk] at hRR
      have HRR := Lib.hid hRR
      have hSi := Lib.hid (HP.out.later (HBI.out sgs.size))
      obtain ⟨b', off', hcc, hrd, hln⟩ := hSi.out.rd.part hSi.out.len k (k + 1) (by omega) (by omega)
      cases hcc
      rw [show k + 1 - k = 1 by omega] at hln
      have hsl : sliceF l k (k + 1) = [chA l k] := by
        unfold sliceF
        rw [show k + 1 - k = 1 by omega, List.drop_eq_getElem_cons (by omega), List.take_succ_cons, List.take_zero]
        unfold chA
        rw [List.getElem?_eq_getElem (by omega)]; rfl
      have cT := tokText_any (some ⟨b, off + k, none⟩) (cap - k) 1 (sliceF l k (k + 1)) (W0.iter sgs sgs.size) hln hrd (by omega) (HT.out.mx.later (HBI.out _))
      rw [hsl] at cT
      have hk1 : (k : Int) + 1 ≤ (n : Int) := by omega
      have hkz : ((k : Int) + 1 - (k : Int)).toNat = 1 := by omega
      clear hN hRR hsk hrd hln hsl
      go_wp2_with fail
      refine cT.mono ?_
      rintro e w2 ⟨rfl, hb2⟩
      have hB2 := (HBK.out sgs.size).later hb2 (HBK.out sgs.size).lt
      have hbl2 := (HBI.out sgs.size).trans (hb2.mono (HBI.out sgs.size).size)
      have r0 := hB2.cell 0 _ rfl
      have r1 := hB2.cell 1 _ rfl
      have r2 := hB2.cell 2 _ rfl
      have r3 := hB2.cell 3 _ rfl
      have r4 := hB2.cell 4 _ rfl
      have r5 := hB2.cell 5 _ rfl
      have q0 := hB2.frozen 0
      have q1 := hB2.frozen 1
      have q2 := hB2.frozen 2
      have q3 := hB2.frozen 3
      have q4 := hB2.frozen 4
      have q5 := hB2.frozen 5
      clear cT hb2
      go_wp2
      refine bodyPost_ret (v := .agg #[.int .i64 9, .int .i64 0, .int .i64 (k + 1 : Nat), .string (strOfNums (bytesF [chA l k])), .string ⟨#[]⟩, .bool false]) (by simp [results, Tryz.results93, go_sem, r0, r1, r2, r3, r4, r5]) rfl ⟨by rw [← HRR.out]; rfl, ?_⟩
      exact below_set6 hbl2 (Nat.le_refl _) _ _ _ _ _ _
end

section
open Go.RowKit Go.Shelf
set_option linter.unusedVariables false
set_option linter.unusedSimpArgs false

theorem namesGo_len (l : List Int) : ∀ (f j : Nat) (out : List Int), (namesGo f l j out).1.length + j ≤ out.length + (namesGo f l j out).2
  | 0, j, out => Nat.le_refl _
  | f + 1, j, out => by
    rw [namesGo]
    by_cases h : nmB l j = true
    · rw [if_pos h]
      have := namesGo_len l f (j + 1) (out ++ [chA l j])
      rw [List.length_append] at this
      simp at this; omega
    · rw [if_neg h]
      by_cases he : escB l j = true
      · rw [if_pos he]
        have := namesGo_len l f (valueF l j).2 (out ++ [(valueF l j).1])
        have hv := (valueF_bd (lt_of_escB he)).1
        rw [List.length_append] at this
        simp at this; omega
      · rw [if_neg he]; exact Nat.le_refl _
theorem namesF_len (l : List Int) (j : Nat) : (namesF l j).1.length ≤ (namesF l j).2 := by
  have := namesGo_len l (l.length + 1) j []
  have h2 : (namesF l j).1.length + j ≤ ([] : List Int).length + (namesF l j).2 := this
  simp at h2; omega
theorem bytesF_len (zs : List Int) : (bytesF zs).length ≤ 4 * zs.length := by
  unfold bytesF
  have := textF_len (zs.map cleanF)
  rwa [List.length_map] at this
theorem strB_nums (zs : List Int) : strB (strOfNums zs) = zs.map u8 := rfl
theorem lowL_nums {zs : List Int} (h : U8 zs) : lowL (strB (strOfNums zs)) = zs.map smallF := by
  unfold lowL
  rw [strB_nums, List.map_map]
  apply List.map_congr_left
  intro z hz
  obtain ⟨h0, h1⟩ := h z hz
  show smallF ((UInt8.ofNat z.toNat).toNat : Int) = smallF z
  rw [UInt8.toNat_ofNat']
  congr 1
  omega
theorem same_url (zs : List Int) (h : U8 zs) : sameB (strOfNums zs) ⟨#[117, 114, 108]⟩ = urlName zs := by
  unfold sameB urlName
  rw [lowL_nums h]; rfl

set_option maxRecDepth 100000 in
set_option maxHeartbeats 4000000 in
theorem named_any {a : Option Addr} {n cap : Nat} {l : List Int} {w : World} (i : Int) (k : Nat) (h : Src w a n cap l) (hM : MxW w) (hi : i = (k : Int)) (hk : k < n) :
    Calls Tryz.prog 90 #[.slice a n cap, .int .i64 i] w (Told (tkV (tkZ (calledF l k))) w) := by
  subst hi
  have hsm := h.small
  have HL := Lib.hid h.len
  have hC : Hid (tkZ (calledF l k) = if !isB l (namesF l k).2 40 then ⟨1, 0, (namesF l k).2, bytesF (namesF l k).1, [], false⟩
      else if urlName (bytesF (namesF l k).1) && !isB l (spacesF l ((namesF l k).2 + 1)) 34 && !isB l (spacesF l ((namesF l k).2 + 1)) 39 then urlS l (spacesF l ((namesF l k).2 + 1)) []
      else ⟨2, 0, (namesF l k).2 + 1, bytesF (namesF l k).1, [], false⟩) := Lib.hid (by
    unfold calledF
    split
    · rfl
    · split
      · exact urlGo_frm l k _ _ _
      · rfl)
  generalize tkZ (calledF l k) = R at *
  have hto := (namesF_le l k).2 (by rw [HL.out]; omega)
  rw [HL.out] at hto
  have hnl := namesF_len l k
  have hbl := bytesF_len (namesF l k).1
  have hsz : (strOfNums (bytesF (namesF l k).1)).size ≤ 1000000 := by rw [strOfNums_size]; omega
  have hsame := same_url (bytesF (namesF l k).1) (textF_u8 _)
  have cSm := fun w => same_any (strOfNums (bytesF (namesF l k).1)) ⟨#[117, 114, 108]⟩ w hsz
  rw [hsame] at cSm
  generalize hW0 : w.alloc (.cells zeroTk.toArray 32) = W0
  have hb0 : Below w.heap.size w W0 := by rw [← hW0]; exact (Below.refl _ w).alloc (Nat.le_refl _) _
  have HB0 := Lib.hid (show Blk W0 w.heap.size zeroTk 32 from by rw [← hW0]; exact Blk.alloc _ _)
  have cN := readName_any (k : Int) k (h.later hb0) (hM.later hb0) rfl (by omega)
  have HP := Lib.hid h
  have HM := Lib.hid hM
  have HW0 := Lib.hid hW0
  have HBz := Lib.hid hb0
  clear h hM hsame hsz hnl hbl hW0 hb0
  generalize hto' : (namesF l k).2 = m at *
  generalize bytesF (namesF l k).1 = txt at *
  clear hto'
  go_enter Tryz.func90, Tryz.ntmps90
  go_wp2_with fail
  rw [show w.alloc (Obj.cells #[.int .i64 0, .int .i64 0, .int .i64 0, .string ⟨#[]⟩, .string ⟨#[]⟩, .bool false] 32) = W0 from HW0.out]
  refine cN.mono ?_
  rintro e w1 ⟨rfl, hb1⟩
  have hB1 := HB0.out.later hb1 HB0.out.lt
  have hbl1 := HBz.out.trans (hb1.mono HBz.out.size)
  have HBL := Lib.hid hbl1
  have HB := Lib.hid hB1
  have hS := Lib.hid (HP.out.later hbl1)
  have f1 := stands_any (m : Int) m 40 hS.out rfl (by decide)
  clear cN hb1 hbl1
  rcases h40 : isB l m 40 with _ | _
  · rw [h40] at f1
    have e := Lib.hid (show (⟨1, 0, m, txt, [], false⟩ : Tk) = R from by rw [hC.out, if_pos (by rw [h40]; rfl)])
    have r0 := hB1.cell 0 _ rfl
    have r1 := hB1.cell 1 _ rfl
    have r2 := hB1.cell 2 _ rfl
    have r3 := hB1.cell 3 _ rfl
    have r4 := hB1.cell 4 _ rfl
    have r5 := hB1.cell 5 _ rfl
    have q0 := hB1.frozen 0
    have q1 := hB1.frozen 1
    have q2 := hB1.frozen 2
    have q3 := hB1.frozen 3
    have q4 := hB1.frozen 4
    have q5 := hB1.frozen 5
    clear h40 cSm hC
    go_wp2_with (go_at_call 118; (with_reducible refine f1.mono ?_); rintro e w' ⟨rfl, rfl⟩)
    refine bodyPost_ret (v := .agg #[.int .i64 1, .int .i64 0, .int .i64 (m : Nat), .string (strOfNums txt), .string ⟨#[]⟩, .bool false]) (by simp [results, Tryz.results90, go_sem, r0, r1, r2, r3, r4, r5]) rfl ⟨by rw [← e.out]; rfl, ?_⟩
    exact below_set6 HBL.out (Nat.le_refl _) _ _ _ _ _ _
  · rw [h40] at f1
    have hmn : m < n := by have := lt_of_isB h40 (by decide); rw [HL.out] at this; exact this
    have hs2 := spacesF_le l (m + 1) (by rw [HL.out]; omega)
    rw [HL.out] at hs2
    have f2 := passBlanks_any ((m : Int) + 1) (m + 1) hS.out (by omega) (by omega)
    have f3 := stands_any ((spacesF l (m + 1) : Nat) : Int) (spacesF l (m + 1)) 34 hS.out rfl (by decide)
    have f4 := stands_any ((spacesF l (m + 1) : Nat) : Int) (spacesF l (m + 1)) 39 hS.out rfl (by decide)
    have hC2 := Lib.hid (show (if urlName txt && !isB l (spacesF l (m + 1)) 34 && !isB l (spacesF l (m + 1)) 39 then urlS l (spacesF l (m + 1)) [] else (⟨2, 0, m + 1, txt, [], false⟩ : Tk)) = R from by rw [hC.out, if_neg (show ¬ ((!isB l m 40) = true) from by rw [h40]; decide)])
    clear h40 hC
    generalize spacesF l (m + 1) = s at *
    generalize urlName txt = u at *
    generalize isB l s 34 = p at *
    generalize isB l s 39 = q at *
    by_cases hu : (u && !p && !q) = true
    · have e := hC2.out
      rw [if_pos hu] at e
      have hub := Lib.hid e
      simp only [Bool.and_eq_true, Bool.not_eq_true'] at hu
      obtain ⟨⟨rfl, rfl⟩, rfl⟩ := hu
      have cU := fun w' hb => urlC_any ((s : Nat) : Int) s (Src.later (w := w1) (w' := w') hS.out hb) ((HM.out.later HBL.out).later hb) rfl hs2
      rw [hub.out] at cU
      clear e hC2
      go_wp2_with (first
        | (go_at_call 118; first | ((with_reducible refine f1.mono ?_); rintro e w' ⟨rfl, rfl⟩) | ((with_reducible refine f3.mono ?_); rintro e w' ⟨rfl, rfl⟩) | ((with_reducible refine f4.mono ?_); rintro e w' ⟨rfl, rfl⟩))
        | (go_at_call 85; (with_reducible refine f2.mono ?_); rintro e w' ⟨rfl, rfl⟩)
        | (go_at_call 48; (with_reducible refine (cSm _).mono ?_); rintro e w2 ⟨rfl, hb2⟩))
      refine (cU _ hb2).mono ?_
      rintro e w3 ⟨rfl, hb3⟩
      have hB3 := (HB.out.later hb2 HB.out.lt).later hb3 (HB.out.later hb2 HB.out.lt).lt
      have hbl3 := HBL.out.trans ((below_trans hb2 hb3).mono HBL.out.size)
      have r0 := hB3.cell 0 _ rfl
      have r1 := hB3.cell 1 _ rfl
      have r2 := hB3.cell 2 _ rfl
      have r3 := hB3.cell 3 _ rfl
      have r4 := hB3.cell 4 _ rfl
      have r5 := hB3.cell 5 _ rfl
      have q0 := hB3.frozen 0
      have q1 := hB3.frozen 1
      have q2 := hB3.frozen 2
      have q3 := hB3.frozen 3
      have q4 := hB3.frozen 4
      have q5 := hB3.frozen 5
      clear cU hb3
      obtain ⟨kd, fr, to_, tx, nm, wh⟩ := R
      unfold tkV tkCells
      go_wp2
      refine bodyPost_ret (v := tkV ⟨kd, fr, to_, tx, nm, wh⟩) (by simp [results, Tryz.results90, go_sem, tkV, tkCells, r0, r1, r2, r3, r4, r5]) rfl ⟨rfl, ?_⟩
      exact below_set6 hbl3 (Nat.le_refl _) _ _ _ _ _ _
    · have e := hC2.out
      rw [if_neg hu] at e
      have he := Lib.hid e
      clear e hC2
      have key : (u = false) ∨ (u = true ∧ p = true) ∨ (u = true ∧ p = false ∧ q = true) := by
        revert hu; cases u <;> cases p <;> cases q <;> simp
      clear hu
      rcases key with rfl | ⟨rfl, rfl⟩ | ⟨rfl, rfl, rfl⟩
      · cases p
        all_goals
          go_wp2_with (first
            | (go_at_call 118; first | ((with_reducible refine f1.mono ?_); rintro e w' ⟨rfl, rfl⟩) | ((with_reducible refine f3.mono ?_); rintro e w' ⟨rfl, rfl⟩) | ((with_reducible refine f4.mono ?_); rintro e w' ⟨rfl, rfl⟩))
            | (go_at_call 85; (with_reducible refine f2.mono ?_); rintro e w' ⟨rfl, rfl⟩)
            | (go_at_call 48; (with_reducible refine (cSm _).mono ?_); rintro e w2 ⟨rfl, hb2⟩; have hB3 := HB.out.later hb2 HB.out.lt; have hbl3 := HBL.out.trans (hb2.mono HBL.out.size); have r0 := hB3.cell 0 _ rfl; have r1 := hB3.cell 1 _ rfl; have r2 := hB3.cell 2 _ rfl; have r3 := hB3.cell 3 _ rfl; have r4 := hB3.cell 4 _ rfl; have r5 := hB3.cell 5 _ rfl; have q0 := hB3.frozen 0; have q1 := hB3.frozen 1; have q2 := hB3.frozen 2; have q3 := hB3.frozen 3; have q4 := hB3.frozen 4; have q5 := hB3.frozen 5))
          refine bodyPost_ret (v := .agg #[.int .i64 2, .int .i64 0, .int .i64 (m + 1 : Nat), .string (strOfNums txt), .string ⟨#[]⟩, .bool false]) (by simp [results, Tryz.results90, go_sem, r0, r1, r2, r3, r4, r5]) rfl ⟨by rw [← he.out]; rfl, ?_⟩
          exact below_set6 hbl3 (Nat.le_refl _) _ _ _ _ _ _
      all_goals
        go_wp2_with (first
          | (go_at_call 118; first | ((with_reducible refine f1.mono ?_); rintro e w' ⟨rfl, rfl⟩) | ((with_reducible refine f3.mono ?_); rintro e w' ⟨rfl, rfl⟩) | ((with_reducible refine f4.mono ?_); rintro e w' ⟨rfl, rfl⟩))
          | (go_at_call 85; (with_reducible refine f2.mono ?_); rintro e w' ⟨rfl, rfl⟩)
          | (go_at_call 48; (with_reducible refine (cSm _).mono ?_); rintro e w2 ⟨rfl, hb2⟩; have hB3 := HB.out.later hb2 HB.out.lt; have hbl3 := HBL.out.trans (hb2.mono HBL.out.size); have r0 := hB3.cell 0 _ rfl; have r1 := hB3.cell 1 _ rfl; have r2 := hB3.cell 2 _ rfl; have r3 := hB3.cell 3 _ rfl; have r4 := hB3.cell 4 _ rfl; have r5 := hB3.cell 5 _ rfl; have q0 := hB3.frozen 0; have q1 := hB3.frozen 1; have q2 := hB3.frozen 2; have q3 := hB3.frozen 3; have q4 := hB3.frozen 4; have q5 := hB3.frozen 5))
        refine bodyPost_ret (v := .agg #[.int .i64 2, .int .i64 0, .int .i64 (m + 1 : Nat), .string (strOfNums txt), .string ⟨#[]⟩, .bool false]) (by simp [results, Tryz.results90, go_sem, r0, r1, r2, r3, r4, r5]) rfl ⟨by rw [← he.out]; rfl, ?_⟩
        exact below_set6 hbl3 (Nat.le_refl _) _ _ _ _ _ _
end
end Go.Proofs.YtickcbmfboajiaaGreatDoor
