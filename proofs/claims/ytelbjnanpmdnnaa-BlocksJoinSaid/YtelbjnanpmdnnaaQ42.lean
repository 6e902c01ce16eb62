/- Texts of mine in one: Rr. -/
import Derived.Test.YtelbjnanpmdnnaaQ38
namespace Go.Proofs.Ytelbjnanpmdnnaa
section
open Go.RowKit
set_option linter.unusedVariables false
set_option linter.unusedSimpArgs false
def zeroTkR : List Value := [.int .i64 0, .int .i64 0, .int .i64 0, .string ⟨#[]⟩, .string ⟨#[]⟩, .bool false]
theorem below_set6R {B p : Nat} {w wr : World} (h : Below B w wr) (hp : B ≤ p) (v0 v1 v2 v3 v4 v5 : Value) :
    Below B w ((((((wr.setCell ⟨p, 0, none⟩ v0).setCell ⟨p, 1, none⟩ v1).setCell ⟨p, 2, none⟩ v2).setCell ⟨p, 3, none⟩ v3).setCell ⟨p, 4, none⟩ v4).setCell ⟨p, 5, none⟩ v5) :=
  (((((h.setCell (p := ⟨p, 0, none⟩) hp _).setCell (p := ⟨p, 1, none⟩) hp _).setCell (p := ⟨p, 2, none⟩) hp _).setCell (p := ⟨p, 3, none⟩) hp _).setCell (p := ⟨p, 4, none⟩) hp _).setCell (p := ⟨p, 5, none⟩) hp _
theorem rsGo_fuel (l : List Int) (frm : Nat) : ∀ (f g i : Nat), l.length < i + f → l.length < i + g → restGo f l frm i = restGo g l frm i
  | f, g, i, hf, hg => by
    by_cases h1 : l.length ≤ i
    · have : ∀ f, restGo f l frm i = ⟨8, frm, l.length, [], [], false⟩ := fun f => by cases f with | zero => rfl | succ f => rw [restGo, if_pos h1]
      rw [this, this]
    · obtain ⟨f, rfl⟩ : ∃ f', f = f' + 1 := ⟨f - 1, by omega⟩
      obtain ⟨g, rfl⟩ : ∃ g', g = g' + 1 := ⟨g - 1, by omega⟩
      rw [restGo, restGo, if_neg h1, if_neg h1]
      by_cases h2 : isB l i 41 = true
      · rw [if_pos h2, if_pos h2]
      · rw [if_neg h2, if_neg h2]
        by_cases h3 : escB l i = true
        · rw [if_pos h3, if_pos h3]
          have := (valueF_bd (lt_of_escB h3)).1
          exact rsGo_fuel l frm f g _ (by omega) (by omega)
        · rw [if_neg h3, if_neg h3]
          exact rsGo_fuel l frm f g _ (by omega) (by omega)
theorem rsF_end {l : List Int} {i frm : Nat} (h : l.length ≤ i) : restF l frm i = ⟨8, frm, l.length, [], [], false⟩ := by unfold restF; rw [restGo, if_pos h]
theorem rsF_close {l : List Int} {i frm : Nat} (h : i < l.length) (h2 : isB l i 41 = true) : restF l frm i = ⟨8, frm, i + 1, [], [], false⟩ := by unfold restF; rw [restGo, if_neg (by omega), if_pos h2]
theorem rsF_esc {l : List Int} {i frm : Nat} (h2 : isB l i 41 = false) (h3 : escB l i = true) : restF l frm i = restF l frm (valueF l i).2 := by
  have h := lt_of_escB h3
  unfold restF
  rw [restGo, if_neg (by omega), if_neg (by rw [h2]; decide), if_pos h3]
  have := (valueF_bd h).1
  exact rsGo_fuel l frm _ _ _ (by omega) (by omega)
theorem rsF_other {l : List Int} {i frm : Nat} (h : i < l.length) (h2 : isB l i 41 = false) (h3 : escB l i = false) : restF l frm i = restF l frm (i + 1) := by
  unfold restF
  rw [restGo, if_neg (by omega), if_neg (by rw [h2]; decide), if_neg (by rw [h3]; decide)]
  exact rsGo_fuel l frm _ _ _ (by omega) (by omega)
set_option maxRecDepth 100000 in
set_option maxHeartbeats 4000000 in
theorem rrest_any {a : Option Addr} {n cap : Nat} {l : List Int} {w : World} (i fr : Int) (k frm : Nat) (h : Src w a n cap l) (hi : i = (k : Int)) (hf : fr = (frm : Int)) (hk : k ≤ n) :
    Calls Try.prog 87 #[.slice a n cap, .int .i64 fr, .int .i64 i] w (Told (tkV (restF l frm k)) w) := by
  subst hi
  subst hf
  have hsm := h.small
  have HL := Lib.hid h.len
  generalize hR : restF l frm k = R
  have HR := Lib.hid hR
  have HP := Lib.hid h
  clear h hR
  have HB0 := Lib.hid (Blk.alloc (w := w) zeroTkR 52)
  go_enter Try.func87, Try.ntmps87
  go_wp2_with fail
  go_loopw [2] (fun v wr => ∃ j : Nat, v = .int .i64 j ∧ j ≤ n ∧ Hid (restF l frm j = R) ∧ Hid (Blk wr w.heap.size zeroTkR 52) ∧ Below w.heap.size w wr) (fun v _ => n - (intOf v).toNat)
  case atStart => exact ⟨k, rfl, hk, HR, HB0, (Below.refl _ _).alloc (Nat.le_refl _) _⟩
  case round =>
    obtain ⟨j, rfl, hj, hG, hB, hbl⟩ := hrel
    have hS := Lib.hid (HP.out.later hbl)
    have HBL := Lib.hid hbl
    clear hbl
    by_cases hlt : j < n
    · have hlt' : (j : Int) < (n : Int) := by omega
      have f1 := resc_any (j : Int) j hS.out rfl (by omega)
      obtain ⟨b, off, rfl, hc⟩ := hS.out.cell j hlt
      have hq : (chA l j != 41) = !isB l j 41 := by unfold isB; rfl
      rcases h41 : isB l j 41 with _ | _
      · rw [h41] at hq
        rcases hes : escB l j with _ | _
        · have e := Lib.hid ((rsF_other (by rw [HL.out]; exact hlt) h41 hes).symm.trans hG.out)
          rw [hes] at f1
          clear hes h41 hG
          generalize chA l j = z at *
          go_wp2_with (go_at_call 58; (with_reducible refine f1.mono ?_); rintro e w' ⟨rfl, rfl⟩)
          go_roundw
          case rel => exact ⟨j + 1, by go_num, by omega, e, hB, HBL.out⟩
          case measure => simp [intOf]; omega
        · have e := Lib.hid ((rsF_esc h41 hes).symm.trans hG.out)
          have hbd := valueF_bd (l := l) (j := j) (by rw [HL.out]; exact hlt)
          rw [HL.out] at hbd
          have f2 := rvalue_any (j : Int) j hS.out rfl (by omega)
          rw [hes] at f1
          clear hes h41 hG
          generalize (valueF l j).2 = j2 at *
          generalize (valueF l j).1 = c at *
          generalize chA l j = z at *
          go_wp2_with (first
            | (go_at_call 58; (with_reducible refine f1.mono ?_); rintro e w1 ⟨rfl, hw1⟩; replace hw1 := hw1.symm; subst hw1)
            | (go_at_call 71; (with_reducible refine f2.mono ?_); rintro e w1 ⟨rfl, hb1⟩; have hB1 := hB.out.later hb1 hB.out.lt; have hbl1 := HBL.out.trans (hb1.mono HBL.out.size)))
          go_roundw
          case rel => exact ⟨j2, by go_num, by omega, e, Lib.hid hB1, hbl1⟩
          case measure => simp [intOf]; omega
      · have e := Lib.hid ((rsF_close (frm := frm) (by rw [HL.out]; exact hlt) h41).symm.trans hG.out)
        rw [h41] at hq
        have hj1 : ¬ ((j : Int) + 1 > (n : Int)) := by omega
        have r0 := hB.out.cell 0 _ rfl
        have r1 := hB.out.cell 1 _ rfl
        have r2 := hB.out.cell 2 _ rfl
        have r3 := hB.out.cell 3 _ rfl
        have r4 := hB.out.cell 4 _ rfl
        have r5 := hB.out.cell 5 _ rfl
        have q0 := hB.out.frozen 0
        have q1 := hB.out.frozen 1
        have q2 := hB.out.frozen 2
        have q3 := hB.out.frozen 3
        have q4 := hB.out.frozen 4
        have q5 := hB.out.frozen 5
        clear h41 hG f1
        generalize chA l j = z at *
        go_wp2
        refine bodyPost_ret (v := .agg #[.int .i64 8, .int .i64 frm, .int .i64 (j + 1 : Nat), .string ⟨#[]⟩, .string ⟨#[]⟩, .bool false]) (by simp [results, Try.results87, go_sem, r0, r1, r2, r3, r4, r5]) rfl ⟨by rw [← e.out]; rfl, ?_⟩
        exact below_set6R HBL.out (Nat.le_refl _) _ _ _ _ _ _
    · obtain rfl : j = n := by omega
      have hlt' : ¬ (j : Int) < (j : Int) := by omega
      have hgt' : ¬ ((j : Int) > (j : Int)) := by omega
      have e := Lib.hid ((rsF_end (frm := frm) (by rw [HL.out]; exact Nat.le_refl _)).symm.trans hG.out)
      have r0 := hB.out.cell 0 _ rfl
      have r1 := hB.out.cell 1 _ rfl
      have r2 := hB.out.cell 2 _ rfl
      have r3 := hB.out.cell 3 _ rfl
      have r4 := hB.out.cell 4 _ rfl
      have r5 := hB.out.cell 5 _ rfl
      have q0 := hB.out.frozen 0
      have q1 := hB.out.frozen 1
      have q2 := hB.out.frozen 2
      have q3 := hB.out.frozen 3
      have q4 := hB.out.frozen 4
      have q5 := hB.out.frozen 5
      clear hG hlt
      go_wp2
      refine bodyPost_ret (v := .agg #[.int .i64 8, .int .i64 frm, .int .i64 (j : Nat), .string ⟨#[]⟩, .string ⟨#[]⟩, .bool false]) (by simp [results, Try.results87, go_sem, r0, r1, r2, r3, r4, r5]) rfl ⟨by rw [← e.out, HL.out]; rfl, ?_⟩
      exact below_set6R HBL.out (Nat.le_refl _) _ _ _ _ _ _
end
end Go.Proofs.Ytelbjnanpmdnnaa
