/- Texts of mine in one: Ey2 Ey3 SetE Ey4 Ecs. -/
import Derived.Test.YtcfhggdiccilaaaGreatQ08
import Derived.Test.YtcfhggdiccilaaaGreatQ01
import Derived.Deep.RegionWith
import Derived.Deep.RegionHeld3
namespace Go.Proofs.YtcfhggdiccilaaaGreat
section
open Go.RowKit
set_option linter.unusedVariables false
set_option linter.unusedSimpArgs false
theorem bel_tr {w0 w1 w2 : World} (h : Below w0.heap.size w0 w1) (h2 : Below w1.heap.size w1 w2) : Below w0.heap.size w0 w2 := h.trans (h2.mono h.size)
theorem str_beqE (a b : ByteArray) : (a.toList == b.toList) = decide (a = b) := by
  rw [ByteArray.toList_eq, ByteArray.toList_eq, Bool.eq_iff_iff, beq_iff_eq, decide_eq_true_iff]
  constructor
  · intro h
    cases a; cases b
    simp at h
    rw [h]
  · intro h; rw [h]
theorem tkV_eq (t : Tk) : tkV t = .agg #[.int .i64 t.kind, .int .i64 t.frm, .int .i64 t.to, .string (strOfNums t.text), .string (strOfNums t.num), .bool t.whole] := rfl
theorem fld_kind (k f o : Int) (x y : ByteArray) (b : Bool) (w : World) : (Instr.field 93 (.agg #[.int .i64 k, .int .i64 f, .int .i64 o, .string x, .string y, .bool b]) 0).run Tryz.prog w = .ok (.int .i64 k) w := by kernel_rfl
theorem fld_from (k f o : Int) (x y : ByteArray) (b : Bool) (w : World) : (Instr.field 93 (.agg #[.int .i64 k, .int .i64 f, .int .i64 o, .string x, .string y, .bool b]) 1).run Tryz.prog w = .ok (.int .i64 f) w := by kernel_rfl
theorem fld_text (k f o : Int) (x y : ByteArray) (b : Bool) (w : World) : (Instr.field 93 (.agg #[.int .i64 k, .int .i64 f, .int .i64 o, .string x, .string y, .bool b]) 3).run Tryz.prog w = .ok (.string x) w := by kernel_rfl
set_option maxRecDepth 100000 in
set_option maxHeartbeats 2000000 in
theorem ename_any {w : World} {p : Nat} {E : Ey} {ts : List Tk} {ps : List ByteArray} {st : Es} (h : EyeAt w p E ts ps st) (i : Nat) (hi2 : i ≤ 4000000) :
    Calls Tryz.prog 103 #[.pointer (some ⟨p, 0, none⟩), .int .i64 i] w (Told (.bool (eName ts i)) w) := by
  have fT := tok_any h i hi2
  unfold eName
  generalize eTok ts i = t at *
  have q : (t.kind == 1) = decide (t.kind = 1) := rfl
  rw [tkV_eq] at fT
  clear h
  have hfd := fld_kind t.kind t.frm t.to (strOfNums t.text) (strOfNums t.num) t.whole
  go_enter Tryz.func103, Tryz.ntmps103
  go_wp2_with (go_at_call 55; (with_reducible refine fT.mono ?_); rintro e w1 ⟨rfl, hb1⟩)
  go_ret
  exact ⟨rfl, hb1⟩
set_option maxRecDepth 100000 in
set_option maxHeartbeats 2000000 in
theorem esign_any {w : World} {p : Nat} {E : Ey} {ts : List Tk} {ps : List ByteArray} {st : Es} (h : EyeAt w p E ts ps st) (i : Nat) (hi2 : i ≤ 4000000) (s : ByteArray) :
    Calls Tryz.prog 104 #[.pointer (some ⟨p, 0, none⟩), .int .i64 i, .string s] w (Told (.bool (eSign ts i s)) w) := by
  have fT := tok_any h i hi2
  unfold eSign
  generalize eTok ts i = t at *
  have q : (t.kind == 9) = decide (t.kind = 9) := rfl
  have q2 := str_beqE (strOfNums t.text) s
  generalize decide (t.kind = 9) = r1 at *
  generalize decide (strOfNums t.text = s) = r2 at *
  rw [tkV_eq] at fT
  clear h
  cases r1
  all_goals
    go_enter Tryz.func104, Tryz.ntmps104
    go_wp2_with (go_at_call 55; (with_reducible refine fT.mono ?_); rintro e w1 ⟨rfl, hb1⟩)
    go_ret
    exact ⟨by first | rfl | (cases r2 <;> rfl), hb1.alloc hb1.size _⟩
set_option maxRecDepth 100000 in
set_option maxHeartbeats 2000000 in
theorem eblanks_any {w : World} {p : Nat} {E : Ey} {ts : List Tk} {ps : List ByteArray} {st : Es} (h : EyeAt w p E ts ps st) (i : Nat) (hi2 : i ≤ 3000000) :
    Calls Tryz.prog 54 #[.pointer (some ⟨p, 0, none⟩), .int .i64 i] w (Told (.int .i64 (eBlanks ts i)) w) := by
  have HE := Lib.hid h
  have hsm := h.small
  have hmx := eBlanks_max ts i
  obtain ⟨R, hR⟩ : ∃ R, eBlanks ts i = R := ⟨_, rfl⟩
  rw [hR] at hmx ⊢
  have HR := Lib.hid hR
  have HM := Lib.hid (show R ≤ 3000000 from by omega)
  clear h hR hmx
  go_enter Tryz.func54, Tryz.ntmps54
  go_wp2_with fail
  go_loopw [1] (fun v wr => ∃ k : Nat, v = .int .i64 k ∧ Hid (eBlanks ts k = R ∧ k ≤ 3000000) ∧ Hid (Below w.heap.size w wr)) (fun v _ => 3000001 - (intOf v).toNat)
  case atStart => exact ⟨i, rfl, Lib.hid ⟨HR.out, by omega⟩, Lib.hid (Below.refl _ _)⟩
  case round =>
    obtain ⟨k, rfl, hk, HB⟩ := hrel
    have fT := tok_any (HE.out.later HB.out) k (by have := hk.out.2; omega)
    have hst := Lib.hid (eBlanks_step ts k)
    obtain ⟨t, hte'⟩ : ∃ t, eTok ts k = t := ⟨_, rfl⟩
    have hte := Lib.hid hte'
    rw [hte'] at fT
    have hst := Lib.hid (show eBlanks ts k = if t.kind = 13 then eBlanks ts (k + 1) else k from by rw [← hte']; exact hst.out)
    clear hte'
    rw [tkV_eq] at fT
    have hkb := hk.out.2
    have hfd := fld_kind t.kind t.frm t.to (strOfNums t.text) (strOfNums t.num) t.whole
    have hkI : (k : Int) ≤ 3000000 := by omega
    by_cases h13 : t.kind = 13
    · have q : (t.kind == 13) = true := beq_iff_eq.2 h13
      have hnx := Lib.hid (show eBlanks ts (k + 1) = R from by have := hst.out; rw [if_pos h13] at this; rw [← this]; exact hk.out.1)
      have hle := Lib.hid (show k + 1 ≤ 3000000 from by
        by_cases hkl : k < ts.length
        · omega
        · have h0 : (eTok ts k).kind = 0 := eTok_none (by omega)
          exact absurd (hte.out ▸ h0 : t.kind = 0) (by rw [h13]; decide))
      clear h13 hst
      go_wp2_with (go_at_call 55; (with_reducible refine fT.mono ?_); rintro e w1 ⟨rfl, hb1⟩)
      go_roundw
      case rel => exact ⟨k + 1, by go_num, Lib.hid ⟨hnx.out, hle.out⟩, Lib.hid (bel_tr HB.out hb1)⟩
      case measure => simp [intOf]; omega
    · have q : (t.kind == 13) = false := beq_eq_false_iff_ne.2 h13
      have hnx := Lib.hid (show k = R from by have := hst.out; rw [if_neg h13] at this; rw [← this]; exact hk.out.1)
      clear h13 hst
      go_wp2_with (go_at_call 55; (with_reducible refine fT.mono ?_); rintro e w1 ⟨rfl, hb1⟩)
      go_ret
      exact ⟨by rw [hnx.out]; rfl, bel_tr HB.out hb1⟩
set_option maxRecDepth 100000 in
set_option maxHeartbeats 2000000 in
theorem efail_any {w : World} {p : Nat} {E : Ey} {ts : List Tk} {ps : List ByteArray} {st : Es} (h : EyeAt w p E ts ps st) (k : Int) (i : Nat) (hi2 : i ≤ 4000000) :
    Calls Tryz.prog 56 #[.pointer (some ⟨p, 0, none⟩), .int .i64 k, .int .i64 i] w fun e w' => e = .returned (.int .i64 i) ∧ EyeAt w' p E ts ps (eFail ts st k i) ∧ GB w w' p := by
  have HE := Lib.hid h
  have c5 := h.blk.cell 5 _ rfl
  have g5 := h.blk.frozen 5
  unfold eFail
  clear h
  by_cases h0 : st.err = 0
  · rw [if_pos h0]
    have q : (st.err == 0) = true := beq_iff_eq.2 h0
    have B5 := HE.out.blk.setCell 5 (.int .i64 k)
    have hg5 := grown_setCell w p 5 (.int .i64 k)
    have h5 : EyeAt (w.setCell ⟨p, 5, none⟩ (.int .i64 k)) p E ts ps { st with err := k } := HE.out.grown hg5 B5
    have fT := tok_any h5 i hi2
    have H5 := Lib.hid h5
    generalize eTok ts i = t at *
    rw [tkV_eq] at fT
    have hfd := fld_from t.kind t.frm t.to (strOfNums t.text) (strOfNums t.num) t.whole
    clear h0 h5 B5
    go_enter Tryz.func56, Tryz.ntmps56
    go_wp2_with (go_at_call 55; (with_reducible refine fT.mono ?_); rintro e w1 ⟨rfl, hb1⟩; have h6 := H5.out.later hb1; have c6 := h6.blk.cell 6 _ rfl; have g6 := h6.blk.frozen 6)
    go_ret
    exact ⟨rfl, h6.grown (grown_setCell w1 p 6 (.int .i64 t.frm)) (h6.blk.setCell 6 (.int .i64 t.frm)), (GB.trans hg5 (GB.of_below hb1)).trans (grown_setCell w1 p 6 (.int .i64 t.frm))⟩
  · rw [if_neg h0]
    have q : (st.err == 0) = false := beq_eq_false_iff_ne.2 h0
    clear h0
    go_enter Tryz.func56, Tryz.ntmps56
    go_wp2
    go_ret
    exact ⟨rfl, HE.out, World.grownBy.refl _ _⟩
set_option maxRecDepth 100000 in
set_option maxHeartbeats 2000000 in
theorem ecomb_any {w : World} {p : Nat} {E : Ey} {ts : List Tk} {ps : List ByteArray} {st : Es} (h : EyeAt w p E ts ps st) (i : Nat) (hi2 : i ≤ 4000000) :
    Calls Tryz.prog 70 #[.pointer (some ⟨p, 0, none⟩), .int .i64 i] w (Told (.int .i64 (eComb ts i)) w) := by
  obtain ⟨w0, hw0⟩ : ∃ w0, w.alloc (.cells #[.string ⟨#[62]⟩, .string ⟨#[43]⟩, .string ⟨#[126]⟩] 9) = w0 := ⟨_, rfl⟩
  have hb0 : Below w.heap.size w w0 := by rw [← hw0]; exact (Below.refl _ _).alloc (Nat.le_refl _) _
  have B0 : Blk w0 w.heap.size [.string ⟨#[62]⟩, .string ⟨#[43]⟩, .string ⟨#[126]⟩] 9 := by rw [← hw0]; exact Blk.alloc _ _
  have HE := Lib.hid (h.later hb0)
  have HB0 := Lib.hid B0
  have hs := fun w' (hb : Below w0.heap.size w0 w') s => esign_any (HE.out.later hb) i hi2 s
  have HS := Lib.hid hs
  have Hb0 := Lib.hid hb0
  obtain ⟨R, hR⟩ : ∃ R, eComb ts i = R := ⟨_, rfl⟩
  rw [hR]
  have HRR := Lib.hid hR
  clear h B0 hb0 hs hR
  have HW0 := Lib.hid hw0
  go_enter Tryz.func70, Tryz.ntmps70
  go_wp2_with fail
  clear hw0
  go_loopw [6] (fun v wr => ∃ k : Nat, k ≤ 3 ∧ v = .int .i64 k ∧ Hid ((0 < k → eSign ts i ⟨#[62]⟩ = false) ∧ (1 < k → eSign ts i ⟨#[43]⟩ = false) ∧ (2 < k → eSign ts i ⟨#[126]⟩ = false)) ∧ Hid (Below w0.heap.size w0 wr)) (fun v _ => 3 - (intOf v).toNat)
  case atStart => exact ⟨0, by omega, rfl, Lib.hid ⟨fun h => by omega, fun h => by omega, fun h => by omega⟩, Lib.hid (Below.refl _ _)⟩
  case round =>
    obtain ⟨k, hk, rfl, hq, HB⟩ := hrel
    rcases (show k = 0 ∨ k = 1 ∨ k = 2 ∨ k = 3 by omega) with rfl | rfl | rfl | rfl
    · have f0 := HS.out wr HB.out ⟨#[62]⟩
      have c0 := (HB0.out.later HB.out HB0.out.lt).cell 0 _ rfl
      obtain ⟨r, hr⟩ : ∃ r, eSign ts i ⟨#[62]⟩ = r := ⟨_, rfl⟩
      rw [hr] at f0
      have HR := Lib.hid hr
      clear hr
      cases r
      · have hn := Lib.hid HR.out
        go_wp2_with (go_at_call 104; (refine f0.mono ?_); rintro e w1 ⟨rfl, hb1⟩)
        go_roundw
        case rel => exact ⟨1, by omega, by go_num, Lib.hid ⟨fun _ => HR.out, fun h => by omega, fun h => by omega⟩, Lib.hid (bel_tr HB.out hb1)⟩
        case measure => simp [intOf]
      · go_wp2_with (go_at_call 104; (refine f0.mono ?_); rintro e w1 ⟨rfl, hb1⟩)
        go_ret
        exact ⟨by rw [← HRR.out]; unfold eComb; rw [if_pos (by rw [HR.out])]; rfl, Hb0.out.trans ((bel_tr HB.out hb1).mono Hb0.out.size)⟩
    · have f0 := HS.out wr HB.out ⟨#[43]⟩
      have c0 := (HB0.out.later HB.out HB0.out.lt).cell 1 _ rfl
      obtain ⟨r, hr⟩ : ∃ r, eSign ts i ⟨#[43]⟩ = r := ⟨_, rfl⟩
      rw [hr] at f0
      have HR := Lib.hid hr
      clear hr
      cases r
      · have hn := Lib.hid HR.out
        go_wp2_with (go_at_call 104; (refine f0.mono ?_); rintro e w1 ⟨rfl, hb1⟩)
        go_roundw
        case rel => exact ⟨2, by omega, by go_num, Lib.hid ⟨fun _ => hq.out.1 (by omega), fun h => HR.out, fun h => by omega⟩, Lib.hid (bel_tr HB.out hb1)⟩
        case measure => simp [intOf]
      · go_wp2_with (go_at_call 104; (refine f0.mono ?_); rintro e w1 ⟨rfl, hb1⟩)
        go_ret
        exact ⟨by rw [← HRR.out]; unfold eComb; rw [if_neg (by rw [hq.out.1 (by omega)]; decide)]; rw [if_pos (by rw [HR.out])]; rfl, Hb0.out.trans ((bel_tr HB.out hb1).mono Hb0.out.size)⟩
    · have f0 := HS.out wr HB.out ⟨#[126]⟩
      have c0 := (HB0.out.later HB.out HB0.out.lt).cell 2 _ rfl
      obtain ⟨r, hr⟩ : ∃ r, eSign ts i ⟨#[126]⟩ = r := ⟨_, rfl⟩
      rw [hr] at f0
      have HR := Lib.hid hr
      clear hr
      cases r
      · have hn := Lib.hid HR.out
        go_wp2_with (go_at_call 104; (refine f0.mono ?_); rintro e w1 ⟨rfl, hb1⟩)
        go_roundw
        case rel => exact ⟨3, by omega, by go_num, Lib.hid ⟨fun _ => hq.out.1 (by omega), fun h => hq.out.2.1 (by omega), fun h => HR.out⟩, Lib.hid (bel_tr HB.out hb1)⟩
        case measure => simp [intOf]
      · go_wp2_with (go_at_call 104; (refine f0.mono ?_); rintro e w1 ⟨rfl, hb1⟩)
        go_ret
        exact ⟨by rw [← HRR.out]; unfold eComb; rw [if_neg (by rw [hq.out.1 (by omega)]; decide)]; rw [if_neg (by rw [hq.out.2.1 (by omega)]; decide)]; rw [if_pos (by rw [HR.out])]; rfl, Hb0.out.trans ((bel_tr HB.out hb1).mono Hb0.out.size)⟩
    · go_wp2
      go_ret
      exact ⟨by rw [← HRR.out]; unfold eComb; rw [if_neg (by rw [hq.out.1 (by omega)]; decide), if_neg (by rw [hq.out.2.1 (by omega)]; decide), if_neg (by rw [hq.out.2.2 (by omega)]; decide)]; rfl, Hb0.out.trans (HB.out.mono Hb0.out.size)⟩
end

section
open Go.RowKit
set_option linter.unusedVariables false
set_option linter.unusedSimpArgs false
set_option maxRecDepth 100000 in
set_option maxHeartbeats 8000000 in
theorem eprefix_any {w : World} {p : Nat} {E : Ey} {ts : List Tk} {ps : List ByteArray} {st : Es} (h : EyeAt w p E ts ps st) (i : Nat) (hi2 : i ≤ 3000000) (attr : Bool) :
    Calls Tryz.prog 117 #[.pointer (some ⟨p, 0, none⟩), .int .i64 i, .bool attr] w (Told (.int .i64 (ePrefix ts i attr)) w) := by
  have HN := Lib.hid (fun w' (hb : Below w.heap.size w w') (j : Nat) (hj : j ≤ 4000000) (z : Int) (hz : z = (j : Int)) => (show Calls Tryz.prog 103 #[.pointer (some ⟨p, 0, none⟩), .int .i64 z] w' (Told (.bool (eName ts j)) w') from by rw [hz]; exact ename_any (h.later hb) j hj))
  have HS := Lib.hid (fun w' (hb : Below w.heap.size w w') (j : Nat) (hj : j ≤ 4000000) s (z : Int) (hz : z = (j : Int)) => (show Calls Tryz.prog 104 #[.pointer (some ⟨p, 0, none⟩), .int .i64 z, .string s] w' (Told (.bool (eSign ts j s)) w') from by rw [hz]; exact esign_any (h.later hb) j hj s))
  obtain ⟨R, hR⟩ : ∃ R, ePrefix ts i attr = R := ⟨_, rfl⟩
  rw [hR]
  have HR := Lib.hid hR
  have HI := Lib.hid hi2
  have hiI : (i : Int) ≤ 3000000 := by omega
  clear h hR
  obtain ⟨a1, ha1⟩ : ∃ r, eName ts i = r := ⟨_, rfl⟩
  obtain ⟨a2, ha2⟩ : ∃ r, eSign ts i ⟨#[42]⟩ = r := ⟨_, rfl⟩
  have f1 := HN.out w (Below.refl _ _) i (by omega)
  rw [ha1] at f1
  have f2 := fun w' (hb : Below w.heap.size w w') => HS.out w' hb i (by omega) ⟨#[42]⟩
  rw [ha2] at f2
  have HA1 := Lib.hid ha1
  have HA2 := Lib.hid ha2
  clear ha1 ha2
  cases a1
  · cases a2
    · skip
      obtain ⟨b, hb'⟩ : ∃ r, eSign ts i ⟨#[124]⟩ = r := ⟨_, rfl⟩
      obtain ⟨c1, hc1⟩ : ∃ r, eName ts (i + 1) = r := ⟨_, rfl⟩
      obtain ⟨c2, hc2⟩ : ∃ r, eSign ts (i + 1) ⟨#[42]⟩ = r := ⟨_, rfl⟩
      have g1 := fun w' (hb : Below w.heap.size w w') => HS.out w' hb i (by have := HI.out; omega) ⟨#[124]⟩
      rw [hb'] at g1
      have g2 := fun w' (hb : Below w.heap.size w w') => HN.out w' hb (i + 1) (by have := HI.out; omega)
      rw [hc1] at g2
      have g3 := fun w' (hb : Below w.heap.size w w') => HS.out w' hb (i + 1) (by have := HI.out; omega) ⟨#[42]⟩
      rw [hc2] at g3
      have HV : Hid (R = if b && (c1 || (!attr && c2)) then i + 1 else i) := Lib.hid (by
        rw [← HR.out]
        unfold ePrefix
        rw [HA1.out, HA2.out]
        simp only [Bool.or_self, Bool.false_eq_true, if_false]
        rw [hb', hc1, hc2])
      clear hb' hc1 hc2 HR
      cases b
      · go_enter Tryz.func117, Tryz.ntmps117
        go_wp2_with (first
          | (go_at_call 103; (with_reducible refine (f1 _ (by omega)).mono ?_); rintro e w1 ⟨rfl, hb1⟩; have f2' := f2 _ hb1; have g1' := g1 _ hb1)
          | (go_at_call 104; (with_reducible refine (f2' _ (by omega)).mono ?_); rintro e w2 ⟨rfl, hb2⟩; have hb02 := bel_tr hb1 hb2; have g1'' := g1 _ hb02)
          | (go_at_call 104; (first | (with_reducible refine (g1'' _ (by omega)).mono ?_) | (with_reducible refine (g1' _ (by omega)).mono ?_)); rintro e w3 ⟨rfl, hb3⟩; have hb03 := (by first | exact bel_tr hb02 hb3 | exact bel_tr hb1 hb3 : Below w.heap.size w w3); have g2' := g2 _ hb03)
          | (go_at_call 103; (with_reducible refine (g2' _ (by omega)).mono ?_); rintro e w4 ⟨rfl, hb4⟩; have hb04 := bel_tr hb03 hb4; have g3' := g3 _ hb04)
          | (go_at_call 104; (with_reducible refine (g3' _ (by omega)).mono ?_); rintro e w5 ⟨rfl, hb5⟩; have hb05 := bel_tr hb04 hb5))
        go_ret
        exact ⟨by rw [HV.out]; first | rfl | (simp; done) | (congr 1; simp), by first | exact hb05 | exact hb04 | exact hb03⟩
      · cases c1
        · cases attr
          · cases c2
            · go_enter Tryz.func117, Tryz.ntmps117
              go_wp2_with (first
                | (go_at_call 103; (with_reducible refine (f1 _ (by omega)).mono ?_); rintro e w1 ⟨rfl, hb1⟩; have f2' := f2 _ hb1; have g1' := g1 _ hb1)
                | (go_at_call 104; (with_reducible refine (f2' _ (by omega)).mono ?_); rintro e w2 ⟨rfl, hb2⟩; have hb02 := bel_tr hb1 hb2; have g1'' := g1 _ hb02)
                | (go_at_call 104; (first | (with_reducible refine (g1'' _ (by omega)).mono ?_) | (with_reducible refine (g1' _ (by omega)).mono ?_)); rintro e w3 ⟨rfl, hb3⟩; have hb03 := (by first | exact bel_tr hb02 hb3 | exact bel_tr hb1 hb3 : Below w.heap.size w w3); have g2' := g2 _ hb03)
                | (go_at_call 103; (with_reducible refine (g2' _ (by omega)).mono ?_); rintro e w4 ⟨rfl, hb4⟩; have hb04 := bel_tr hb03 hb4; have g3' := g3 _ hb04)
                | (go_at_call 104; (with_reducible refine (g3' _ (by omega)).mono ?_); rintro e w5 ⟨rfl, hb5⟩; have hb05 := bel_tr hb04 hb5))
              go_ret
              exact ⟨by rw [HV.out]; first | rfl | (simp; done) | (congr 1; simp), by first | exact hb05 | exact hb04 | exact hb03⟩
            · go_enter Tryz.func117, Tryz.ntmps117
              go_wp2_with (first
                | (go_at_call 103; (with_reducible refine (f1 _ (by omega)).mono ?_); rintro e w1 ⟨rfl, hb1⟩; have f2' := f2 _ hb1; have g1' := g1 _ hb1)
                | (go_at_call 104; (with_reducible refine (f2' _ (by omega)).mono ?_); rintro e w2 ⟨rfl, hb2⟩; have hb02 := bel_tr hb1 hb2; have g1'' := g1 _ hb02)
                | (go_at_call 104; (first | (with_reducible refine (g1'' _ (by omega)).mono ?_) | (with_reducible refine (g1' _ (by omega)).mono ?_)); rintro e w3 ⟨rfl, hb3⟩; have hb03 := (by first | exact bel_tr hb02 hb3 | exact bel_tr hb1 hb3 : Below w.heap.size w w3); have g2' := g2 _ hb03)
                | (go_at_call 103; (with_reducible refine (g2' _ (by omega)).mono ?_); rintro e w4 ⟨rfl, hb4⟩; have hb04 := bel_tr hb03 hb4; have g3' := g3 _ hb04)
                | (go_at_call 104; (with_reducible refine (g3' _ (by omega)).mono ?_); rintro e w5 ⟨rfl, hb5⟩; have hb05 := bel_tr hb04 hb5))
              go_ret
              exact ⟨by rw [HV.out]; first | rfl | (simp; done) | (congr 1; simp), by first | exact hb05 | exact hb04 | exact hb03⟩
          · go_enter Tryz.func117, Tryz.ntmps117
            go_wp2_with (first
              | (go_at_call 103; (with_reducible refine (f1 _ (by omega)).mono ?_); rintro e w1 ⟨rfl, hb1⟩; have f2' := f2 _ hb1; have g1' := g1 _ hb1)
              | (go_at_call 104; (with_reducible refine (f2' _ (by omega)).mono ?_); rintro e w2 ⟨rfl, hb2⟩; have hb02 := bel_tr hb1 hb2; have g1'' := g1 _ hb02)
              | (go_at_call 104; (first | (with_reducible refine (g1'' _ (by omega)).mono ?_) | (with_reducible refine (g1' _ (by omega)).mono ?_)); rintro e w3 ⟨rfl, hb3⟩; have hb03 := (by first | exact bel_tr hb02 hb3 | exact bel_tr hb1 hb3 : Below w.heap.size w w3); have g2' := g2 _ hb03)
              | (go_at_call 103; (with_reducible refine (g2' _ (by omega)).mono ?_); rintro e w4 ⟨rfl, hb4⟩; have hb04 := bel_tr hb03 hb4; have g3' := g3 _ hb04)
              | (go_at_call 104; (with_reducible refine (g3' _ (by omega)).mono ?_); rintro e w5 ⟨rfl, hb5⟩; have hb05 := bel_tr hb04 hb5))
            go_ret
            exact ⟨by rw [HV.out]; first | rfl | (simp; done) | (congr 1; simp), by first | exact hb05 | exact hb04 | exact hb03⟩
        · go_enter Tryz.func117, Tryz.ntmps117
          go_wp2_with (first
            | (go_at_call 103; (with_reducible refine (f1 _ (by omega)).mono ?_); rintro e w1 ⟨rfl, hb1⟩; have f2' := f2 _ hb1; have g1' := g1 _ hb1)
            | (go_at_call 104; (with_reducible refine (f2' _ (by omega)).mono ?_); rintro e w2 ⟨rfl, hb2⟩; have hb02 := bel_tr hb1 hb2; have g1'' := g1 _ hb02)
            | (go_at_call 104; (first | (with_reducible refine (g1'' _ (by omega)).mono ?_) | (with_reducible refine (g1' _ (by omega)).mono ?_)); rintro e w3 ⟨rfl, hb3⟩; have hb03 := (by first | exact bel_tr hb02 hb3 | exact bel_tr hb1 hb3 : Below w.heap.size w w3); have g2' := g2 _ hb03)
            | (go_at_call 103; (with_reducible refine (g2' _ (by omega)).mono ?_); rintro e w4 ⟨rfl, hb4⟩; have hb04 := bel_tr hb03 hb4; have g3' := g3 _ hb04)
            | (go_at_call 104; (with_reducible refine (g3' _ (by omega)).mono ?_); rintro e w5 ⟨rfl, hb5⟩; have hb05 := bel_tr hb04 hb5))
          go_ret
          exact ⟨by rw [HV.out]; first | rfl | (simp; done) | (congr 1; simp), by first | exact hb05 | exact hb04 | exact hb03⟩
    · skip
      obtain ⟨b, hb'⟩ : ∃ r, eSign ts (i + 1) ⟨#[124]⟩ = r := ⟨_, rfl⟩
      obtain ⟨c1, hc1⟩ : ∃ r, eName ts ((i + 1) + 1) = r := ⟨_, rfl⟩
      obtain ⟨c2, hc2⟩ : ∃ r, eSign ts ((i + 1) + 1) ⟨#[42]⟩ = r := ⟨_, rfl⟩
      have g1 := fun w' (hb : Below w.heap.size w w') => HS.out w' hb (i + 1) (by have := HI.out; omega) ⟨#[124]⟩
      rw [hb'] at g1
      have g2 := fun w' (hb : Below w.heap.size w w') => HN.out w' hb ((i + 1) + 1) (by have := HI.out; omega)
      rw [hc1] at g2
      have g3 := fun w' (hb : Below w.heap.size w w') => HS.out w' hb ((i + 1) + 1) (by have := HI.out; omega) ⟨#[42]⟩
      rw [hc2] at g3
      have HV : Hid (R = if b && (c1 || (!attr && c2)) then (i + 1) + 1 else i) := Lib.hid (by
        rw [← HR.out]
        unfold ePrefix
        rw [HA1.out, HA2.out]
        simp only [Bool.or_true, if_true]
        rw [hb', hc1, hc2])
      clear hb' hc1 hc2 HR
      cases b
      · go_enter Tryz.func117, Tryz.ntmps117
        go_wp2_with (first
          | (go_at_call 103; (with_reducible refine (f1 _ (by omega)).mono ?_); rintro e w1 ⟨rfl, hb1⟩; have f2' := f2 _ hb1; have g1' := g1 _ hb1)
          | (go_at_call 104; (with_reducible refine (f2' _ (by omega)).mono ?_); rintro e w2 ⟨rfl, hb2⟩; have hb02 := bel_tr hb1 hb2; have g1'' := g1 _ hb02)
          | (go_at_call 104; (first | (with_reducible refine (g1'' _ (by omega)).mono ?_) | (with_reducible refine (g1' _ (by omega)).mono ?_)); rintro e w3 ⟨rfl, hb3⟩; have hb03 := (by first | exact bel_tr hb02 hb3 | exact bel_tr hb1 hb3 : Below w.heap.size w w3); have g2' := g2 _ hb03)
          | (go_at_call 103; (with_reducible refine (g2' _ (by omega)).mono ?_); rintro e w4 ⟨rfl, hb4⟩; have hb04 := bel_tr hb03 hb4; have g3' := g3 _ hb04)
          | (go_at_call 104; (with_reducible refine (g3' _ (by omega)).mono ?_); rintro e w5 ⟨rfl, hb5⟩; have hb05 := bel_tr hb04 hb5))
        go_ret
        exact ⟨by rw [HV.out]; first | rfl | (simp; done) | (congr 1; simp), by first | exact hb05 | exact hb04 | exact hb03⟩
      · cases c1
        · cases attr
          · cases c2
            · go_enter Tryz.func117, Tryz.ntmps117
              go_wp2_with (first
                | (go_at_call 103; (with_reducible refine (f1 _ (by omega)).mono ?_); rintro e w1 ⟨rfl, hb1⟩; have f2' := f2 _ hb1; have g1' := g1 _ hb1)
                | (go_at_call 104; (with_reducible refine (f2' _ (by omega)).mono ?_); rintro e w2 ⟨rfl, hb2⟩; have hb02 := bel_tr hb1 hb2; have g1'' := g1 _ hb02)
                | (go_at_call 104; (first | (with_reducible refine (g1'' _ (by omega)).mono ?_) | (with_reducible refine (g1' _ (by omega)).mono ?_)); rintro e w3 ⟨rfl, hb3⟩; have hb03 := (by first | exact bel_tr hb02 hb3 | exact bel_tr hb1 hb3 : Below w.heap.size w w3); have g2' := g2 _ hb03)
                | (go_at_call 103; (with_reducible refine (g2' _ (by omega)).mono ?_); rintro e w4 ⟨rfl, hb4⟩; have hb04 := bel_tr hb03 hb4; have g3' := g3 _ hb04)
                | (go_at_call 104; (with_reducible refine (g3' _ (by omega)).mono ?_); rintro e w5 ⟨rfl, hb5⟩; have hb05 := bel_tr hb04 hb5))
              go_ret
              exact ⟨by rw [HV.out]; first | rfl | (simp; done) | (congr 1; simp), by first | exact hb05 | exact hb04 | exact hb03⟩
            · go_enter Tryz.func117, Tryz.ntmps117
              go_wp2_with (first
                | (go_at_call 103; (with_reducible refine (f1 _ (by omega)).mono ?_); rintro e w1 ⟨rfl, hb1⟩; have f2' := f2 _ hb1; have g1' := g1 _ hb1)
                | (go_at_call 104; (with_reducible refine (f2' _ (by omega)).mono ?_); rintro e w2 ⟨rfl, hb2⟩; have hb02 := bel_tr hb1 hb2; have g1'' := g1 _ hb02)
                | (go_at_call 104; (first | (with_reducible refine (g1'' _ (by omega)).mono ?_) | (with_reducible refine (g1' _ (by omega)).mono ?_)); rintro e w3 ⟨rfl, hb3⟩; have hb03 := (by first | exact bel_tr hb02 hb3 | exact bel_tr hb1 hb3 : Below w.heap.size w w3); have g2' := g2 _ hb03)
                | (go_at_call 103; (with_reducible refine (g2' _ (by omega)).mono ?_); rintro e w4 ⟨rfl, hb4⟩; have hb04 := bel_tr hb03 hb4; have g3' := g3 _ hb04)
                | (go_at_call 104; (with_reducible refine (g3' _ (by omega)).mono ?_); rintro e w5 ⟨rfl, hb5⟩; have hb05 := bel_tr hb04 hb5))
              go_ret
              exact ⟨by rw [HV.out]; first | rfl | (simp; done) | (congr 1; simp), by first | exact hb05 | exact hb04 | exact hb03⟩
          · go_enter Tryz.func117, Tryz.ntmps117
            go_wp2_with (first
              | (go_at_call 103; (with_reducible refine (f1 _ (by omega)).mono ?_); rintro e w1 ⟨rfl, hb1⟩; have f2' := f2 _ hb1; have g1' := g1 _ hb1)
              | (go_at_call 104; (with_reducible refine (f2' _ (by omega)).mono ?_); rintro e w2 ⟨rfl, hb2⟩; have hb02 := bel_tr hb1 hb2; have g1'' := g1 _ hb02)
              | (go_at_call 104; (first | (with_reducible refine (g1'' _ (by omega)).mono ?_) | (with_reducible refine (g1' _ (by omega)).mono ?_)); rintro e w3 ⟨rfl, hb3⟩; have hb03 := (by first | exact bel_tr hb02 hb3 | exact bel_tr hb1 hb3 : Below w.heap.size w w3); have g2' := g2 _ hb03)
              | (go_at_call 103; (with_reducible refine (g2' _ (by omega)).mono ?_); rintro e w4 ⟨rfl, hb4⟩; have hb04 := bel_tr hb03 hb4; have g3' := g3 _ hb04)
              | (go_at_call 104; (with_reducible refine (g3' _ (by omega)).mono ?_); rintro e w5 ⟨rfl, hb5⟩; have hb05 := bel_tr hb04 hb5))
            go_ret
            exact ⟨by rw [HV.out]; first | rfl | (simp; done) | (congr 1; simp), by first | exact hb05 | exact hb04 | exact hb03⟩
        · go_enter Tryz.func117, Tryz.ntmps117
          go_wp2_with (first
            | (go_at_call 103; (with_reducible refine (f1 _ (by omega)).mono ?_); rintro e w1 ⟨rfl, hb1⟩; have f2' := f2 _ hb1; have g1' := g1 _ hb1)
            | (go_at_call 104; (with_reducible refine (f2' _ (by omega)).mono ?_); rintro e w2 ⟨rfl, hb2⟩; have hb02 := bel_tr hb1 hb2; have g1'' := g1 _ hb02)
            | (go_at_call 104; (first | (with_reducible refine (g1'' _ (by omega)).mono ?_) | (with_reducible refine (g1' _ (by omega)).mono ?_)); rintro e w3 ⟨rfl, hb3⟩; have hb03 := (by first | exact bel_tr hb02 hb3 | exact bel_tr hb1 hb3 : Below w.heap.size w w3); have g2' := g2 _ hb03)
            | (go_at_call 103; (with_reducible refine (g2' _ (by omega)).mono ?_); rintro e w4 ⟨rfl, hb4⟩; have hb04 := bel_tr hb03 hb4; have g3' := g3 _ hb04)
            | (go_at_call 104; (with_reducible refine (g3' _ (by omega)).mono ?_); rintro e w5 ⟨rfl, hb5⟩; have hb05 := bel_tr hb04 hb5))
          go_ret
          exact ⟨by rw [HV.out]; first | rfl | (simp; done) | (congr 1; simp), by first | exact hb05 | exact hb04 | exact hb03⟩
  · skip
    obtain ⟨b, hb'⟩ : ∃ r, eSign ts (i + 1) ⟨#[124]⟩ = r := ⟨_, rfl⟩
    obtain ⟨c1, hc1⟩ : ∃ r, eName ts ((i + 1) + 1) = r := ⟨_, rfl⟩
    obtain ⟨c2, hc2⟩ : ∃ r, eSign ts ((i + 1) + 1) ⟨#[42]⟩ = r := ⟨_, rfl⟩
    have g1 := fun w' (hb : Below w.heap.size w w') => HS.out w' hb (i + 1) (by have := HI.out; omega) ⟨#[124]⟩
    rw [hb'] at g1
    have g2 := fun w' (hb : Below w.heap.size w w') => HN.out w' hb ((i + 1) + 1) (by have := HI.out; omega)
    rw [hc1] at g2
    have g3 := fun w' (hb : Below w.heap.size w w') => HS.out w' hb ((i + 1) + 1) (by have := HI.out; omega) ⟨#[42]⟩
    rw [hc2] at g3
    have HV : Hid (R = if b && (c1 || (!attr && c2)) then (i + 1) + 1 else i) := Lib.hid (by
      rw [← HR.out]
      unfold ePrefix
      rw [HA1.out, HA2.out]
      simp only [Bool.true_or, if_true]
      rw [hb', hc1, hc2])
    clear hb' hc1 hc2 HR
    cases b
    · go_enter Tryz.func117, Tryz.ntmps117
      go_wp2_with (first
        | (go_at_call 103; (with_reducible refine (f1 _ (by omega)).mono ?_); rintro e w1 ⟨rfl, hb1⟩; have f2' := f2 _ hb1; have g1' := g1 _ hb1)
        | (go_at_call 104; (with_reducible refine (f2' _ (by omega)).mono ?_); rintro e w2 ⟨rfl, hb2⟩; have hb02 := bel_tr hb1 hb2; have g1'' := g1 _ hb02)
        | (go_at_call 104; (first | (with_reducible refine (g1'' _ (by omega)).mono ?_) | (with_reducible refine (g1' _ (by omega)).mono ?_)); rintro e w3 ⟨rfl, hb3⟩; have hb03 := (by first | exact bel_tr hb02 hb3 | exact bel_tr hb1 hb3 : Below w.heap.size w w3); have g2' := g2 _ hb03)
        | (go_at_call 103; (with_reducible refine (g2' _ (by omega)).mono ?_); rintro e w4 ⟨rfl, hb4⟩; have hb04 := bel_tr hb03 hb4; have g3' := g3 _ hb04)
        | (go_at_call 104; (with_reducible refine (g3' _ (by omega)).mono ?_); rintro e w5 ⟨rfl, hb5⟩; have hb05 := bel_tr hb04 hb5))
      go_ret
      exact ⟨by rw [HV.out]; first | rfl | (simp; done) | (congr 1; simp), by first | exact hb05 | exact hb04 | exact hb03⟩
    · cases c1
      · cases attr
        · cases c2
          · go_enter Tryz.func117, Tryz.ntmps117
            go_wp2_with (first
              | (go_at_call 103; (with_reducible refine (f1 _ (by omega)).mono ?_); rintro e w1 ⟨rfl, hb1⟩; have f2' := f2 _ hb1; have g1' := g1 _ hb1)
              | (go_at_call 104; (with_reducible refine (f2' _ (by omega)).mono ?_); rintro e w2 ⟨rfl, hb2⟩; have hb02 := bel_tr hb1 hb2; have g1'' := g1 _ hb02)
              | (go_at_call 104; (first | (with_reducible refine (g1'' _ (by omega)).mono ?_) | (with_reducible refine (g1' _ (by omega)).mono ?_)); rintro e w3 ⟨rfl, hb3⟩; have hb03 := (by first | exact bel_tr hb02 hb3 | exact bel_tr hb1 hb3 : Below w.heap.size w w3); have g2' := g2 _ hb03)
              | (go_at_call 103; (with_reducible refine (g2' _ (by omega)).mono ?_); rintro e w4 ⟨rfl, hb4⟩; have hb04 := bel_tr hb03 hb4; have g3' := g3 _ hb04)
              | (go_at_call 104; (with_reducible refine (g3' _ (by omega)).mono ?_); rintro e w5 ⟨rfl, hb5⟩; have hb05 := bel_tr hb04 hb5))
            go_ret
            exact ⟨by rw [HV.out]; first | rfl | (simp; done) | (congr 1; simp), by first | exact hb05 | exact hb04 | exact hb03⟩
          · go_enter Tryz.func117, Tryz.ntmps117
            go_wp2_with (first
              | (go_at_call 103; (with_reducible refine (f1 _ (by omega)).mono ?_); rintro e w1 ⟨rfl, hb1⟩; have f2' := f2 _ hb1; have g1' := g1 _ hb1)
              | (go_at_call 104; (with_reducible refine (f2' _ (by omega)).mono ?_); rintro e w2 ⟨rfl, hb2⟩; have hb02 := bel_tr hb1 hb2; have g1'' := g1 _ hb02)
              | (go_at_call 104; (first | (with_reducible refine (g1'' _ (by omega)).mono ?_) | (with_reducible refine (g1' _ (by omega)).mono ?_)); rintro e w3 ⟨rfl, hb3⟩; have hb03 := (by first | exact bel_tr hb02 hb3 | exact bel_tr hb1 hb3 : Below w.heap.size w w3); have g2' := g2 _ hb03)
              | (go_at_call 103; (with_reducible refine (g2' _ (by omega)).mono ?_); rintro e w4 ⟨rfl, hb4⟩; have hb04 := bel_tr hb03 hb4; have g3' := g3 _ hb04)
              | (go_at_call 104; (with_reducible refine (g3' _ (by omega)).mono ?_); rintro e w5 ⟨rfl, hb5⟩; have hb05 := bel_tr hb04 hb5))
            go_ret
            exact ⟨by rw [HV.out]; first | rfl | (simp; done) | (congr 1; simp), by first | exact hb05 | exact hb04 | exact hb03⟩
        · go_enter Tryz.func117, Tryz.ntmps117
          go_wp2_with (first
            | (go_at_call 103; (with_reducible refine (f1 _ (by omega)).mono ?_); rintro e w1 ⟨rfl, hb1⟩; have f2' := f2 _ hb1; have g1' := g1 _ hb1)
            | (go_at_call 104; (with_reducible refine (f2' _ (by omega)).mono ?_); rintro e w2 ⟨rfl, hb2⟩; have hb02 := bel_tr hb1 hb2; have g1'' := g1 _ hb02)
            | (go_at_call 104; (first | (with_reducible refine (g1'' _ (by omega)).mono ?_) | (with_reducible refine (g1' _ (by omega)).mono ?_)); rintro e w3 ⟨rfl, hb3⟩; have hb03 := (by first | exact bel_tr hb02 hb3 | exact bel_tr hb1 hb3 : Below w.heap.size w w3); have g2' := g2 _ hb03)
            | (go_at_call 103; (with_reducible refine (g2' _ (by omega)).mono ?_); rintro e w4 ⟨rfl, hb4⟩; have hb04 := bel_tr hb03 hb4; have g3' := g3 _ hb04)
            | (go_at_call 104; (with_reducible refine (g3' _ (by omega)).mono ?_); rintro e w5 ⟨rfl, hb5⟩; have hb05 := bel_tr hb04 hb5))
          go_ret
          exact ⟨by rw [HV.out]; first | rfl | (simp; done) | (congr 1; simp), by first | exact hb05 | exact hb04 | exact hb03⟩
      · go_enter Tryz.func117, Tryz.ntmps117
        go_wp2_with (first
          | (go_at_call 103; (with_reducible refine (f1 _ (by omega)).mono ?_); rintro e w1 ⟨rfl, hb1⟩; have f2' := f2 _ hb1; have g1' := g1 _ hb1)
          | (go_at_call 104; (with_reducible refine (f2' _ (by omega)).mono ?_); rintro e w2 ⟨rfl, hb2⟩; have hb02 := bel_tr hb1 hb2; have g1'' := g1 _ hb02)
          | (go_at_call 104; (first | (with_reducible refine (g1'' _ (by omega)).mono ?_) | (with_reducible refine (g1' _ (by omega)).mono ?_)); rintro e w3 ⟨rfl, hb3⟩; have hb03 := (by first | exact bel_tr hb02 hb3 | exact bel_tr hb1 hb3 : Below w.heap.size w w3); have g2' := g2 _ hb03)
          | (go_at_call 103; (with_reducible refine (g2' _ (by omega)).mono ?_); rintro e w4 ⟨rfl, hb4⟩; have hb04 := bel_tr hb03 hb4; have g3' := g3 _ hb04)
          | (go_at_call 104; (with_reducible refine (g3' _ (by omega)).mono ?_); rintro e w5 ⟨rfl, hb5⟩; have hb05 := bel_tr hb04 hb5))
        go_ret
        exact ⟨by rw [HV.out]; first | rfl | (simp; done) | (congr 1; simp), by first | exact hb05 | exact hb04 | exact hb03⟩
end

section
open Go.RowKit
set_option linter.unusedVariables false
theorem heap_setE {w : World} {g i b : Nat} {v : Value} (h : b ≠ g) : (w.setCell ⟨g, i, none⟩ v).heap[b]? = w.heap[b]? := Below.heap_setCell w ⟨g, i, none⟩ v b h
def setAllE (w : World) (g : Nat) : Nat → List Value → World
  | _, [] => w
  | o, v :: vs => setAllE (w.setCell ⟨g, o, none⟩ v) g (o + 1) vs
theorem setAll_oldE {g b : Nat} (h : b ≠ g) : ∀ (vs : List Value) (o : Nat) (w : World), (setAllE w g o vs).heap[b]? = w.heap[b]?
  | [], _, _ => rfl
  | v :: vs, o, w => (setAll_oldE h vs (o + 1) _).trans (heap_setE h)
theorem setAll_belowE {B g : Nat} {w0 : World} (hg : B ≤ g) : ∀ (vs : List Value) (o : Nat) (w : World), Below B w0 w → Below B w0 (setAllE w g o vs)
  | [], _, _, h => h
  | v :: vs, o, w, h => setAll_belowE hg vs (o + 1) _ (h.setCell (p := ⟨g, o, none⟩) hg v)
def setsAllE (cs : List Value) : Nat → List Value → List Value
  | _, [] => cs
  | o, v :: vs => setsAllE (cs.set o v) (o + 1) vs
theorem setAll_blkE {g : Nat} {T : TypeId} : ∀ (vs : List Value) (o : Nat) (w : World) (cs : List Value), Blk w g cs T → Blk (setAllE w g o vs) g (setsAllE cs o vs) T
  | [], _, _, _, h => h
  | v :: vs, o, w, cs, h => setAll_blkE vs (o + 1) _ _ (h.setCell o v)
end

section
open Go.RowKit
set_option linter.unusedVariables false
set_option linter.unusedSimpArgs false
def hasE (l : List ByteArray) (s : ByteArray) : Bool := l.any fun x => x.toList == s.toList
set_option maxRecDepth 100000 in
set_option maxHeartbeats 1000000 in
theorem ehas_any (l : List ByteArray) (a : Option Addr) (n c : Nat) (s : ByteArray) (w : World) (ok : Nat → Prop) (hok : ∀ b, ok b → b < w.heap.size) (hr : RsOf ok 1 (TxtAt w) a n c l) :
    Calls Tryz.prog 52 #[.slice a n c, .string s] w (Told (.bool (hasE l s)) w) := by
  have hm : n ≤ 9223372036854775807 := by have := hr.2.1; have := hr.2.2.1; unfold maxLen at this; omega
  have HN := Lib.hid hr.1
  have HR := Lib.hid hr
  clear hr
  go_enter Tryz.func52, Tryz.ntmps52
  go_wp2
  go_loopw [5] (fun i wr => ∃ k : Nat, k ≤ n ∧ i = .int .i64 k ∧ Hid ((l.take k).any (fun x => x.toList == s.toList) = false) ∧ Below w.heap.size w wr) (fun i _ => n - (intOf i).toNat)
  case atStart => exact ⟨0, Nat.zero_le _, rfl, Lib.hid rfl, Below.refl _ _⟩
  case round =>
    obtain ⟨k, hk, rfl, hp, hB⟩ := hrel
    by_cases hlt : k < n
    · obtain ⟨x, hx⟩ : ∃ x, l[k]? = some x := ⟨_, List.getElem?_eq_getElem (by rw [← HN.out]; exact hlt)⟩
      obtain ⟨b, off, rfl, hb, hc⟩ := HR.out.at k x hx
      unfold TxtAt at hc
      rw [Nat.mul_one, ← hB.cell (p := ⟨b, off + k, none⟩) (hok b hb)] at hc
      have hkI : (0 : Int) ≤ (k : Int) := by omega
      have hkI2 : (k : Int) < (n : Int) := by omega
      have hst := Lib.hid (show (l.take (k + 1)).any (fun x => x.toList == s.toList) = (x.toList == s.toList) from by
        rw [List.take_add_one, hx, List.any_append, hp.out]; simp)
      have hin : x ∈ l := List.mem_of_getElem? hx
      clear hp hx
      cases hq : (x.toList == s.toList)
      · rw [hq] at hst
        go_wp2
        go_roundw
        case rel => exact ⟨k + 1, by omega, by go_num, hst, hB⟩
        case measure => simp [intOf]; omega
      · have hres := Lib.hid (show hasE l s = true from by unfold hasE; rw [List.any_eq_true]; exact ⟨x, hin, hq⟩)
        clear hst
        go_wp2
        go_ret
        exact ⟨by rw [hres.out]; rfl, hB⟩
    · obtain rfl : k = n := by omega
      have hres := Lib.hid (show hasE l s = false from by
        have := hp.out
        rwa [List.take_of_length_le (by rw [← HN.out]; exact Nat.le_refl _)] at this)
      clear hp
      go_wp2
      go_ret
      exact ⟨by rw [hres.out]; rfl, hB⟩
def placeF (ns : Int) (pre : ByteArray) : Flat := ⟨0, ns, pre, ⟨#[]⟩, 0, ⟨#[]⟩, false, 0, 0, 0⟩
def ePlaced (ts : List Tk) (ps : List ByteArray) (st : Es) (i : Nat) (attr : Bool) : Flat × Nat × Es :=
  let to := ePrefix ts i attr
  if to = i then (placeF 0 ⟨#[]⟩, i, st)
  else if to = i + 1 then (placeF 2 ⟨#[]⟩, to, st)
  else if eSign ts i ⟨#[42]⟩ then (placeF 1 ⟨#[]⟩, to, st)
  else (placeF 3 (strOfNums (eTok ts i).text), to, if hasE ps (strOfNums (eTok ts i).text) then st else eFail ts st 14 i)
def EP (p : Nat) (E : Ey) (ts : List Tk) (ps : List ByteArray) (r : Flat × Nat × Es) (w : World) (e : Ending) (w' : World) : Prop :=
  e = .returned (.tuple #[sval r.1 none 0 0, .int .i64 r.2.1]) ∧ EyeAt w' p E ts ps r.2.2 ∧ GB w w' p
theorem ePrefix_le (ts : List Tk) (i : Nat) (attr : Bool) : ePrefix ts i attr ≤ i + 2 := by
  unfold ePrefix
  dsimp only
  repeat' split
  all_goals omega
theorem gb_setAll {w w7 : World} {p g : Nat} (h : GB w w7 p) (hg : w.heap.size ≤ g) (vs : List Value) (o : Nat) : GB w (setAllE w7 g o vs) p := by
  have hb : Below 0 w7 (setAllE w7 g o vs) := setAll_belowE (Nat.zero_le _) vs o w7 (Below.refl _ _)
  exact ⟨hb.os.trans h.os, hb.tape.trans h.tape, hb.output.trans h.output, Nat.le_trans h.size hb.size, fun i hi hne => (setAll_oldE (by omega) vs o w7).trans (h.block i hi hne)⟩
end

section
open Go.RowKit
set_option linter.unusedVariables false
set_option linter.unusedSimpArgs false
def stateE : List ByteArray := [⟨#[104, 111, 118, 101, 114]⟩, ⟨#[97, 99, 116, 105, 118, 101]⟩, ⟨#[102, 111, 99, 117, 115]⟩, ⟨#[102, 111, 99, 117, 115, 45, 118, 105, 115, 105, 98, 108, 101]⟩, ⟨#[118, 105, 115, 105, 116, 101, 100]⟩, ⟨#[108, 105, 110, 107]⟩, ⟨#[99, 104, 101, 99, 107, 101, 100]⟩, ⟨#[100, 105, 115, 97, 98, 108, 101, 100]⟩, ⟨#[101, 110, 97, 98, 108, 101, 100]⟩, ⟨#[116, 97, 114, 103, 101, 116]⟩]
def elemE : List ByteArray := [⟨#[98, 101, 102, 111, 114, 101]⟩, ⟨#[97, 102, 116, 101, 114]⟩, ⟨#[102, 105, 114, 115, 116, 45, 108, 105, 110, 101]⟩, ⟨#[102, 105, 114, 115, 116, 45, 108, 101, 116, 116, 101, 114]⟩, ⟨#[109, 97, 114, 107, 101, 114]⟩, ⟨#[115, 101, 108, 101, 99, 116, 105, 111, 110]⟩, ⟨#[112, 108, 97, 99, 101, 104, 111, 108, 100, 101, 114]⟩, ⟨#[98, 97, 99, 107, 100, 114, 111, 112]⟩]
set_option maxRecDepth 100000 in
set_option maxHeartbeats 4000000 in
theorem state8_any (s : ByteArray) (w : World) : Calls Tryz.prog 90 #[.string s] w (Told (.bool (hasE stateE s)) w) := by
  have hA := Blk.alloc (w := w) [.string ⟨#[104, 111, 118, 101, 114]⟩, .string ⟨#[97, 99, 116, 105, 118, 101]⟩, .string ⟨#[102, 111, 99, 117, 115]⟩, .string ⟨#[102, 111, 99, 117, 115, 45, 118, 105, 115, 105, 98, 108, 101]⟩, .string ⟨#[118, 105, 115, 105, 116, 101, 100]⟩, .string ⟨#[108, 105, 110, 107]⟩, .string ⟨#[99, 104, 101, 99, 107, 101, 100]⟩, .string ⟨#[100, 105, 115, 97, 98, 108, 101, 100]⟩, .string ⟨#[101, 110, 97, 98, 108, 101, 100]⟩, .string ⟨#[116, 97, 114, 103, 101, 116]⟩] 9
  have cH := ehas_any stateE (some ⟨w.heap.size, 0, none⟩) 10 10 s (w.alloc (.cells #[.string ⟨#[104, 111, 118, 101, 114]⟩, .string ⟨#[97, 99, 116, 105, 118, 101]⟩, .string ⟨#[102, 111, 99, 117, 115]⟩, .string ⟨#[102, 111, 99, 117, 115, 45, 118, 105, 115, 105, 98, 108, 101]⟩, .string ⟨#[118, 105, 115, 105, 116, 101, 100]⟩, .string ⟨#[108, 105, 110, 107]⟩, .string ⟨#[99, 104, 101, 99, 107, 101, 100]⟩, .string ⟨#[100, 105, 115, 97, 98, 108, 101, 100]⟩, .string ⟨#[101, 110, 97, 98, 108, 101, 100]⟩, .string ⟨#[116, 97, 114, 103, 101, 116]⟩] 9)) (· < (w.alloc (.cells #[.string ⟨#[104, 111, 118, 101, 114]⟩, .string ⟨#[97, 99, 116, 105, 118, 101]⟩, .string ⟨#[102, 111, 99, 117, 115]⟩, .string ⟨#[102, 111, 99, 117, 115, 45, 118, 105, 115, 105, 98, 108, 101]⟩, .string ⟨#[118, 105, 115, 105, 116, 101, 100]⟩, .string ⟨#[108, 105, 110, 107]⟩, .string ⟨#[99, 104, 101, 99, 107, 101, 100]⟩, .string ⟨#[100, 105, 115, 97, 98, 108, 101, 100]⟩, .string ⟨#[101, 110, 97, 98, 108, 101, 100]⟩, .string ⟨#[116, 97, 114, 103, 101, 116]⟩] 9)).heap.size) (fun b h => h)
    ⟨rfl, Nat.le_refl _, by unfold maxLen; omega, .inr ⟨w.heap.size, 0, rfl, hA.lt, fun i x hx => by
      have := hA.cell i (.string x) (by
        have h2 : ([.string ⟨#[104, 111, 118, 101, 114]⟩, .string ⟨#[97, 99, 116, 105, 118, 101]⟩, .string ⟨#[102, 111, 99, 117, 115]⟩, .string ⟨#[102, 111, 99, 117, 115, 45, 118, 105, 115, 105, 98, 108, 101]⟩, .string ⟨#[118, 105, 115, 105, 116, 101, 100]⟩, .string ⟨#[108, 105, 110, 107]⟩, .string ⟨#[99, 104, 101, 99, 107, 101, 100]⟩, .string ⟨#[100, 105, 115, 97, 98, 108, 101, 100]⟩, .string ⟨#[101, 110, 97, 98, 108, 101, 100]⟩, .string ⟨#[116, 97, 114, 103, 101, 116]⟩] : List Value) = stateE.map Value.string := rfl
        rw [h2, List.getElem?_map, hx]; rfl)
      rw [Nat.mul_one, Nat.zero_add]; exact this⟩⟩
  have hb : Below w.heap.size w (w.alloc (.cells #[.string ⟨#[104, 111, 118, 101, 114]⟩, .string ⟨#[97, 99, 116, 105, 118, 101]⟩, .string ⟨#[102, 111, 99, 117, 115]⟩, .string ⟨#[102, 111, 99, 117, 115, 45, 118, 105, 115, 105, 98, 108, 101]⟩, .string ⟨#[118, 105, 115, 105, 116, 101, 100]⟩, .string ⟨#[108, 105, 110, 107]⟩, .string ⟨#[99, 104, 101, 99, 107, 101, 100]⟩, .string ⟨#[100, 105, 115, 97, 98, 108, 101, 100]⟩, .string ⟨#[101, 110, 97, 98, 108, 101, 100]⟩, .string ⟨#[116, 97, 114, 103, 101, 116]⟩] 9)) := (Below.refl _ w).alloc (Nat.le_refl _) _
  clear hA
  generalize hasE stateE s = r at *
  go_enter Tryz.func90, Tryz.ntmps90
  go_wp2_with fail
  refine cH.mono ?_
  rintro e w1 ⟨rfl, hb1⟩
  go_wp2
  go_ret
  exact ⟨rfl, hb.trans (hb1.mono hb.size)⟩
set_option maxRecDepth 100000 in
set_option maxHeartbeats 4000000 in
theorem elem8_any (s : ByteArray) (w : World) : Calls Tryz.prog 91 #[.string s] w (Told (.bool (hasE elemE s)) w) := by
  have hA := Blk.alloc (w := w) [.string ⟨#[98, 101, 102, 111, 114, 101]⟩, .string ⟨#[97, 102, 116, 101, 114]⟩, .string ⟨#[102, 105, 114, 115, 116, 45, 108, 105, 110, 101]⟩, .string ⟨#[102, 105, 114, 115, 116, 45, 108, 101, 116, 116, 101, 114]⟩, .string ⟨#[109, 97, 114, 107, 101, 114]⟩, .string ⟨#[115, 101, 108, 101, 99, 116, 105, 111, 110]⟩, .string ⟨#[112, 108, 97, 99, 101, 104, 111, 108, 100, 101, 114]⟩, .string ⟨#[98, 97, 99, 107, 100, 114, 111, 112]⟩] 9
  have cH := ehas_any elemE (some ⟨w.heap.size, 0, none⟩) 8 8 s (w.alloc (.cells #[.string ⟨#[98, 101, 102, 111, 114, 101]⟩, .string ⟨#[97, 102, 116, 101, 114]⟩, .string ⟨#[102, 105, 114, 115, 116, 45, 108, 105, 110, 101]⟩, .string ⟨#[102, 105, 114, 115, 116, 45, 108, 101, 116, 116, 101, 114]⟩, .string ⟨#[109, 97, 114, 107, 101, 114]⟩, .string ⟨#[115, 101, 108, 101, 99, 116, 105, 111, 110]⟩, .string ⟨#[112, 108, 97, 99, 101, 104, 111, 108, 100, 101, 114]⟩, .string ⟨#[98, 97, 99, 107, 100, 114, 111, 112]⟩] 9)) (· < (w.alloc (.cells #[.string ⟨#[98, 101, 102, 111, 114, 101]⟩, .string ⟨#[97, 102, 116, 101, 114]⟩, .string ⟨#[102, 105, 114, 115, 116, 45, 108, 105, 110, 101]⟩, .string ⟨#[102, 105, 114, 115, 116, 45, 108, 101, 116, 116, 101, 114]⟩, .string ⟨#[109, 97, 114, 107, 101, 114]⟩, .string ⟨#[115, 101, 108, 101, 99, 116, 105, 111, 110]⟩, .string ⟨#[112, 108, 97, 99, 101, 104, 111, 108, 100, 101, 114]⟩, .string ⟨#[98, 97, 99, 107, 100, 114, 111, 112]⟩] 9)).heap.size) (fun b h => h)
    ⟨rfl, Nat.le_refl _, by unfold maxLen; omega, .inr ⟨w.heap.size, 0, rfl, hA.lt, fun i x hx => by
      have := hA.cell i (.string x) (by
        have h2 : ([.string ⟨#[98, 101, 102, 111, 114, 101]⟩, .string ⟨#[97, 102, 116, 101, 114]⟩, .string ⟨#[102, 105, 114, 115, 116, 45, 108, 105, 110, 101]⟩, .string ⟨#[102, 105, 114, 115, 116, 45, 108, 101, 116, 116, 101, 114]⟩, .string ⟨#[109, 97, 114, 107, 101, 114]⟩, .string ⟨#[115, 101, 108, 101, 99, 116, 105, 111, 110]⟩, .string ⟨#[112, 108, 97, 99, 101, 104, 111, 108, 100, 101, 114]⟩, .string ⟨#[98, 97, 99, 107, 100, 114, 111, 112]⟩] : List Value) = elemE.map Value.string := rfl
        rw [h2, List.getElem?_map, hx]; rfl)
      rw [Nat.mul_one, Nat.zero_add]; exact this⟩⟩
  have hb : Below w.heap.size w (w.alloc (.cells #[.string ⟨#[98, 101, 102, 111, 114, 101]⟩, .string ⟨#[97, 102, 116, 101, 114]⟩, .string ⟨#[102, 105, 114, 115, 116, 45, 108, 105, 110, 101]⟩, .string ⟨#[102, 105, 114, 115, 116, 45, 108, 101, 116, 116, 101, 114]⟩, .string ⟨#[109, 97, 114, 107, 101, 114]⟩, .string ⟨#[115, 101, 108, 101, 99, 116, 105, 111, 110]⟩, .string ⟨#[112, 108, 97, 99, 101, 104, 111, 108, 100, 101, 114]⟩, .string ⟨#[98, 97, 99, 107, 100, 114, 111, 112]⟩] 9)) := (Below.refl _ w).alloc (Nat.le_refl _) _
  clear hA
  generalize hasE elemE s = r at *
  go_enter Tryz.func91, Tryz.ntmps91
  go_wp2_with fail
  refine cH.mono ?_
  rintro e w1 ⟨rfl, hb1⟩
  go_wp2
  go_ret
  exact ⟨rfl, hb.trans (hb1.mono hb.size)⟩
end
end Go.Proofs.YtcfhggdiccilaaaGreat
