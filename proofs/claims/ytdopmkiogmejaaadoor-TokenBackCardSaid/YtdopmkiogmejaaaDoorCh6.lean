/- The document's answer on a text as a name: the walk. -/
import Derived.Test.YtdopmkiogmejaaaDoorCh5
namespace Go.Proofs.YtdopmkiogmejaaaDoor
open Go.RowKit
set_option linter.unusedVariables false
set_option linter.unusedSimpArgs false

theorem dig_name {c : Int} (h : digitB c = true) : nameB c = true := by unfold nameB; rw [h]; simp
set_option maxRecDepth 100000 in
set_option maxHeartbeats 8000000 in
theorem rident_any (s : ByteArray) (w : World) (hs : s.size ≤ 10000) : Calls Tryd.prog 8 #[.string s] w (Told (.string (strOfNums (identF (rawF (strI s))))) w) := by
  have hzr := rawF_right (strI s) (strI_u8 s)
  have hzl : (rawF (strI s)).length ≤ 10000 := by have := rawF_len (strI s); rw [strI_len] at this; omega
  go_enter Tryd.func8, Tryd.ntmps8
  go_wp2_with fail
  refine (rall_any s _ (by omega)).mono ?_
  rintro e w2 ⟨a, cap, rfl, hr, hb2⟩
  generalize rawF (strI s) = zs at *
  obtain ⟨n, hn⟩ : ∃ n, zs.length = n := ⟨_, rfl⟩
  rw [hn]
  have HN := Lib.hid hn
  have HZR := Lib.hid hzr
  have HR := Lib.hid hr
  have HB2 := Lib.hid hb2
  have hncap : n ≤ cap := by rw [← hn]; exact hr.1
  have hnI : n ≤ 10000 := by omega
  clear hb2 hr hn hzr
  go_wp2
  go_loopw [4, 5] (fun ov i wr => ∃ (k : Nat) (t : ByteArray), k ≤ n ∧ ov = .string t ∧ i = .int .i64 k ∧ Hid (strI t = identTo zs k) ∧ Below w2.heap.size w2 wr) (fun _ i _ => n - (intOf i).toNat)
  case atStart => exact ⟨0, ⟨#[]⟩, Nat.zero_le _, rfl, rfl, Lib.hid rfl, Below.refl _ _⟩
  case round =>
    obtain ⟨k, t, hk, rfl, rfl, HT, hbt⟩ := hrel
    have HBT := Lib.hid hbt
    have hts : t.size ≤ 60001 := by
      have h1 := (identTo_ok zs HZR.out k (by rw [HN.out]; exact hk)).2
      rw [← HT.out, strI_len] at h1
      omega
    by_cases hlt : k < n
    · have hkz : k < zs.length := by rw [HN.out]; exact hlt
      obtain ⟨g, off, ha, hat⟩ := ((HR.out.later hbt).2.2).resolve_left (fun h => by rw [h] at hkz; simp at hkz)
      have hcell : wr.cell? ⟨g, off + k, none⟩ = some (.int .i64 (zs[k]?.getD 0)) := hat.2 k hkz
      have hcell0 : wr.cell? ⟨g, off, none⟩ = some (.int .i64 (zs[0]?.getD 0)) := hat.2 0 (by omega)
      subst ha
      have hri : rightB (zs[k]?.getD 0) = true := by rw [List.getElem?_eq_getElem hkz]; exact HZR.out _ (List.getElem_mem _)
      have hkI : (0 : Int) ≤ (k : Int) := by omega
      have hkI2 : (k : Int) < (n : Int) := by omega
      obtain ⟨c, hcc⟩ : ∃ c, zs[k]?.getD 0 = c := ⟨_, rfl⟩
      obtain ⟨l0, hl0⟩ : ∃ c, zs[0]?.getD 0 = c := ⟨_, rfl⟩
      rw [hcc] at hcell hri
      rw [hl0] at hcell0
      have HL0 := Lib.hid hl0
      clear hl0
      obtain ⟨hch0, hch1⟩ := right_ch hri
      have hch : Ch c := ⟨hch0, hch1⟩
      clear hbt hat hkz
      by_cases hc0 : c = 0
      · subst hc0
        have HOUT := Lib.hid (show identTo zs (k + 1) = identTo zs k ++ putF 65533 from by show _ ++ outI zs k _ = _; rw [hcc]; simp [outI])
        clear hcc
        obtain ⟨P, cP, hPI, hPS⟩ : ∃ P : ByteArray, (∀ w : World, Calls Tryd.prog 15 #[.int .i64 65533] w (Told (.string P) w)) ∧ strI P = putF 65533 ∧ P.size ≤ 4 := ⟨_, fun w => rput_any 65533 w (by decide), strI_nums _ (putF_u8 65533 (by decide)), by rw [← strI_len, show strI _ = _ from strI_nums _ (putF_u8 65533 (by decide))]; exact putF_len 65533⟩
        have HPI := Lib.hid hPI
        clear hPI
        have hsz : ¬ 9223372036854775807 < t.size + P.size := by omega
        go_wp2_with (first
        | (go_at_call 15; refine (cP _).mono ?_; rintro e w9 ⟨rfl, hb9⟩))
        go_roundw
        case rel => exact ⟨k + 1, _, by omega, rfl, by go_num, Lib.hid (by rw [HOUT.out]; rw [strI_append, HPI.out, HT.out]), by first | exact HBT.out.trans (hb9.mono HBT.out.size) | exact (below_drewN HBT.out _).trans (hb9.mono HBT.out.size) | exact (below_drewN (below_drewN HBT.out _) _).trans (hb9.mono HBT.out.size)⟩
        case measure => simp [intOf]; omega
      have qc0 : (c == 0) = false := beq_eq_false_iff_ne.2 hc0
      by_cases h32 : c < 32
      · have q32 : decide (c < 32) = true := decide_eq_true h32
        have hct : controlB c = true := by unfold controlB; rw [decide_eq_true_iff]; omega
        have hx := ctl_hexes hct
        have HOUT := Lib.hid (show identTo zs (k + 1) = identTo zs k ++ escF c from by show _ ++ outI zs k _ = _; rw [hcc]; unfold outI; rw [if_neg hc0, if_pos (by simp [hct])])
        clear hcc
        obtain ⟨P, cD, hPI, hPS⟩ : ∃ P : ByteArray, (∀ w : World, Calls Tryd.prog 16 #[.int .i64 c, .int .i64 16] w (Told (.string P) w)) ∧ strI P = hexF c ∧ P.size ≤ 4 := digits_hex c hx
        have HPI := Lib.hid hPI
        clear hPI
        have hsz1 : ¬ 9223372036854775807 < (⟨#[92]⟩ : ByteArray).size + P.size := by have : (⟨#[92]⟩ : ByteArray).size = 1 := rfl; omega
        have hsz2 : ¬ 9223372036854775807 < ((⟨#[92]⟩ : ByteArray) ++ P).size + (⟨#[32]⟩ : ByteArray).size := by have : (⟨#[92]⟩ : ByteArray).size = 1 := rfl; have : (⟨#[32]⟩ : ByteArray).size = 1 := rfl; rw [ByteArray.size_append]; omega
        have hsz3 : ¬ 9223372036854775807 < t.size + ((⟨#[92]⟩ : ByteArray) ++ P ++ (⟨#[32]⟩ : ByteArray)).size := by have : (⟨#[92]⟩ : ByteArray).size = 1 := rfl; have : (⟨#[32]⟩ : ByteArray).size = 1 := rfl; rw [ByteArray.size_append, ByteArray.size_append]; omega
        go_wp2_with fail
        refine (cD _).mono ?_
        rintro e w9 ⟨rfl, hb9⟩
        go_wp2
        go_roundw
        case rel => exact ⟨k + 1, _, by omega, rfl, by go_num, Lib.hid (by rw [HOUT.out]; rw [strI_append, strI_append, strI_append, HPI.out, HT.out]; rfl), by first | exact HBT.out.trans (hb9.mono HBT.out.size) | exact (below_drewN HBT.out _).trans (hb9.mono HBT.out.size) | exact (below_drewN (below_drewN HBT.out _) _).trans (hb9.mono HBT.out.size)⟩
        case measure => simp [intOf]; omega
      have q32 : decide (c < 32) = false := decide_eq_false h32
      by_cases h127 : c = 127
      · have q127 : (c == 127) = true := beq_iff_eq.2 h127
        have hct : controlB c = true := by unfold controlB; rw [decide_eq_true_iff]; omega
        have hx := ctl_hexes hct
        clear h127
        have HOUT := Lib.hid (show identTo zs (k + 1) = identTo zs k ++ escF c from by show _ ++ outI zs k _ = _; rw [hcc]; unfold outI; rw [if_neg hc0, if_pos (by simp [hct])])
        clear hcc
        obtain ⟨P, cD, hPI, hPS⟩ : ∃ P : ByteArray, (∀ w : World, Calls Tryd.prog 16 #[.int .i64 c, .int .i64 16] w (Told (.string P) w)) ∧ strI P = hexF c ∧ P.size ≤ 4 := digits_hex c hx
        have HPI := Lib.hid hPI
        clear hPI
        have hsz1 : ¬ 9223372036854775807 < (⟨#[92]⟩ : ByteArray).size + P.size := by have : (⟨#[92]⟩ : ByteArray).size = 1 := rfl; omega
        have hsz2 : ¬ 9223372036854775807 < ((⟨#[92]⟩ : ByteArray) ++ P).size + (⟨#[32]⟩ : ByteArray).size := by have : (⟨#[92]⟩ : ByteArray).size = 1 := rfl; have : (⟨#[32]⟩ : ByteArray).size = 1 := rfl; rw [ByteArray.size_append]; omega
        have hsz3 : ¬ 9223372036854775807 < t.size + ((⟨#[92]⟩ : ByteArray) ++ P ++ (⟨#[32]⟩ : ByteArray)).size := by have : (⟨#[92]⟩ : ByteArray).size = 1 := rfl; have : (⟨#[32]⟩ : ByteArray).size = 1 := rfl; rw [ByteArray.size_append, ByteArray.size_append]; omega
        go_wp2_with fail
        refine (cD _).mono ?_
        rintro e w9 ⟨rfl, hb9⟩
        go_wp2
        go_roundw
        case rel => exact ⟨k + 1, _, by omega, rfl, by go_num, Lib.hid (by rw [HOUT.out]; rw [strI_append, strI_append, strI_append, HPI.out, HT.out]; rfl), by first | exact HBT.out.trans (hb9.mono HBT.out.size) | exact (below_drewN HBT.out _).trans (hb9.mono HBT.out.size) | exact (below_drewN (below_drewN HBT.out _) _).trans (hb9.mono HBT.out.size)⟩
        case measure => simp [intOf]; omega
      have q127 : (c == 127) = false := beq_eq_false_iff_ne.2 h127
      have hct : controlB c = false := by unfold controlB; rw [decide_eq_false_iff_not]; omega
      by_cases hmk : c = 65279
      · have qmk : (c == 65279) = true := beq_iff_eq.2 hmk
        have hx : Hexes c := ⟨by omega, by omega⟩
        have HMK := Lib.hid hmk
        clear hmk
        have HOUT := Lib.hid (show identTo zs (k + 1) = identTo zs k ++ escF c from by show _ ++ outI zs k _ = _; rw [hcc]; unfold outI; rw [if_neg hc0, if_pos (by simp [HMK.out])])
        clear hcc
        obtain ⟨P, cD, hPI, hPS⟩ : ∃ P : ByteArray, (∀ w : World, Calls Tryd.prog 16 #[.int .i64 c, .int .i64 16] w (Told (.string P) w)) ∧ strI P = hexF c ∧ P.size ≤ 4 := digits_hex c hx
        have HPI := Lib.hid hPI
        clear hPI
        have hsz1 : ¬ 9223372036854775807 < (⟨#[92]⟩ : ByteArray).size + P.size := by have : (⟨#[92]⟩ : ByteArray).size = 1 := rfl; omega
        have hsz2 : ¬ 9223372036854775807 < ((⟨#[92]⟩ : ByteArray) ++ P).size + (⟨#[32]⟩ : ByteArray).size := by have : (⟨#[92]⟩ : ByteArray).size = 1 := rfl; have : (⟨#[32]⟩ : ByteArray).size = 1 := rfl; rw [ByteArray.size_append]; omega
        have hsz3 : ¬ 9223372036854775807 < t.size + ((⟨#[92]⟩ : ByteArray) ++ P ++ (⟨#[32]⟩ : ByteArray)).size := by have : (⟨#[92]⟩ : ByteArray).size = 1 := rfl; have : (⟨#[32]⟩ : ByteArray).size = 1 := rfl; rw [ByteArray.size_append, ByteArray.size_append]; omega
        go_wp2_with fail
        refine (cD _).mono ?_
        rintro e w9 ⟨rfl, hb9⟩
        go_wp2
        go_roundw
        case rel => exact ⟨k + 1, _, by omega, rfl, by go_num, Lib.hid (by rw [HOUT.out]; rw [strI_append, strI_append, strI_append, HPI.out, HT.out]; rfl), by first | exact HBT.out.trans (hb9.mono HBT.out.size) | exact (below_drewN HBT.out _).trans (hb9.mono HBT.out.size) | exact (below_drewN (below_drewN HBT.out _) _).trans (hb9.mono HBT.out.size)⟩
        case measure => simp [intOf]; omega
      have qmk : (c == 65279) = false := beq_eq_false_iff_ne.2 hmk
      cases hdg : digitB c
      case true =>
        have hx := dig_hexes hdg
        have hnm := dig_name hdg
        have cDg : ∀ w : World, Calls Tryd.prog 17 #[.int .i64 c] w fun e w' => e = .returned (.bool true) ∧ w' = w := fun w => by have := rdigit_any c w hch; rw [hdg] at this; exact this
        have cNm : ∀ w : World, Calls Tryd.prog 18 #[.int .i64 c] w fun e w' => e = .returned (.bool true) ∧ w' = w := fun w => by have := rname_any c w hch; rw [hnm] at this; exact this
        have h45 : c ≠ 45 := by intro h; subst h; exact absurd hdg (by decide)
        have q45 : (c == 45) = false := beq_eq_false_iff_ne.2 h45
        rcases (show k = 0 ∨ (k = 1 ∧ l0 = 45) ∨ (k = 1 ∧ l0 ≠ 45) ∨ 2 ≤ k from by omega) with h0 | ⟨h1, h2⟩ | ⟨h1, h2⟩ | h1
        · have hF : firstB zs k = true := by rw [h0]; rfl
          have q0 : ((k : Int) == 0) = true := beq_iff_eq.2 (by omega)
          clear h0 hcell0
          have HOUT := Lib.hid (show identTo zs (k + 1) = identTo zs k ++ escF c from by show _ ++ outI zs k _ = _; rw [hcc]; unfold outI; rw [if_neg hc0, if_pos (by simp [hct, hdg, hF])])
          clear hcc
          obtain ⟨P, cD, hPI, hPS⟩ : ∃ P : ByteArray, (∀ w : World, Calls Tryd.prog 16 #[.int .i64 c, .int .i64 16] w (Told (.string P) w)) ∧ strI P = hexF c ∧ P.size ≤ 4 := digits_hex c hx
          have HPI := Lib.hid hPI
          clear hPI
          have hsz1 : ¬ 9223372036854775807 < (⟨#[92]⟩ : ByteArray).size + P.size := by have : (⟨#[92]⟩ : ByteArray).size = 1 := rfl; omega
          have hsz2 : ¬ 9223372036854775807 < ((⟨#[92]⟩ : ByteArray) ++ P).size + (⟨#[32]⟩ : ByteArray).size := by have : (⟨#[92]⟩ : ByteArray).size = 1 := rfl; have : (⟨#[32]⟩ : ByteArray).size = 1 := rfl; rw [ByteArray.size_append]; omega
          have hsz3 : ¬ 9223372036854775807 < t.size + ((⟨#[92]⟩ : ByteArray) ++ P ++ (⟨#[32]⟩ : ByteArray)).size := by have : (⟨#[92]⟩ : ByteArray).size = 1 := rfl; have : (⟨#[32]⟩ : ByteArray).size = 1 := rfl; rw [ByteArray.size_append, ByteArray.size_append]; omega
          go_wp2_with fail
          refine (cDg _).mono ?_
          rintro e wq ⟨rfl, hwq⟩
          replace hwq := hwq.symm
          subst hwq
          go_wp2_with fail
          refine (cD _).mono ?_
          rintro e w9 ⟨rfl, hb9⟩
          go_wp2
          go_roundw
          case rel => exact ⟨k + 1, _, by omega, rfl, by go_num, Lib.hid (by rw [HOUT.out]; rw [strI_append, strI_append, strI_append, HPI.out, HT.out]; rfl), by first | exact HBT.out.trans (hb9.mono HBT.out.size) | exact (below_drewN HBT.out _).trans (hb9.mono HBT.out.size) | exact (below_drewN (below_drewN HBT.out _) _).trans (hb9.mono HBT.out.size)⟩
          case measure => simp [intOf]; omega
        · have hF : firstB zs k = true := by unfold firstB; rw [h1, HL0.out, h2]; rfl
          have q0 : ((k : Int) == 0) = false := beq_eq_false_iff_ne.2 (by omega)
          have q1 : ((k : Int) == 1) = true := beq_iff_eq.2 (by omega)
          have ql : (l0 == 45) = true := beq_iff_eq.2 h2
          have hn0 : (0 : Int) < (n : Int) := by omega
          clear h2 h1
          have HOUT := Lib.hid (show identTo zs (k + 1) = identTo zs k ++ escF c from by show _ ++ outI zs k _ = _; rw [hcc]; unfold outI; rw [if_neg hc0, if_pos (by simp [hct, hdg, hF])])
          clear hcc
          obtain ⟨P, cD, hPI, hPS⟩ : ∃ P : ByteArray, (∀ w : World, Calls Tryd.prog 16 #[.int .i64 c, .int .i64 16] w (Told (.string P) w)) ∧ strI P = hexF c ∧ P.size ≤ 4 := digits_hex c hx
          have HPI := Lib.hid hPI
          clear hPI
          have hsz1 : ¬ 9223372036854775807 < (⟨#[92]⟩ : ByteArray).size + P.size := by have : (⟨#[92]⟩ : ByteArray).size = 1 := rfl; omega
          have hsz2 : ¬ 9223372036854775807 < ((⟨#[92]⟩ : ByteArray) ++ P).size + (⟨#[32]⟩ : ByteArray).size := by have : (⟨#[92]⟩ : ByteArray).size = 1 := rfl; have : (⟨#[32]⟩ : ByteArray).size = 1 := rfl; rw [ByteArray.size_append]; omega
          have hsz3 : ¬ 9223372036854775807 < t.size + ((⟨#[92]⟩ : ByteArray) ++ P ++ (⟨#[32]⟩ : ByteArray)).size := by have : (⟨#[92]⟩ : ByteArray).size = 1 := rfl; have : (⟨#[32]⟩ : ByteArray).size = 1 := rfl; rw [ByteArray.size_append, ByteArray.size_append]; omega
          go_wp2_with fail
          refine (cDg _).mono ?_
          rintro e wq ⟨rfl, hwq⟩
          replace hwq := hwq.symm
          subst hwq
          go_wp2_with fail
          refine (cD _).mono ?_
          rintro e w9 ⟨rfl, hb9⟩
          go_wp2
          go_roundw
          case rel => exact ⟨k + 1, _, by omega, rfl, by go_num, Lib.hid (by rw [HOUT.out]; rw [strI_append, strI_append, strI_append, HPI.out, HT.out]; rfl), by first | exact HBT.out.trans (hb9.mono HBT.out.size) | exact (below_drewN HBT.out _).trans (hb9.mono HBT.out.size) | exact (below_drewN (below_drewN HBT.out _) _).trans (hb9.mono HBT.out.size)⟩
          case measure => simp [intOf]; omega
        · have hF : firstB zs k = false := by unfold firstB; rw [h1, HL0.out]; simp [h2]
          have q0 : ((k : Int) == 0) = false := beq_eq_false_iff_ne.2 (by omega)
          have q1 : ((k : Int) == 1) = true := beq_iff_eq.2 (by omega)
          have ql : (l0 == 45) = false := beq_eq_false_iff_ne.2 h2
          have hn0 : (0 : Int) < (n : Int) := by omega
          clear h2 h1
          have HOUT := Lib.hid (show identTo zs (k + 1) = identTo zs k ++ putF c from by show _ ++ outI zs k _ = _; rw [hcc]; unfold outI; rw [if_neg hc0, if_neg (by simp [hct, hdg, hF, hmk]), if_neg (by simp [hnm, h45])])
          clear hcc
          obtain ⟨P, cP, hPI, hPS⟩ : ∃ P : ByteArray, (∀ w : World, Calls Tryd.prog 15 #[.int .i64 c] w (Told (.string P) w)) ∧ strI P = putF c ∧ P.size ≤ 4 := ⟨_, fun w => rput_any c w hri, strI_nums _ (putF_u8 c hri), by rw [← strI_len, show strI _ = _ from strI_nums _ (putF_u8 c hri)]; exact putF_len c⟩
          have HPI := Lib.hid hPI
          clear hPI
          have hsz : ¬ 9223372036854775807 < t.size + P.size := by omega
          go_wp2_with fail
          refine (cDg _).mono ?_
          rintro e wq ⟨rfl, hwq⟩
          replace hwq := hwq.symm
          subst hwq
          go_wp2_with fail
          refine (cNm _).mono ?_
          rintro e wq ⟨rfl, hwq⟩
          replace hwq := hwq.symm
          subst hwq
          go_wp2_with fail
          refine (cP _).mono ?_
          rintro e w9 ⟨rfl, hb9⟩
          go_wp2
          go_roundw
          case rel => exact ⟨k + 1, _, by omega, rfl, by go_num, Lib.hid (by rw [HOUT.out]; rw [strI_append, HPI.out, HT.out]), by first | exact HBT.out.trans (hb9.mono HBT.out.size) | exact (below_drewN HBT.out _).trans (hb9.mono HBT.out.size) | exact (below_drewN (below_drewN HBT.out _) _).trans (hb9.mono HBT.out.size)⟩
          case measure => simp [intOf]; omega
        · have hF : firstB zs k = false := by unfold firstB; simp; omega
          have q0 : ((k : Int) == 0) = false := beq_eq_false_iff_ne.2 (by omega)
          have q1 : ((k : Int) == 1) = false := beq_eq_false_iff_ne.2 (by omega)
          clear hcell0
          have HOUT := Lib.hid (show identTo zs (k + 1) = identTo zs k ++ putF c from by show _ ++ outI zs k _ = _; rw [hcc]; unfold outI; rw [if_neg hc0, if_neg (by simp [hct, hdg, hF, hmk]), if_neg (by simp [hnm, h45])])
          clear hcc
          obtain ⟨P, cP, hPI, hPS⟩ : ∃ P : ByteArray, (∀ w : World, Calls Tryd.prog 15 #[.int .i64 c] w (Told (.string P) w)) ∧ strI P = putF c ∧ P.size ≤ 4 := ⟨_, fun w => rput_any c w hri, strI_nums _ (putF_u8 c hri), by rw [← strI_len, show strI _ = _ from strI_nums _ (putF_u8 c hri)]; exact putF_len c⟩
          have HPI := Lib.hid hPI
          clear hPI
          have hsz : ¬ 9223372036854775807 < t.size + P.size := by omega
          go_wp2_with fail
          refine (cDg _).mono ?_
          rintro e wq ⟨rfl, hwq⟩
          replace hwq := hwq.symm
          subst hwq
          go_wp2_with fail
          refine (cNm _).mono ?_
          rintro e wq ⟨rfl, hwq⟩
          replace hwq := hwq.symm
          subst hwq
          go_wp2_with fail
          refine (cP _).mono ?_
          rintro e w9 ⟨rfl, hb9⟩
          go_wp2
          go_roundw
          case rel => exact ⟨k + 1, _, by omega, rfl, by go_num, Lib.hid (by rw [HOUT.out]; rw [strI_append, HPI.out, HT.out]), by first | exact HBT.out.trans (hb9.mono HBT.out.size) | exact (below_drewN HBT.out _).trans (hb9.mono HBT.out.size) | exact (below_drewN (below_drewN HBT.out _) _).trans (hb9.mono HBT.out.size)⟩
          case measure => simp [intOf]; omega
      case false =>
        clear hcell0
        have cDg : ∀ w : World, Calls Tryd.prog 17 #[.int .i64 c] w fun e w' => e = .returned (.bool false) ∧ w' = w := fun w => by have := rdigit_any c w hch; rw [hdg] at this; exact this
        by_cases h45 : c = 45
        · have q45 : (c == 45) = true := beq_iff_eq.2 h45
          have hnm : nameB c = true := by rw [h45]; unfold nameB; rw [show decide ((45 : Int) = 45) = true from rfl, Bool.or_true]
          have cNm : ∀ w : World, Calls Tryd.prog 18 #[.int .i64 c] w fun e w' => e = .returned (.bool true) ∧ w' = w := fun w => by have := rname_any c w hch; rw [hnm] at this; exact this
          by_cases hone : n = 1
          · have qn : ((n : Int) == 1) = true := beq_iff_eq.2 (by omega)
            have HONE := Lib.hid (show zs.length = 1 from HN.out.trans hone)
            have H45 := Lib.hid h45
            clear h45 hone
            have HOUT := Lib.hid (show identTo zs (k + 1) = identTo zs k ++ 92 :: putF c from by show _ ++ outI zs k _ = _; rw [hcc]; unfold outI; rw [if_neg hc0, if_neg (by simp [hct, hdg, hmk]), if_pos (by simp [hnm, H45.out, HONE.out])])
            clear hcc
            obtain ⟨P, cP, hPI, hPS⟩ : ∃ P : ByteArray, (∀ w : World, Calls Tryd.prog 15 #[.int .i64 c] w (Told (.string P) w)) ∧ strI P = putF c ∧ P.size ≤ 4 := ⟨_, fun w => rput_any c w hri, strI_nums _ (putF_u8 c hri), by rw [← strI_len, show strI _ = _ from strI_nums _ (putF_u8 c hri)]; exact putF_len c⟩
            have HPI := Lib.hid hPI
            clear hPI
            have hsz1 : ¬ 9223372036854775807 < (⟨#[92]⟩ : ByteArray).size + P.size := by have : (⟨#[92]⟩ : ByteArray).size = 1 := rfl; omega
            have hsz2 : ¬ 9223372036854775807 < t.size + ((⟨#[92]⟩ : ByteArray) ++ P).size := by have : (⟨#[92]⟩ : ByteArray).size = 1 := rfl; rw [ByteArray.size_append]; omega
            go_wp2_with fail
            refine (cDg _).mono ?_
            rintro e wq ⟨rfl, hwq⟩
            replace hwq := hwq.symm
            subst hwq
            go_wp2_with fail
            refine (cP _).mono ?_
            rintro e w9 ⟨rfl, hb9⟩
            go_wp2
            go_roundw
            case rel => exact ⟨k + 1, _, by omega, rfl, by go_num, Lib.hid (by rw [HOUT.out]; rw [strI_append, strI_append, HPI.out, HT.out]; rfl), by first | exact HBT.out.trans (hb9.mono HBT.out.size) | exact (below_drewN HBT.out _).trans (hb9.mono HBT.out.size) | exact (below_drewN (below_drewN HBT.out _) _).trans (hb9.mono HBT.out.size)⟩
            case measure => simp [intOf]; omega
          · have qn : ((n : Int) == 1) = false := beq_eq_false_iff_ne.2 (by omega)
            have HONE := Lib.hid (show ¬ zs.length = 1 from fun h => hone (HN.out.symm.trans h))
            have hn45 : nameB 45 = true := h45 ▸ hnm
            have H45 := Lib.hid h45
            clear h45 hone
            have HOUT := Lib.hid (show identTo zs (k + 1) = identTo zs k ++ putF c from by show _ ++ outI zs k _ = _; rw [hcc]; unfold outI; rw [if_neg hc0, if_neg (by simp [hct, hdg, hmk]), if_neg (by simp [hn45, H45.out, HONE.out])])
            clear hcc
            obtain ⟨P, cP, hPI, hPS⟩ : ∃ P : ByteArray, (∀ w : World, Calls Tryd.prog 15 #[.int .i64 c] w (Told (.string P) w)) ∧ strI P = putF c ∧ P.size ≤ 4 := ⟨_, fun w => rput_any c w hri, strI_nums _ (putF_u8 c hri), by rw [← strI_len, show strI _ = _ from strI_nums _ (putF_u8 c hri)]; exact putF_len c⟩
            have HPI := Lib.hid hPI
            clear hPI
            have hsz : ¬ 9223372036854775807 < t.size + P.size := by omega
            go_wp2_with fail
            refine (cDg _).mono ?_
            rintro e wq ⟨rfl, hwq⟩
            replace hwq := hwq.symm
            subst hwq
            go_wp2_with fail
            refine (cNm _).mono ?_
            rintro e wq ⟨rfl, hwq⟩
            replace hwq := hwq.symm
            subst hwq
            go_wp2_with fail
            refine (cP _).mono ?_
            rintro e w9 ⟨rfl, hb9⟩
            go_wp2
            go_roundw
            case rel => exact ⟨k + 1, _, by omega, rfl, by go_num, Lib.hid (by rw [HOUT.out]; rw [strI_append, HPI.out, HT.out]), by first | exact HBT.out.trans (hb9.mono HBT.out.size) | exact (below_drewN HBT.out _).trans (hb9.mono HBT.out.size) | exact (below_drewN (below_drewN HBT.out _) _).trans (hb9.mono HBT.out.size)⟩
            case measure => simp [intOf]; omega
        · have q45 : (c == 45) = false := beq_eq_false_iff_ne.2 h45
          cases hnm : nameB c
          case false =>
            have cNm : ∀ w : World, Calls Tryd.prog 18 #[.int .i64 c] w fun e w' => e = .returned (.bool false) ∧ w' = w := fun w => by have := rname_any c w hch; rw [hnm] at this; exact this
            have HOUT := Lib.hid (show identTo zs (k + 1) = identTo zs k ++ 92 :: putF c from by show _ ++ outI zs k _ = _; rw [hcc]; unfold outI; rw [if_neg hc0, if_neg (by simp [hct, hdg, hmk]), if_pos (by simp [hnm])])
            clear hcc
            obtain ⟨P, cP, hPI, hPS⟩ : ∃ P : ByteArray, (∀ w : World, Calls Tryd.prog 15 #[.int .i64 c] w (Told (.string P) w)) ∧ strI P = putF c ∧ P.size ≤ 4 := ⟨_, fun w => rput_any c w hri, strI_nums _ (putF_u8 c hri), by rw [← strI_len, show strI _ = _ from strI_nums _ (putF_u8 c hri)]; exact putF_len c⟩
            have HPI := Lib.hid hPI
            clear hPI
            have hsz1 : ¬ 9223372036854775807 < (⟨#[92]⟩ : ByteArray).size + P.size := by have : (⟨#[92]⟩ : ByteArray).size = 1 := rfl; omega
            have hsz2 : ¬ 9223372036854775807 < t.size + ((⟨#[92]⟩ : ByteArray) ++ P).size := by have : (⟨#[92]⟩ : ByteArray).size = 1 := rfl; rw [ByteArray.size_append]; omega
            go_wp2_with fail
            refine (cDg _).mono ?_
            rintro e wq ⟨rfl, hwq⟩
            replace hwq := hwq.symm
            subst hwq
            go_wp2_with fail
            refine (cNm _).mono ?_
            rintro e wq ⟨rfl, hwq⟩
            replace hwq := hwq.symm
            subst hwq
            go_wp2_with fail
            refine (cP _).mono ?_
            rintro e w9 ⟨rfl, hb9⟩
            go_wp2
            go_roundw
            case rel => exact ⟨k + 1, _, by omega, rfl, by go_num, Lib.hid (by rw [HOUT.out]; rw [strI_append, strI_append, HPI.out, HT.out]; rfl), by first | exact HBT.out.trans (hb9.mono HBT.out.size) | exact (below_drewN HBT.out _).trans (hb9.mono HBT.out.size) | exact (below_drewN (below_drewN HBT.out _) _).trans (hb9.mono HBT.out.size)⟩
            case measure => simp [intOf]; omega
          case true =>
            have cNm : ∀ w : World, Calls Tryd.prog 18 #[.int .i64 c] w fun e w' => e = .returned (.bool true) ∧ w' = w := fun w => by have := rname_any c w hch; rw [hnm] at this; exact this
            have HOUT := Lib.hid (show identTo zs (k + 1) = identTo zs k ++ putF c from by show _ ++ outI zs k _ = _; rw [hcc]; unfold outI; rw [if_neg hc0, if_neg (by simp [hct, hdg, hmk]), if_neg (by simp [hnm, h45])])
            clear hcc
            obtain ⟨P, cP, hPI, hPS⟩ : ∃ P : ByteArray, (∀ w : World, Calls Tryd.prog 15 #[.int .i64 c] w (Told (.string P) w)) ∧ strI P = putF c ∧ P.size ≤ 4 := ⟨_, fun w => rput_any c w hri, strI_nums _ (putF_u8 c hri), by rw [← strI_len, show strI _ = _ from strI_nums _ (putF_u8 c hri)]; exact putF_len c⟩
            have HPI := Lib.hid hPI
            clear hPI
            have hsz : ¬ 9223372036854775807 < t.size + P.size := by omega
            go_wp2_with fail
            refine (cDg _).mono ?_
            rintro e wq ⟨rfl, hwq⟩
            replace hwq := hwq.symm
            subst hwq
            go_wp2_with fail
            refine (cNm _).mono ?_
            rintro e wq ⟨rfl, hwq⟩
            replace hwq := hwq.symm
            subst hwq
            go_wp2_with fail
            refine (cP _).mono ?_
            rintro e w9 ⟨rfl, hb9⟩
            go_wp2
            go_roundw
            case rel => exact ⟨k + 1, _, by omega, rfl, by go_num, Lib.hid (by rw [HOUT.out]; rw [strI_append, HPI.out, HT.out]), by first | exact HBT.out.trans (hb9.mono HBT.out.size) | exact (below_drewN HBT.out _).trans (hb9.mono HBT.out.size) | exact (below_drewN (below_drewN HBT.out _) _).trans (hb9.mono HBT.out.size)⟩
            case measure => simp [intOf]; omega
    · obtain rfl : k = n := by omega
      have HID := Lib.hid (show strOfNums (identF zs) = t from strOf_strI (by rw [HT.out]; unfold identF; rw [HN.out]))
      clear hbt
      go_wp2
      go_ret
      exact ⟨by rw [HID.out]; rfl, below_trans HB2.out HBT.out⟩
end Go.Proofs.YtdopmkiogmejaaaDoor
