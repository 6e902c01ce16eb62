/- The document's answer on a text between marks: the walk. -/
import Derived.Test.YtdopmkiogmejaaaDoorCh4
namespace Go.Proofs.YtdopmkiogmejaaaDoor
open Go.RowKit
set_option linter.unusedVariables false
set_option linter.unusedSimpArgs false

theorem digits_hex (c : Int) (h : Hexes c) : ∃ P : ByteArray, (∀ w : World, Calls Tryd.prog 16 #[.int .i64 c, .int .i64 16] w (Told (.string P) w)) ∧ strI P = hexF c ∧ P.size ≤ 4 := by
  obtain ⟨h0, h1⟩ := h
  have e : ((c.toNat : Nat) : Int) = c := Int.toNat_of_nonneg h0
  have hF := hexN_F c.toNat (by omega)
  have hI : strI (strOfNums (hexN c.toNat)) = hexN c.toNat := strI_nums _ (hexN_u8 3 _ (by omega))
  refine ⟨_, fun w => by have := rdigits_any c.toNat w (by omega); rw [e] at this; exact this, by rw [hI, hF, e], ?_⟩
  rw [← strI_len, hI]
  exact hexN_len 3 _ (by omega)

set_option maxRecDepth 100000 in
set_option maxHeartbeats 8000000 in
theorem rquote_any (s : ByteArray) (w : World) (hs : s.size ≤ 10000) : Calls Tryd.prog 7 #[.string s] w (Told (.string (strOfNums (quoteF (rawF (strI s))))) w) := by
  have hzr := rawF_right (strI s) (strI_u8 s)
  have hzl : (rawF (strI s)).length ≤ 10000 := by have := rawF_len (strI s); rw [strI_len] at this; omega
  go_enter Tryd.func7, Tryd.ntmps7
  go_wp2_with fail
  refine (rall_any s _ (by omega)).mono ?_
  rintro e w2 ⟨a, cap, rfl, hr, hb2⟩
  generalize rawF (strI s) = zs at *
  obtain ⟨n, hn⟩ : ∃ n, zs.length = n := ⟨_, rfl⟩
  rw [hn]
  have HN := Lib.hid hn
  have HZR := Lib.hid hzr
  have HR := Lib.hid hr
  have HB2 := Lib.hid hb2
  have hncap : n ≤ cap := by rw [← hn]; exact hr.1
  have hnI : n ≤ 10000 := by omega
  clear hb2 hr hn hzr
  go_wp2
  go_loopw [4, 5] (fun ov i wr => ∃ (k : Nat) (t : ByteArray), k ≤ n ∧ ov = .string t ∧ i = .int .i64 k ∧ Hid (strI t = quoteTo zs k) ∧ Below w2.heap.size w2 wr) (fun _ i _ => n - (intOf i).toNat)
  case atStart => exact ⟨0, ⟨#[34]⟩, Nat.zero_le _, rfl, rfl, Lib.hid rfl, Below.refl _ _⟩
  case round =>
    obtain ⟨k, t, hk, rfl, rfl, HT, hbt⟩ := hrel
    have HBT := Lib.hid hbt
    have hts : t.size ≤ 60001 := by
      have h1 := (quoteTo_ok zs HZR.out k (by rw [HN.out]; exact hk)).2
      rw [← HT.out, strI_len] at h1
      omega
    by_cases hlt : k < n
    · have hkz : k < zs.length := by rw [HN.out]; exact hlt
      obtain ⟨g, off, ha, hat⟩ := ((HR.out.later hbt).2.2).resolve_left (fun h => by rw [h] at hkz; simp at hkz)
      have hcell : wr.cell? ⟨g, off + k, none⟩ = some (.int .i64 (zs[k]?.getD 0)) := hat.2 k hkz
      subst ha
      have hri : rightB (zs[k]?.getD 0) = true := by rw [List.getElem?_eq_getElem hkz]; exact HZR.out _ (List.getElem_mem _)
      have hkI : (0 : Int) ≤ (k : Int) := by omega
      have hkI2 : (k : Int) < (n : Int) := by omega
      obtain ⟨c, hcc⟩ : ∃ c, zs[k]?.getD 0 = c := ⟨_, rfl⟩
      rw [hcc] at hcell hri
      obtain ⟨hch0, hch1⟩ := right_ch hri
      clear hbt hat hkz
      by_cases hc0 : c = 0
      · subst hc0
        have HOUT := Lib.hid (show quoteTo zs (k + 1) = quoteTo zs k ++ putF 65533 from by show _ ++ outQ _ = _; rw [hcc]; simp [outQ])
        clear hcc
        obtain ⟨P, cP, hPI, hPS⟩ : ∃ P : ByteArray, (∀ w : World, Calls Tryd.prog 15 #[.int .i64 65533] w (Told (.string P) w)) ∧ strI P = putF 65533 ∧ P.size ≤ 4 := ⟨_, fun w => rput_any 65533 w (by decide), strI_nums _ (putF_u8 65533 (by decide)), by rw [← strI_len, show strI _ = _ from strI_nums _ (putF_u8 65533 (by decide))]; exact putF_len 65533⟩
        have HPI := Lib.hid hPI
        clear hPI
        have hsz : ¬ 9223372036854775807 < t.size + P.size := by omega
        go_wp2_with (first
        | (go_at_call 15; refine (cP _).mono ?_; rintro e w9 ⟨rfl, hb9⟩))
        go_roundw
        case rel => exact ⟨k + 1, _, by omega, rfl, by go_num, Lib.hid (by rw [HOUT.out]; rw [strI_append, HPI.out, HT.out]), HBT.out.trans (hb9.mono HBT.out.size)⟩
        case measure => simp [intOf]; omega
      have qc0 : (c == 0) = false := beq_eq_false_iff_ne.2 hc0
      by_cases h32 : c < 32
      · have q32 : decide (c < 32) = true := decide_eq_true h32
        have hct : controlB c = true := by unfold controlB; rw [decide_eq_true_iff]; omega
        have hx := ctl_hexes hct
        have HOUT := Lib.hid (show quoteTo zs (k + 1) = quoteTo zs k ++ escF c from by show _ ++ outQ _ = _; rw [hcc]; unfold outQ; rw [if_neg hc0, if_pos hct])
        clear hcc
        obtain ⟨P, cD, hPI, hPS⟩ : ∃ P : ByteArray, (∀ w : World, Calls Tryd.prog 16 #[.int .i64 c, .int .i64 16] w (Told (.string P) w)) ∧ strI P = hexF c ∧ P.size ≤ 4 := digits_hex c hx
        have HPI := Lib.hid hPI
        clear hPI
        have hsz1 : ¬ 9223372036854775807 < (⟨#[92]⟩ : ByteArray).size + P.size := by have : (⟨#[92]⟩ : ByteArray).size = 1 := rfl; omega
        have hsz2 : ¬ 9223372036854775807 < ((⟨#[92]⟩ : ByteArray) ++ P).size + (⟨#[32]⟩ : ByteArray).size := by have : (⟨#[92]⟩ : ByteArray).size = 1 := rfl; have : (⟨#[32]⟩ : ByteArray).size = 1 := rfl; rw [ByteArray.size_append]; omega
        have hsz3 : ¬ 9223372036854775807 < t.size + ((⟨#[92]⟩ : ByteArray) ++ P ++ (⟨#[32]⟩ : ByteArray)).size := by have : (⟨#[92]⟩ : ByteArray).size = 1 := rfl; have : (⟨#[32]⟩ : ByteArray).size = 1 := rfl; rw [ByteArray.size_append, ByteArray.size_append]; omega
        go_wp2_with (first
        | (go_at_call 16; refine (cD _).mono ?_; rintro e w9 ⟨rfl, hb9⟩))
        go_roundw
        case rel => exact ⟨k + 1, _, by omega, rfl, by go_num, Lib.hid (by rw [HOUT.out]; rw [strI_append, strI_append, strI_append, HPI.out, HT.out]; rfl), HBT.out.trans (hb9.mono HBT.out.size)⟩
        case measure => simp [intOf]; omega
      have q32 : decide (c < 32) = false := decide_eq_false h32
      by_cases h127 : c = 127
      · have q127 : (c == 127) = true := beq_iff_eq.2 h127
        have hct : controlB c = true := by unfold controlB; rw [decide_eq_true_iff]; omega
        have hx := ctl_hexes hct
        clear h127
        have HOUT := Lib.hid (show quoteTo zs (k + 1) = quoteTo zs k ++ escF c from by show _ ++ outQ _ = _; rw [hcc]; unfold outQ; rw [if_neg hc0, if_pos hct])
        clear hcc
        obtain ⟨P, cD, hPI, hPS⟩ : ∃ P : ByteArray, (∀ w : World, Calls Tryd.prog 16 #[.int .i64 c, .int .i64 16] w (Told (.string P) w)) ∧ strI P = hexF c ∧ P.size ≤ 4 := digits_hex c hx
        have HPI := Lib.hid hPI
        clear hPI
        have hsz1 : ¬ 9223372036854775807 < (⟨#[92]⟩ : ByteArray).size + P.size := by have : (⟨#[92]⟩ : ByteArray).size = 1 := rfl; omega
        have hsz2 : ¬ 9223372036854775807 < ((⟨#[92]⟩ : ByteArray) ++ P).size + (⟨#[32]⟩ : ByteArray).size := by have : (⟨#[92]⟩ : ByteArray).size = 1 := rfl; have : (⟨#[32]⟩ : ByteArray).size = 1 := rfl; rw [ByteArray.size_append]; omega
        have hsz3 : ¬ 9223372036854775807 < t.size + ((⟨#[92]⟩ : ByteArray) ++ P ++ (⟨#[32]⟩ : ByteArray)).size := by have : (⟨#[92]⟩ : ByteArray).size = 1 := rfl; have : (⟨#[32]⟩ : ByteArray).size = 1 := rfl; rw [ByteArray.size_append, ByteArray.size_append]; omega
        go_wp2_with (first
        | (go_at_call 16; refine (cD _).mono ?_; rintro e w9 ⟨rfl, hb9⟩))
        go_roundw
        case rel => exact ⟨k + 1, _, by omega, rfl, by go_num, Lib.hid (by rw [HOUT.out]; rw [strI_append, strI_append, strI_append, HPI.out, HT.out]; rfl), HBT.out.trans (hb9.mono HBT.out.size)⟩
        case measure => simp [intOf]; omega
      have q127 : (c == 127) = false := beq_eq_false_iff_ne.2 h127
      have hct : controlB c = false := by unfold controlB; rw [decide_eq_false_iff_not]; omega
      by_cases h34 : c = 34
      · subst h34
        have HOUT := Lib.hid (show quoteTo zs (k + 1) = quoteTo zs k ++ 92 :: putF 34 from by show _ ++ outQ _ = _; rw [hcc]; unfold outQ; rw [if_neg hc0, if_neg (by rw [hct]; simp), if_pos (by simp)])
        clear hcc
        obtain ⟨P, cP, hPI, hPS⟩ : ∃ P : ByteArray, (∀ w : World, Calls Tryd.prog 15 #[.int .i64 34] w (Told (.string P) w)) ∧ strI P = putF 34 ∧ P.size ≤ 4 := ⟨_, fun w => rput_any 34 w hri, strI_nums _ (putF_u8 34 hri), by rw [← strI_len, show strI _ = _ from strI_nums _ (putF_u8 34 hri)]; exact putF_len 34⟩
        have HPI := Lib.hid hPI
        clear hPI
        have hsz1 : ¬ 9223372036854775807 < (⟨#[92]⟩ : ByteArray).size + P.size := by have : (⟨#[92]⟩ : ByteArray).size = 1 := rfl; omega
        have hsz2 : ¬ 9223372036854775807 < t.size + ((⟨#[92]⟩ : ByteArray) ++ P).size := by have : (⟨#[92]⟩ : ByteArray).size = 1 := rfl; rw [ByteArray.size_append]; omega
        go_wp2_with (first
        | (go_at_call 15; refine (cP _).mono ?_; rintro e w9 ⟨rfl, hb9⟩))
        go_roundw
        case rel => exact ⟨k + 1, _, by omega, rfl, by go_num, Lib.hid (by rw [HOUT.out]; rw [strI_append, strI_append, HPI.out, HT.out]; rfl), HBT.out.trans (hb9.mono HBT.out.size)⟩
        case measure => simp [intOf]; omega
      have q34 : (c == 34) = false := beq_eq_false_iff_ne.2 h34
      by_cases h92 : c = 92
      · subst h92
        have HOUT := Lib.hid (show quoteTo zs (k + 1) = quoteTo zs k ++ 92 :: putF 92 from by show _ ++ outQ _ = _; rw [hcc]; unfold outQ; rw [if_neg hc0, if_neg (by rw [hct]; simp), if_pos (by simp)])
        clear hcc
        obtain ⟨P, cP, hPI, hPS⟩ : ∃ P : ByteArray, (∀ w : World, Calls Tryd.prog 15 #[.int .i64 92] w (Told (.string P) w)) ∧ strI P = putF 92 ∧ P.size ≤ 4 := ⟨_, fun w => rput_any 92 w hri, strI_nums _ (putF_u8 92 hri), by rw [← strI_len, show strI _ = _ from strI_nums _ (putF_u8 92 hri)]; exact putF_len 92⟩
        have HPI := Lib.hid hPI
        clear hPI
        have hsz1 : ¬ 9223372036854775807 < (⟨#[92]⟩ : ByteArray).size + P.size := by have : (⟨#[92]⟩ : ByteArray).size = 1 := rfl; omega
        have hsz2 : ¬ 9223372036854775807 < t.size + ((⟨#[92]⟩ : ByteArray) ++ P).size := by have : (⟨#[92]⟩ : ByteArray).size = 1 := rfl; rw [ByteArray.size_append]; omega
        go_wp2_with (first
        | (go_at_call 15; refine (cP _).mono ?_; rintro e w9 ⟨rfl, hb9⟩))
        go_roundw
        case rel => exact ⟨k + 1, _, by omega, rfl, by go_num, Lib.hid (by rw [HOUT.out]; rw [strI_append, strI_append, HPI.out, HT.out]; rfl), HBT.out.trans (hb9.mono HBT.out.size)⟩
        case measure => simp [intOf]; omega
      have q92 : (c == 92) = false := beq_eq_false_iff_ne.2 h92
      have HOUT := Lib.hid (show quoteTo zs (k + 1) = quoteTo zs k ++ putF c from by show _ ++ outQ _ = _; rw [hcc]; unfold outQ; rw [if_neg hc0, if_neg (by rw [hct]; simp), if_neg (by simp [h34, h92])])
      clear hcc
      obtain ⟨P, cP, hPI, hPS⟩ : ∃ P : ByteArray, (∀ w : World, Calls Tryd.prog 15 #[.int .i64 c] w (Told (.string P) w)) ∧ strI P = putF c ∧ P.size ≤ 4 := ⟨_, fun w => rput_any c w hri, strI_nums _ (putF_u8 c hri), by rw [← strI_len, show strI _ = _ from strI_nums _ (putF_u8 c hri)]; exact putF_len c⟩
      have HPI := Lib.hid hPI
      clear hPI
      have hsz : ¬ 9223372036854775807 < t.size + P.size := by omega
      go_wp2_with (first
      | (go_at_call 15; refine (cP _).mono ?_; rintro e w9 ⟨rfl, hb9⟩))
      go_roundw
      case rel => exact ⟨k + 1, _, by omega, rfl, by go_num, Lib.hid (by rw [HOUT.out]; rw [strI_append, HPI.out, HT.out]), HBT.out.trans (hb9.mono HBT.out.size)⟩
      case measure => simp [intOf]; omega
    · obtain rfl : k = n := by omega
      have HID := Lib.hid (show strOfNums (quoteF zs) = t ++ ⟨#[34]⟩ from strOf_strI (by rw [strI_append, HT.out]; unfold quoteF; rw [HN.out]; rfl))
      have hsz : ¬ 9223372036854775807 < t.size + (⟨#[34]⟩ : ByteArray).size := by have : (⟨#[34]⟩ : ByteArray).size = 1 := rfl; omega
      clear hbt
      go_wp2
      go_ret
      exact ⟨by rw [HID.out]; rfl, below_trans HB2.out HBT.out⟩
end Go.Proofs.YtdopmkiogmejaaaDoor
