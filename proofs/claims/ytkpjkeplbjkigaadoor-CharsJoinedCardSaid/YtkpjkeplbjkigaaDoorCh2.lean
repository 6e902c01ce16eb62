/- A text between marks: what it is (mathematics), and the walk. -/
import Derived.Test.YtkpjkeplbjkigaaDoorCh1
namespace Go.Proofs.YtkpjkeplbjkigaaDoor
open Go.RowKit
set_option linter.unusedVariables false
set_option linter.unusedSimpArgs false

/-- What a character is written as between marks. -/
def outQ (c : Int) : List Int :=
  if c = 0 then putF 65533
  else if controlB c = true then escF c
  else if c = 34 ∨ c = 92 then 92 :: putF c
  else putF c
def quoteTo (l : List Int) : Nat → List Int
  | 0 => [34]
  | k + 1 => quoteTo l k ++ outQ (l[k]?.getD 0)
def quoteF (l : List Int) : List Int := quoteTo l l.length ++ [34]
theorem outQ_ok (c : Int) (h : rightB c = true) : U8 (outQ c) ∧ (outQ c).length ≤ 6 := by
  have hp := putF_u8 c h
  have hl := putF_len c
  unfold outQ
  split
  · exact ⟨putF_u8 _ (by decide), Nat.le_trans (putF_len _) (by omega)⟩
  split
  · rename_i h0 h1
    exact ⟨escF_u8 (ctl_hexes h1), escF_len c⟩
  split
  · exact ⟨fun z hz => by rcases List.mem_cons.1 hz with rfl | hz; omega; exact hp z hz, by rw [List.length_cons]; omega⟩
  · exact ⟨hp, by omega⟩
theorem quoteTo_ok (l : List Int) (h : ∀ c ∈ l, rightB c = true) : ∀ k, k ≤ l.length → U8 (quoteTo l k) ∧ (quoteTo l k).length ≤ 6 * k + 1
  | 0, _ => ⟨(fun z hz => by simp [quoteTo] at hz; omega), by simp [quoteTo]⟩
  | k + 1, hk => by
    obtain ⟨h1, h2⟩ := quoteTo_ok l h k (by omega)
    have hc : rightB (l[k]?.getD 0) = true := by rw [List.getElem?_eq_getElem (by omega)]; exact h _ (List.getElem_mem _)
    obtain ⟨h3, h4⟩ := outQ_ok _ hc
    refine ⟨fun z hz => (List.mem_append.1 hz).elim (h1 z) (h3 z), ?_⟩
    show (quoteTo l k ++ _).length ≤ _
    rw [List.length_append]; omega

set_option maxRecDepth 100000 in
set_option maxHeartbeats 8000000 in
theorem quote_any (s : ByteArray) (w : World) (hT : Tab w) (hs : s.size ≤ 10000) : Calls Tryd.prog 18 #[.string s] w (Told (.string (strOfNums (quoteF (rawF (strI s))))) w) := by
  have hzr := rawF_right (strI s) (strI_u8 s)
  have hzl : (rawF (strI s)).length ≤ 10000 := by have := rawF_len (strI s); rw [strI_len] at this; omega
  have hb0 : Below w.heap.size w (w.alloc (.cells #[.pointer none, .slice none 0 0] 49)) := (Below.refl _ w).alloc (Nat.le_refl _) _
  have hbl0 : Bld (w.alloc (.cells #[.pointer none, .slice none 0 0] 49)) (w.heap.size + 1) w.heap.size [] :=
    ⟨none, .slice none 0 0, .inl rfl, heap_alloc_new w _, ⟨rfl, .inl ⟨rfl, rfl⟩⟩, by simp [Value.ownBlock]⟩
  go_enter Tryd.func18, Tryd.ntmps18
  go_wp2_with fail
  refine (writeByte_any _ _ _ 34 _ hbl0 (by simp) (by simp)).mono ?_
  rintro e w1 ⟨rfl, hwr1⟩
  have hb1 : Below w.heap.size w w1 := hb0.trans (hwr1.2.below (by omega) (Nat.le_refl _))
  have hs1 : w.heap.size + 1 ≤ w1.heap.size := by have := hwr1.2.2.2.2.1; simp at this; omega
  have HW1 := Lib.hid hwr1.1.bld
  clear hwr1 hbl0 hb0
  go_wp2_with fail
  refine (characters_any s _ (by omega)).mono ?_
  rintro e w2 ⟨a, cap, rfl, hr, hb2, hf, hty⟩
  generalize rawF (strI s) = zs at *
  have hBW2 : Below w.heap.size w w2 := hb1.trans (hb2.mono hb1.size)
  have hbld2 : Bld w2 (w.heap.size + 1) w.heap.size [34] := HW1.out.later hb2
  obtain ⟨n, hn⟩ : ∃ n, zs.length = n := ⟨_, rfl⟩
  rw [hn]
  have HN := Lib.hid hn
  have HZR := Lib.hid hzr
  have hncap : n ≤ cap := by rw [← hn]; exact hr.1
  have HR := Lib.hid hr.2.2
  have HF := Lib.hid hf
  have HTY := Lib.hid hty
  have HBW2 := Lib.hid hBW2
  have HS2 := Lib.hid (show w.heap.size + 1 ≤ w2.heap.size from Nat.le_trans hs1 hb2.size)
  have hnI : n ≤ 10000 := by omega
  clear hb2 hr hf hn hzr hBW2 hb1 hty HW1
  go_wp2
  go_loopw [10] (fun i wr => ∃ k : Nat, k ≤ n ∧ i = .int .i64 k ∧ Hid (Bld wr (w.heap.size + 1) w.heap.size (quoteTo zs k)) ∧ But (w.heap.size + 1) w.heap.size w2 wr) (fun i _ => n - (intOf i).toNat)
  case atStart => exact ⟨0, Nat.zero_le _, rfl, Lib.hid hbld2, But.refl _ _ _⟩
  case round =>
    clear hbld2
    obtain ⟨k, hk, rfl, HBL, hbut⟩ := hrel
    have HBW := Lib.hid (Nat.le_trans HS2.out hbut.2.2.2.1)
    have HBT := Lib.hid (show Below w.heap.size w wr from HBW2.out.trans (hbut.below (Nat.le_succ _) (Nat.le_refl _)))
    by_cases hlt : k < n
    · have hkz : k < zs.length := by rw [HN.out]; exact hlt
      obtain ⟨g, off, ha, hat⟩ := HR.out.resolve_left (fun h => by rw [h] at hkz; simp at hkz)
      have hgne : g ≠ w.heap.size := fun h => by
        have := HF.out _ ha
        simp at this
        omega
      have hgsame := hbut.2.2.2.2 g (.inr (by obtain ⟨cur, hc⟩ := HTY.out _ ha; exact ⟨cur, _, _, hc, by decide⟩)) hgne
      have hcell : wr.cell? ⟨g, off + k, none⟩ = some (.int .i64 (zs[k]?.getD 0)) := (cell_heap hgsame _).trans (hat.2 k hkz)
      subst ha
      have hri : rightB (zs[k]?.getD 0) = true := by rw [List.getElem?_eq_getElem hkz]; exact HZR.out _ (List.getElem_mem _)
      have HAL := Lib.hid (show (quoteTo zs k).length ≤ 1000000 from by have := (quoteTo_ok zs HZR.out k (by omega)).2; omega)
      have HAL1 := Lib.hid (show (quoteTo zs k ++ [92]).length ≤ 1000000 from by have := (quoteTo_ok zs HZR.out k (by omega)).2; rw [List.length_append]; simp; omega)
      have HBUT := Lib.hid hbut
      have HTL := Lib.hid hT.lt
      have hkI : (0 : Int) ≤ (k : Int) := by omega
      have hkI2 : (k : Int) < (n : Int) := by omega
      obtain ⟨c, hcc⟩ : ∃ c, zs[k]?.getD 0 = c := ⟨_, rfl⟩
      rw [hcc] at hcell hri
      have hch := right_ch hri
      obtain ⟨hch0, hch1⟩ := hch
      have hch : Ch c := ⟨hch0, hch1⟩
      clear hbut hat hgsame hkz
      by_cases hc0 : c = 0
      · subst hc0
        have HOUT := Lib.hid (show quoteTo zs (k + 1) = quoteTo zs k ++ putF 65533 from by show _ ++ outQ _ = _; rw [hcc]; simp [outQ])
        clear hcc
        go_wp2_with (first
        | (go_at_call 36; refine (writeRune_any (w.heap.size + 1) w.heap.size _ 65533 _ HBL.out HAL.out HBW.out (by decide)).mono ?_; rintro e w9 ⟨⟨n9, rfl⟩, hwr9⟩; have HW9 := Lib.hid hwr9))
        go_roundw
        case rel => exact ⟨k + 1, by omega, by go_num, Lib.hid (by rw [HOUT.out]; exact HW9.out.1.bld), HBUT.out.trans HW9.out.2⟩
        case measure => simp [intOf]; omega
      have qc0 : (c == 0) = false := beq_eq_false_iff_ne.2 hc0
      cases hct : controlB c
      case true =>
        have hx := ctl_hexes hct
        have HOUT := Lib.hid (show quoteTo zs (k + 1) = quoteTo zs k ++ escF c from by show _ ++ outQ _ = _; rw [hcc]; unfold outQ; rw [if_neg hc0, if_pos (by simp [hct])])
        clear hcc
        go_wp2_with (first
        | (go_at_call 37; (with_reducible refine (control_any c _ hch).mono ?_); rintro e wq ⟨rfl, hwq⟩; replace hwq := hwq.symm; subst hwq; rw [hct])
        | (go_at_call 40; refine (escape_any c _ (hT.later HBT.out HTL.out) hx).mono ?_; rintro e w8 ⟨⟨t8, rfl, ht8, hl8⟩, hb8⟩; have HB8 := Lib.hid (HBL.out.later hb8); have HU8 := Lib.hid (But.of_below (b := w.heap.size) hb8 HBW.out); have HW8 := Lib.hid (Nat.le_trans HBW.out hb8.size); have HT8 := Lib.hid ht8; have HL8 := Lib.hid hl8)
        | (go_at_call 39; refine (writeString_any (w.heap.size + 1) w.heap.size _ t8 _ HB8.out HAL.out (Nat.le_trans HL8.out (by omega)) HW8.out).mono ?_; rintro e w9 ⟨⟨n9, rfl⟩, hwr9⟩; have HW9 := Lib.hid (show Wrote (w.heap.size + 1) w.heap.size (quoteTo zs k ++ escF c) wr w9 from by rw [HT8.out] at hwr9; exact ⟨hwr9.1, HU8.out.trans hwr9.2⟩)))
        go_roundw
        case rel => exact ⟨k + 1, by omega, by go_num, Lib.hid (by rw [HOUT.out]; exact HW9.out.1.bld), HBUT.out.trans HW9.out.2⟩
        case measure => simp [intOf]; omega
      by_cases h34 : c = 34
      · subst h34
        have HOUT := Lib.hid (show quoteTo zs (k + 1) = quoteTo zs k ++ [92] ++ putF 34 from by show _ ++ outQ _ = _; rw [hcc]; simp [outQ, hct])
        clear hcc
        go_wp2_with (first
        | (go_at_call 37; (with_reducible refine (control_any 34 _ hch).mono ?_); rintro e wq ⟨rfl, hwq⟩; replace hwq := hwq.symm; subst hwq; rw [hct])
        | (go_at_call 42; refine (writeByte_any (w.heap.size + 1) w.heap.size _ 92 _ HBL.out HAL.out HBW.out).mono ?_; rintro e w8 ⟨rfl, hwr8⟩; have HW8 := Lib.hid hwr8)
        | (go_at_call 36; refine (writeRune_any (w.heap.size + 1) w.heap.size _ 34 _ HW8.out.1.bld HAL1.out (Nat.le_trans HBW.out HW8.out.2.2.2.2.1) hri).mono ?_; rintro e w9 ⟨⟨n9, rfl⟩, hwr9⟩; have HW9 := Lib.hid (show Wrote (w.heap.size + 1) w.heap.size (quoteTo zs k ++ [92] ++ putF 34) wr w9 from ⟨hwr9.1, HW8.out.2.trans hwr9.2⟩)))
        go_roundw
        case rel => exact ⟨k + 1, by omega, by go_num, Lib.hid (by rw [HOUT.out]; exact HW9.out.1.bld), HBUT.out.trans HW9.out.2⟩
        case measure => simp [intOf]; omega
      have q34 : (c == 34) = false := beq_eq_false_iff_ne.2 h34
      by_cases h92 : c = 92
      · subst h92
        have HOUT := Lib.hid (show quoteTo zs (k + 1) = quoteTo zs k ++ [92] ++ putF 92 from by show _ ++ outQ _ = _; rw [hcc]; simp [outQ, hct])
        clear hcc
        go_wp2_with (first
        | (go_at_call 37; (with_reducible refine (control_any 92 _ hch).mono ?_); rintro e wq ⟨rfl, hwq⟩; replace hwq := hwq.symm; subst hwq; rw [hct])
        | (go_at_call 42; refine (writeByte_any (w.heap.size + 1) w.heap.size _ 92 _ HBL.out HAL.out HBW.out).mono ?_; rintro e w8 ⟨rfl, hwr8⟩; have HW8 := Lib.hid hwr8)
        | (go_at_call 36; refine (writeRune_any (w.heap.size + 1) w.heap.size _ 92 _ HW8.out.1.bld HAL1.out (Nat.le_trans HBW.out HW8.out.2.2.2.2.1) hri).mono ?_; rintro e w9 ⟨⟨n9, rfl⟩, hwr9⟩; have HW9 := Lib.hid (show Wrote (w.heap.size + 1) w.heap.size (quoteTo zs k ++ [92] ++ putF 92) wr w9 from ⟨hwr9.1, HW8.out.2.trans hwr9.2⟩)))
        go_roundw
        case rel => exact ⟨k + 1, by omega, by go_num, Lib.hid (by rw [HOUT.out]; exact HW9.out.1.bld), HBUT.out.trans HW9.out.2⟩
        case measure => simp [intOf]; omega
      have q92 : (c == 92) = false := beq_eq_false_iff_ne.2 h92
      have HOUT := Lib.hid (show quoteTo zs (k + 1) = quoteTo zs k ++ putF c from by show _ ++ outQ _ = _; rw [hcc]; unfold outQ; rw [if_neg hc0, if_neg (by simp [hct]), if_neg (by simp [h34, h92])])
      clear hcc
      go_wp2_with (first
      | (go_at_call 37; (with_reducible refine (control_any c _ hch).mono ?_); rintro e wq ⟨rfl, hwq⟩; replace hwq := hwq.symm; subst hwq; rw [hct])
      | (go_at_call 36; refine (writeRune_any (w.heap.size + 1) w.heap.size _ c _ HBL.out HAL.out HBW.out hri).mono ?_; rintro e w9 ⟨⟨n9, rfl⟩, hwr9⟩; have HW9 := Lib.hid hwr9))
      go_roundw
      case rel => exact ⟨k + 1, by omega, by go_num, Lib.hid (by rw [HOUT.out]; exact HW9.out.1.bld), HBUT.out.trans HW9.out.2⟩
      case measure => simp [intOf]; omega
    · obtain rfl : k = n := by omega
      have hid : quoteF zs = quoteTo zs k ++ [34] := by unfold quoteF; rw [HN.out]
      have HID := Lib.hid hid
      have hok := quoteTo_ok zs HZR.out k (by rw [HN.out]; exact Nat.le_refl _)
      have HU := Lib.hid (show U8 (quoteTo zs k ++ [34]) from fun z hz => (List.mem_append.1 hz).elim (hok.1 z) (fun h => by simp at h; omega))
      have HAL := Lib.hid (show (quoteTo zs k).length ≤ 1000000 from by omega)
      clear hbut hid hok
      go_wp2_with fail
      refine (writeByte_any _ _ _ 34 _ HBL.out HAL.out HBW.out).mono ?_
      rintro e w8 ⟨rfl, hwr8⟩
      have HB8 := Lib.hid hwr8.1.bld
      have HBT8 := Lib.hid (HBT.out.trans (hwr8.2.below (Nat.le_succ _) (Nat.le_refl _)))
      clear hwr8
      go_wp2_with fail
      refine (bstring_any _ _ _ _ HB8.out HU.out (Nat.le_succ _)).mono ?_
      rintro e w9 ⟨rfl, hb9⟩
      go_wp2
      go_ret
      exact ⟨by rw [HID.out]; rfl, HBT8.out.trans hb9⟩
end Go.Proofs.YtkpjkeplbjkigaaDoor
