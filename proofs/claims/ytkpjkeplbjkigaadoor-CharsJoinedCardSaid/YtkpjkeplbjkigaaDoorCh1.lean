/- A text as a name: what it is (mathematics), and the walk. -/
import Derived.Test.YtkpjkeplbjkigaaDoorCh0
import Derived.Test.YtkpjkeplbjkigaaDoorName
namespace Go.Proofs.YtkpjkeplbjkigaaDoor
open Go.RowKit
set_option linter.unusedVariables false
set_option linter.unusedSimpArgs false

theorem right_ch {c : Int} (h : rightB c = true) : Ch c := by
  unfold rightB at h; rw [decide_eq_true_iff] at h; exact ⟨h.1, h.2.1⟩
theorem charF_right (ys : List Int) (hz : U8 ys) (h : ys ≠ []) : rightB (charF ys) = true := by
  obtain ⟨g1, g4, gl, g⟩ := read_spec ys hz (List.length_pos_iff.2 h)
  unfold charF
  rcases g with ⟨go, gw, gc⟩ | ⟨go, _⟩
  · rw [if_pos go, gc]
    unfold wholeF at gw
    rw [Bool.and_eq_true] at gw
    exact gw.1
  · rw [go, if_neg (by simp)]; decide
theorem rawN_right : ∀ (f : Nat) (ys : List Int), U8 ys → ∀ c ∈ rawN f ys, rightB c = true
  | 0, _, _, c, hc => by simp [rawN] at hc
  | f + 1, ys, hz, c, hc => by
    by_cases h : ys = []
    · subst h; simp [rawN] at hc
    · have e : rawN (f + 1) ys = charF ys :: rawN f (ys.drop (sizeF ys)) := by
        cases ys with
        | nil => exact absurd rfl h
        | cons y ys => rfl
      rw [e] at hc
      rcases List.mem_cons.1 hc with rfl | hc
      · exact charF_right ys hz h
      · exact rawN_right f _ (hz.drop _) c hc
theorem rawF_right (ys : List Int) (hz : U8 ys) (c : Int) (hc : c ∈ rawF ys) : rightB c = true := rawN_right _ ys hz c hc
theorem rawN_len : ∀ (f : Nat) (ys : List Int), (rawN f ys).length ≤ f
  | 0, _ => by simp [rawN]
  | f + 1, ys => by
    by_cases h : ys = []
    · subst h; simp [rawN]
    · have e : rawN (f + 1) ys = charF ys :: rawN f (ys.drop (sizeF ys)) := by
        cases ys with
        | nil => exact absurd rfl h
        | cons y ys => rfl
      rw [e, List.length_cons]
      have := rawN_len f (ys.drop (sizeF ys))
      omega
theorem rawF_len (ys : List Int) : (rawF ys).length ≤ ys.length := rawN_len _ ys

/-- Is a place one of a name's first ones? -/
def firstB (l : List Int) (i : Nat) : Bool := decide (i = 0) || (decide (i = 1) && decide (l[0]?.getD 0 = 45))
/-- What a character is written as in a name. -/
def outI (l : List Int) (i : Nat) (c : Int) : List Int :=
  if c = 0 then putF 65533
  else if (controlB c || decide (c = 65279) || (digitB c && firstB l i)) = true then escF c
  else if (!nameB c || (decide (c = 45) && decide (l.length = 1))) = true then 92 :: putF c
  else putF c
def identTo (l : List Int) : Nat → List Int
  | 0 => []
  | k + 1 => identTo l k ++ outI l k (l[k]?.getD 0)
def identF (l : List Int) : List Int := identTo l l.length

theorem ctl_hexes {c : Int} (h : controlB c = true) : Hexes c := by
  unfold controlB at h; rw [decide_eq_true_iff] at h; exact ⟨by omega, by omega⟩
theorem dig_hexes {c : Int} (h : digitB c = true) : Hexes c := by
  unfold digitB at h; rw [decide_eq_true_iff] at h; exact ⟨by omega, by omega⟩
theorem escF_u8 {c : Int} (h : Hexes c) : U8 (escF c) := by
  unfold escF
  intro z hz
  rcases List.mem_append.1 hz with hz | hz
  · rcases List.mem_append.1 hz with hz | hz
    · simp at hz; omega
    · exact hexF_u8 c h z hz
  · simp at hz; omega
theorem escF_len (c : Int) : (escF c).length ≤ 6 := by
  have := hexF_len c
  unfold escF; rw [List.length_append, List.length_append]; simp; omega
theorem outI_ok (l : List Int) (i : Nat) (c : Int) (h : rightB c = true) : U8 (outI l i c) ∧ (outI l i c).length ≤ 6 := by
  have hp := putF_u8 c h
  have hl := putF_len c
  unfold outI
  split
  · exact ⟨putF_u8 _ (by decide), Nat.le_trans (putF_len _) (by omega)⟩
  split
  · rename_i h0 h1
    have hx : Hexes c := by
      rw [Bool.or_eq_true, Bool.or_eq_true, Bool.and_eq_true] at h1
      rcases h1 with (h1 | h1) | h1
      · exact ctl_hexes h1
      · rw [decide_eq_true_iff] at h1; subst h1; exact ⟨by omega, by omega⟩
      · exact dig_hexes h1.1
    exact ⟨escF_u8 hx, escF_len c⟩
  split
  · exact ⟨fun z hz => by rcases List.mem_cons.1 hz with rfl | hz; omega; exact hp z hz, by rw [List.length_cons]; omega⟩
  · exact ⟨hp, by omega⟩
theorem identTo_ok (l : List Int) (h : ∀ c ∈ l, rightB c = true) : ∀ k, k ≤ l.length → U8 (identTo l k) ∧ (identTo l k).length ≤ 6 * k
  | 0, _ => ⟨(fun z hz => by cases hz), by simp [identTo]⟩
  | k + 1, hk => by
    obtain ⟨h1, h2⟩ := identTo_ok l h k (by omega)
    have hc : rightB (l[k]?.getD 0) = true := by rw [List.getElem?_eq_getElem (by omega)]; exact h _ (List.getElem_mem _)
    obtain ⟨h3, h4⟩ := outI_ok l k _ hc
    refine ⟨fun z hz => (List.mem_append.1 hz).elim (h1 z) (h3 z), ?_⟩
    show (identTo l k ++ _).length ≤ _
    rw [List.length_append]; omega

theorem cell_heap {w w' : World} {b : Nat} (h : w'.heap[b]? = w.heap[b]?) (o : Nat) : w'.cell? ⟨b, o, none⟩ = w.cell? ⟨b, o, none⟩ := by unfold World.cell?; simp [h]
theorem bld_new (w : World) (B : Nat) (hB : B ≤ w.heap.size + 1) : True := trivial

set_option maxRecDepth 100000 in
set_option maxHeartbeats 8000000 in
theorem ident_any (s : ByteArray) (w : World) (hT : Tab w) (hs : s.size ≤ 10000) : Calls Tryd.prog 16 #[.string s] w (Told (.string (strOfNums (identF (rawF (strI s))))) w) := by
  have hzr := rawF_right (strI s) (strI_u8 s)
  have hzl : (rawF (strI s)).length ≤ 10000 := by have := rawF_len (strI s); rw [strI_len] at this; omega
  have hb0 : Below w.heap.size w (w.alloc (.cells #[.pointer none, .slice none 0 0] 49)) := (Below.refl _ w).alloc (Nat.le_refl _) _
  have hbl0 : ∀ B, Bld (w.alloc (.cells #[.pointer none, .slice none 0 0] 49)) B w.heap.size [] := fun B =>
    ⟨none, .slice none 0 0, .inl rfl, heap_alloc_new w _, ⟨rfl, .inl ⟨rfl, rfl⟩⟩, by simp [Value.ownBlock]⟩
  go_enter Tryd.func16, Tryd.ntmps16
  go_wp2_with fail
  refine (characters_any s _ (by omega)).mono ?_
  rintro e w2 ⟨a, cap, rfl, hr, hb2, hf, _⟩
  generalize rawF (strI s) = zs at *
  have hTL : 5 < w2.heap.size := Nat.lt_of_lt_of_le hT.lt (below_trans hb0 hb2).size
  have hT2 : Tab w2 := hT.later (below_trans hb0 hb2) hT.lt
  have hbld2 : Bld w2 w2.heap.size w.heap.size [] := (hbl0 _).later hb2
  have hbS : w.heap.size < w2.heap.size := by have := hb2.size; simp at this; omega
  have hBW2 : Below w.heap.size w w2 := below_trans hb0 hb2
  obtain ⟨n, hn⟩ : ∃ n, zs.length = n := ⟨_, rfl⟩
  rw [hn]
  have HN := Lib.hid hn
  have HZR := Lib.hid hzr
  have hncap : n ≤ cap := by rw [← hn]; exact hr.1
  have HR := Lib.hid hr.2.2
  have HF := Lib.hid hf
  have HBW2 := Lib.hid hBW2
  have hnI : n ≤ 10000 := by omega
  clear hb0 hbl0 hb2 hr hf hn hzr hBW2
  go_wp2
  go_loopw [12] (fun i wr => ∃ k : Nat, k ≤ n ∧ i = .int .i64 k ∧ Hid (Bld wr w2.heap.size w.heap.size (identTo zs k)) ∧ But w2.heap.size w.heap.size w2 wr) (fun i _ => n - (intOf i).toNat)
  case atStart => exact ⟨0, Nat.zero_le _, rfl, Lib.hid hbld2, But.refl _ _ _⟩
  case round =>
    clear hbld2
    obtain ⟨k, hk, rfl, HBL, hbut⟩ := hrel
    by_cases hlt : k < n
    · have hkz : k < zs.length := by rw [HN.out]; exact hlt
      obtain ⟨g, off, ha, hat⟩ := HR.out.resolve_left (fun h => by rw [h] at hkz; simp at hkz)
      have hgne : g ≠ w.heap.size := fun h => by
        have := HF.out _ ha
        simp at this
        omega
      have hgsame := hbut.2.2.2.2 g (.inl hat.1) hgne
      have hcell : wr.cell? ⟨g, off + k, none⟩ = some (.int .i64 (zs[k]?.getD 0)) := (cell_heap hgsame _).trans (hat.2 k hkz)
      have hcell0 : wr.cell? ⟨g, off, none⟩ = some (.int .i64 (zs[0]?.getD 0)) := (cell_heap hgsame _).trans (hat.2 0 (by omega))
      subst ha
      have hri : rightB (zs[k]?.getD 0) = true := by rw [List.getElem?_eq_getElem hkz]; exact HZR.out _ (List.getElem_mem _)
      have HAL := Lib.hid (show (identTo zs k).length ≤ 1000000 from by have := (identTo_ok zs HZR.out k (by omega)).2; omega)
      have HAL1 := Lib.hid (show (identTo zs k ++ [92]).length ≤ 1000000 from by have := (identTo_ok zs HZR.out k (by omega)).2; rw [List.length_append]; simp; omega)
      have HBUT := Lib.hid hbut
      have HBW := Lib.hid hbut.2.2.2.1
      have HBT := Lib.hid (show Below w.heap.size w wr from HBW2.out.trans (hbut.below (Nat.le_of_lt hbS) (Nat.le_refl _)))
      have HTL := Lib.hid hT.lt
      have hkI : (0 : Int) ≤ (k : Int) := by omega
      have hkI2 : (k : Int) < (n : Int) := by omega
      obtain ⟨c, hcc⟩ : ∃ c, zs[k]?.getD 0 = c := ⟨_, rfl⟩
      obtain ⟨l0, hl0⟩ : ∃ c, zs[0]?.getD 0 = c := ⟨_, rfl⟩
      rw [hcc] at hcell hri
      rw [hl0] at hcell0
      have hch := right_ch hri
      obtain ⟨hch0, hch1⟩ := hch
      have hch : Ch c := ⟨hch0, hch1⟩
      clear hbut hat hgsame hkz
      rcases (show k = 0 ∨ (k = 1 ∧ l0 = 45) ∨ (k = 1 ∧ l0 ≠ 45) ∨ 2 ≤ k from by omega) with h0 | ⟨h1, h2⟩ | ⟨h1, h2⟩ | h1
      · have hF : firstB zs k = true := by rw [h0]; rfl
        have q0 : ((k : Int) == 0) = true := beq_iff_eq.2 (by omega)
        clear h0 hl0 hcell0
        by_cases hc0 : c = 0
        · subst hc0
          have HOUT := Lib.hid (show identTo zs (k + 1) = identTo zs k ++ putF 65533 from by show _ ++ outI zs k _ = _; rw [hcc]; simp [outI])
          clear hcc
          go_wp2_with (first
          | (go_at_call 36; refine (writeRune_any w2.heap.size w.heap.size _ 65533 _ HBL.out HAL.out HBW.out (by decide)).mono ?_; rintro e w9 ⟨⟨n9, rfl⟩, hwr9⟩; have HW9 := Lib.hid hwr9))
          go_roundw
          case rel => exact ⟨k + 1, by omega, by go_num, Lib.hid (by rw [HOUT.out]; exact HW9.out.1.bld), HBUT.out.trans HW9.out.2⟩
          case measure => simp [intOf]; omega
        have qc0 : (c == 0) = false := beq_eq_false_iff_ne.2 hc0
        cases hct : controlB c
        case true =>
          have hx := ctl_hexes hct
          have HOUT := Lib.hid (show identTo zs (k + 1) = identTo zs k ++ escF c from by show _ ++ outI zs k _ = _; rw [hcc]; unfold outI; rw [if_neg hc0, if_pos (by simp [hct])])
          clear hcc
          go_wp2_with (first
          | (go_at_call 37; (with_reducible refine (control_any c _ hch).mono ?_); rintro e wq ⟨rfl, hwq⟩; replace hwq := hwq.symm; subst hwq; rw [hct])
          | (go_at_call 38; (with_reducible refine (digit_any c _ hch).mono ?_); rintro e wq ⟨rfl, hwq⟩; replace hwq := hwq.symm; subst hwq; rw [hdg])
          | (go_at_call 41; (with_reducible refine (name_any c _ hch).mono ?_); rintro e wq ⟨rfl, hwq⟩; replace hwq := hwq.symm; subst hwq; rw [hnm])
          | (go_at_call 40; refine (escape_any c _ (hT.later HBT.out HTL.out) hx).mono ?_; rintro e w8 ⟨⟨t8, rfl, ht8, hl8⟩, hb8⟩; have HB8 := Lib.hid (HBL.out.later hb8); have HU8 := Lib.hid (But.of_below (b := w.heap.size) hb8 HBW.out); have HW8 := Lib.hid (Nat.le_trans HBW.out hb8.size); have HT8 := Lib.hid ht8; have HL8 := Lib.hid hl8)
          | (go_at_call 39; refine (writeString_any w2.heap.size w.heap.size _ t8 _ HB8.out HAL.out (Nat.le_trans HL8.out (by omega)) HW8.out).mono ?_; rintro e w9 ⟨⟨n9, rfl⟩, hwr9⟩; have HW9 := Lib.hid (show Wrote w2.heap.size w.heap.size (identTo zs k ++ escF c) wr w9 from by rw [HT8.out] at hwr9; exact ⟨hwr9.1, HU8.out.trans hwr9.2⟩)))
          go_roundw
          case rel => exact ⟨k + 1, by omega, by go_num, Lib.hid (by rw [HOUT.out]; exact HW9.out.1.bld), HBUT.out.trans HW9.out.2⟩
          case measure => simp [intOf]; omega
        by_cases hmk : c = 65279
        · subst hmk
          have hdg : digitB 65279 = false := by decide
          have hx : Hexes 65279 := ⟨by omega, by omega⟩
          have HOUT := Lib.hid (show identTo zs (k + 1) = identTo zs k ++ escF 65279 from by show _ ++ outI zs k _ = _; rw [hcc]; unfold outI; rw [if_neg hc0, if_pos (by simp)])
          clear hcc
          go_wp2_with (first
          | (go_at_call 37; (with_reducible refine (control_any 65279 _ hch).mono ?_); rintro e wq ⟨rfl, hwq⟩; replace hwq := hwq.symm; subst hwq; rw [hct])
          | (go_at_call 38; (with_reducible refine (digit_any 65279 _ hch).mono ?_); rintro e wq ⟨rfl, hwq⟩; replace hwq := hwq.symm; subst hwq; rw [hdg])
          | (go_at_call 41; (with_reducible refine (name_any 65279 _ hch).mono ?_); rintro e wq ⟨rfl, hwq⟩; replace hwq := hwq.symm; subst hwq; rw [hnm])
          | (go_at_call 40; refine (escape_any 65279 _ (hT.later HBT.out HTL.out) hx).mono ?_; rintro e w8 ⟨⟨t8, rfl, ht8, hl8⟩, hb8⟩; have HB8 := Lib.hid (HBL.out.later hb8); have HU8 := Lib.hid (But.of_below (b := w.heap.size) hb8 HBW.out); have HW8 := Lib.hid (Nat.le_trans HBW.out hb8.size); have HT8 := Lib.hid ht8; have HL8 := Lib.hid hl8)
          | (go_at_call 39; refine (writeString_any w2.heap.size w.heap.size _ t8 _ HB8.out HAL.out (Nat.le_trans HL8.out (by omega)) HW8.out).mono ?_; rintro e w9 ⟨⟨n9, rfl⟩, hwr9⟩; have HW9 := Lib.hid (show Wrote w2.heap.size w.heap.size (identTo zs k ++ escF 65279) wr w9 from by rw [HT8.out] at hwr9; exact ⟨hwr9.1, HU8.out.trans hwr9.2⟩)))
          go_roundw
          case rel => exact ⟨k + 1, by omega, by go_num, Lib.hid (by rw [HOUT.out]; exact HW9.out.1.bld), HBUT.out.trans HW9.out.2⟩
          case measure => simp [intOf]; omega
        have qmk : (c == 65279) = false := beq_eq_false_iff_ne.2 hmk
        cases hdg : digitB c
        case true =>
          have hx := dig_hexes hdg
          have HOUT := Lib.hid (show identTo zs (k + 1) = identTo zs k ++ escF c from by show _ ++ outI zs k _ = _; rw [hcc]; unfold outI; rw [if_neg hc0, if_pos (by simp [hct, hdg, hF])])
          clear hcc
          go_wp2_with (first
          | (go_at_call 37; (with_reducible refine (control_any c _ hch).mono ?_); rintro e wq ⟨rfl, hwq⟩; replace hwq := hwq.symm; subst hwq; rw [hct])
          | (go_at_call 38; (with_reducible refine (digit_any c _ hch).mono ?_); rintro e wq ⟨rfl, hwq⟩; replace hwq := hwq.symm; subst hwq; rw [hdg])
          | (go_at_call 41; (with_reducible refine (name_any c _ hch).mono ?_); rintro e wq ⟨rfl, hwq⟩; replace hwq := hwq.symm; subst hwq; rw [hnm])
          | (go_at_call 40; refine (escape_any c _ (hT.later HBT.out HTL.out) hx).mono ?_; rintro e w8 ⟨⟨t8, rfl, ht8, hl8⟩, hb8⟩; have HB8 := Lib.hid (HBL.out.later hb8); have HU8 := Lib.hid (But.of_below (b := w.heap.size) hb8 HBW.out); have HW8 := Lib.hid (Nat.le_trans HBW.out hb8.size); have HT8 := Lib.hid ht8; have HL8 := Lib.hid hl8)
          | (go_at_call 39; refine (writeString_any w2.heap.size w.heap.size _ t8 _ HB8.out HAL.out (Nat.le_trans HL8.out (by omega)) HW8.out).mono ?_; rintro e w9 ⟨⟨n9, rfl⟩, hwr9⟩; have HW9 := Lib.hid (show Wrote w2.heap.size w.heap.size (identTo zs k ++ escF c) wr w9 from by rw [HT8.out] at hwr9; exact ⟨hwr9.1, HU8.out.trans hwr9.2⟩)))
          go_roundw
          case rel => exact ⟨k + 1, by omega, by go_num, Lib.hid (by rw [HOUT.out]; exact HW9.out.1.bld), HBUT.out.trans HW9.out.2⟩
          case measure => simp [intOf]; omega
        case false =>
          cases hnm : nameB c
          case false =>
            have h45 : True := trivial
            have hone : True := trivial
            have HOUT := Lib.hid (show identTo zs (k + 1) = identTo zs k ++ [92] ++ putF c from by show _ ++ outI zs k _ = _; rw [hcc]; unfold outI; rw [if_neg hc0, if_neg (by simp [hct, hdg, hF, hmk]), if_pos (by simp [hnm, h45, hone])]; simp)
            clear hcc
            go_wp2_with (first
            | (go_at_call 37; (with_reducible refine (control_any c _ hch).mono ?_); rintro e wq ⟨rfl, hwq⟩; replace hwq := hwq.symm; subst hwq; rw [hct])
            | (go_at_call 38; (with_reducible refine (digit_any c _ hch).mono ?_); rintro e wq ⟨rfl, hwq⟩; replace hwq := hwq.symm; subst hwq; rw [hdg])
            | (go_at_call 41; (with_reducible refine (name_any c _ hch).mono ?_); rintro e wq ⟨rfl, hwq⟩; replace hwq := hwq.symm; subst hwq; rw [hnm])
            | (go_at_call 42; refine (writeByte_any w2.heap.size w.heap.size _ 92 _ HBL.out HAL.out HBW.out).mono ?_; rintro e w8 ⟨rfl, hwr8⟩; have HW8 := Lib.hid hwr8)
            | (go_at_call 36; refine (writeRune_any w2.heap.size w.heap.size _ c _ HW8.out.1.bld HAL1.out (Nat.le_trans HBW.out HW8.out.2.2.2.2.1) hri).mono ?_; rintro e w9 ⟨⟨n9, rfl⟩, hwr9⟩; have HW9 := Lib.hid (show Wrote w2.heap.size w.heap.size (identTo zs k ++ [92] ++ putF c) wr w9 from ⟨hwr9.1, HW8.out.2.trans hwr9.2⟩)))
            go_roundw
            case rel => exact ⟨k + 1, by omega, by go_num, Lib.hid (by rw [HOUT.out]; exact HW9.out.1.bld), HBUT.out.trans HW9.out.2⟩
            case measure => simp [intOf]; omega
          by_cases h45 : c = 45
          · have hone0 := h45
            by_cases hone : zs.length = 1
            · have qn1 : (n : Int) == 1 := by rw [beq_iff_eq]; have := HN.out; omega
              subst h45
              have h45 : True := trivial
              have HOUT := Lib.hid (show identTo zs (k + 1) = identTo zs k ++ [92] ++ putF 45 from by show _ ++ outI zs k _ = _; rw [hcc]; unfold outI; rw [if_neg hc0, if_neg (by simp [hct, hdg, hF, hmk]), if_pos (by simp [hnm, h45, hone])]; simp)
              clear hcc
              go_wp2_with (first
              | (go_at_call 37; (with_reducible refine (control_any 45 _ hch).mono ?_); rintro e wq ⟨rfl, hwq⟩; replace hwq := hwq.symm; subst hwq; rw [hct])
              | (go_at_call 38; (with_reducible refine (digit_any 45 _ hch).mono ?_); rintro e wq ⟨rfl, hwq⟩; replace hwq := hwq.symm; subst hwq; rw [hdg])
              | (go_at_call 41; (with_reducible refine (name_any 45 _ hch).mono ?_); rintro e wq ⟨rfl, hwq⟩; replace hwq := hwq.symm; subst hwq; rw [hnm])
              | (go_at_call 42; refine (writeByte_any w2.heap.size w.heap.size _ 92 _ HBL.out HAL.out HBW.out).mono ?_; rintro e w8 ⟨rfl, hwr8⟩; have HW8 := Lib.hid hwr8)
              | (go_at_call 36; refine (writeRune_any w2.heap.size w.heap.size _ 45 _ HW8.out.1.bld HAL1.out (Nat.le_trans HBW.out HW8.out.2.2.2.2.1) hri).mono ?_; rintro e w9 ⟨⟨n9, rfl⟩, hwr9⟩; have HW9 := Lib.hid (show Wrote w2.heap.size w.heap.size (identTo zs k ++ [92] ++ putF 45) wr w9 from ⟨hwr9.1, HW8.out.2.trans hwr9.2⟩)))
              go_roundw
              case rel => exact ⟨k + 1, by omega, by go_num, Lib.hid (by rw [HOUT.out]; exact HW9.out.1.bld), HBUT.out.trans HW9.out.2⟩
              case measure => simp [intOf]; omega
            have qn1 : ((n : Int) == 1) = false := beq_eq_false_iff_ne.2 (by have := HN.out; omega)
            subst h45
            have h45 : True := trivial
            have HOUT := Lib.hid (show identTo zs (k + 1) = identTo zs k ++ putF 45 from by show _ ++ outI zs k _ = _; rw [hcc]; unfold outI; rw [if_neg hc0, if_neg (by simp [hct, hdg, hF, hmk]), if_neg (by simp [hnm, h45, hone])])
            clear hcc
            go_wp2_with (first
            | (go_at_call 37; (with_reducible refine (control_any 45 _ hch).mono ?_); rintro e wq ⟨rfl, hwq⟩; replace hwq := hwq.symm; subst hwq; rw [hct])
            | (go_at_call 38; (with_reducible refine (digit_any 45 _ hch).mono ?_); rintro e wq ⟨rfl, hwq⟩; replace hwq := hwq.symm; subst hwq; rw [hdg])
            | (go_at_call 41; (with_reducible refine (name_any 45 _ hch).mono ?_); rintro e wq ⟨rfl, hwq⟩; replace hwq := hwq.symm; subst hwq; rw [hnm])
            | (go_at_call 36; refine (writeRune_any w2.heap.size w.heap.size _ 45 _ HBL.out HAL.out HBW.out hri).mono ?_; rintro e w9 ⟨⟨n9, rfl⟩, hwr9⟩; have HW9 := Lib.hid hwr9))
            go_roundw
            case rel => exact ⟨k + 1, by omega, by go_num, Lib.hid (by rw [HOUT.out]; exact HW9.out.1.bld), HBUT.out.trans HW9.out.2⟩
            case measure => simp [intOf]; omega
          have q45 : (c == 45) = false := beq_eq_false_iff_ne.2 h45
          have hone : True := trivial
          have HOUT := Lib.hid (show identTo zs (k + 1) = identTo zs k ++ putF c from by show _ ++ outI zs k _ = _; rw [hcc]; unfold outI; rw [if_neg hc0, if_neg (by simp [hct, hdg, hF, hmk]), if_neg (by simp [hnm, h45, hone])])
          clear hcc
          go_wp2_with (first
          | (go_at_call 37; (with_reducible refine (control_any c _ hch).mono ?_); rintro e wq ⟨rfl, hwq⟩; replace hwq := hwq.symm; subst hwq; rw [hct])
          | (go_at_call 38; (with_reducible refine (digit_any c _ hch).mono ?_); rintro e wq ⟨rfl, hwq⟩; replace hwq := hwq.symm; subst hwq; rw [hdg])
          | (go_at_call 41; (with_reducible refine (name_any c _ hch).mono ?_); rintro e wq ⟨rfl, hwq⟩; replace hwq := hwq.symm; subst hwq; rw [hnm])
          | (go_at_call 36; refine (writeRune_any w2.heap.size w.heap.size _ c _ HBL.out HAL.out HBW.out hri).mono ?_; rintro e w9 ⟨⟨n9, rfl⟩, hwr9⟩; have HW9 := Lib.hid hwr9))
          go_roundw
          case rel => exact ⟨k + 1, by omega, by go_num, Lib.hid (by rw [HOUT.out]; exact HW9.out.1.bld), HBUT.out.trans HW9.out.2⟩
          case measure => simp [intOf]; omega
      · have hF : firstB zs k = true := by unfold firstB; rw [hl0, h2, h1]; rfl
        have q0 : ((k : Int) == 0) = false := beq_eq_false_iff_ne.2 (by omega)
        have q1 : ((k : Int) == 1) = true := beq_iff_eq.2 (by omega)
        have q2 : (l0 == 45) = true := beq_iff_eq.2 h2
        have hnI1 : (0 : Int) < (n : Int) := by omega
        clear hl0 h1 h2
        by_cases hc0 : c = 0
        · subst hc0
          have HOUT := Lib.hid (show identTo zs (k + 1) = identTo zs k ++ putF 65533 from by show _ ++ outI zs k _ = _; rw [hcc]; simp [outI])
          clear hcc
          go_wp2_with (first
          | (go_at_call 36; refine (writeRune_any w2.heap.size w.heap.size _ 65533 _ HBL.out HAL.out HBW.out (by decide)).mono ?_; rintro e w9 ⟨⟨n9, rfl⟩, hwr9⟩; have HW9 := Lib.hid hwr9))
          go_roundw
          case rel => exact ⟨k + 1, by omega, by go_num, Lib.hid (by rw [HOUT.out]; exact HW9.out.1.bld), HBUT.out.trans HW9.out.2⟩
          case measure => simp [intOf]; omega
        have qc0 : (c == 0) = false := beq_eq_false_iff_ne.2 hc0
        cases hct : controlB c
        case true =>
          have hx := ctl_hexes hct
          have HOUT := Lib.hid (show identTo zs (k + 1) = identTo zs k ++ escF c from by show _ ++ outI zs k _ = _; rw [hcc]; unfold outI; rw [if_neg hc0, if_pos (by simp [hct])])
          clear hcc
          go_wp2_with (first
          | (go_at_call 37; (with_reducible refine (control_any c _ hch).mono ?_); rintro e wq ⟨rfl, hwq⟩; replace hwq := hwq.symm; subst hwq; rw [hct])
          | (go_at_call 38; (with_reducible refine (digit_any c _ hch).mono ?_); rintro e wq ⟨rfl, hwq⟩; replace hwq := hwq.symm; subst hwq; rw [hdg])
          | (go_at_call 41; (with_reducible refine (name_any c _ hch).mono ?_); rintro e wq ⟨rfl, hwq⟩; replace hwq := hwq.symm; subst hwq; rw [hnm])
          | (go_at_call 40; refine (escape_any c _ (hT.later HBT.out HTL.out) hx).mono ?_; rintro e w8 ⟨⟨t8, rfl, ht8, hl8⟩, hb8⟩; have HB8 := Lib.hid (HBL.out.later hb8); have HU8 := Lib.hid (But.of_below (b := w.heap.size) hb8 HBW.out); have HW8 := Lib.hid (Nat.le_trans HBW.out hb8.size); have HT8 := Lib.hid ht8; have HL8 := Lib.hid hl8)
          | (go_at_call 39; refine (writeString_any w2.heap.size w.heap.size _ t8 _ HB8.out HAL.out (Nat.le_trans HL8.out (by omega)) HW8.out).mono ?_; rintro e w9 ⟨⟨n9, rfl⟩, hwr9⟩; have HW9 := Lib.hid (show Wrote w2.heap.size w.heap.size (identTo zs k ++ escF c) wr w9 from by rw [HT8.out] at hwr9; exact ⟨hwr9.1, HU8.out.trans hwr9.2⟩)))
          go_roundw
          case rel => exact ⟨k + 1, by omega, by go_num, Lib.hid (by rw [HOUT.out]; exact HW9.out.1.bld), HBUT.out.trans HW9.out.2⟩
          case measure => simp [intOf]; omega
        by_cases hmk : c = 65279
        · subst hmk
          have hdg : digitB 65279 = false := by decide
          have hx : Hexes 65279 := ⟨by omega, by omega⟩
          have HOUT := Lib.hid (show identTo zs (k + 1) = identTo zs k ++ escF 65279 from by show _ ++ outI zs k _ = _; rw [hcc]; unfold outI; rw [if_neg hc0, if_pos (by simp)])
          clear hcc
          go_wp2_with (first
          | (go_at_call 37; (with_reducible refine (control_any 65279 _ hch).mono ?_); rintro e wq ⟨rfl, hwq⟩; replace hwq := hwq.symm; subst hwq; rw [hct])
          | (go_at_call 38; (with_reducible refine (digit_any 65279 _ hch).mono ?_); rintro e wq ⟨rfl, hwq⟩; replace hwq := hwq.symm; subst hwq; rw [hdg])
          | (go_at_call 41; (with_reducible refine (name_any 65279 _ hch).mono ?_); rintro e wq ⟨rfl, hwq⟩; replace hwq := hwq.symm; subst hwq; rw [hnm])
          | (go_at_call 40; refine (escape_any 65279 _ (hT.later HBT.out HTL.out) hx).mono ?_; rintro e w8 ⟨⟨t8, rfl, ht8, hl8⟩, hb8⟩; have HB8 := Lib.hid (HBL.out.later hb8); have HU8 := Lib.hid (But.of_below (b := w.heap.size) hb8 HBW.out); have HW8 := Lib.hid (Nat.le_trans HBW.out hb8.size); have HT8 := Lib.hid ht8; have HL8 := Lib.hid hl8)
          | (go_at_call 39; refine (writeString_any w2.heap.size w.heap.size _ t8 _ HB8.out HAL.out (Nat.le_trans HL8.out (by omega)) HW8.out).mono ?_; rintro e w9 ⟨⟨n9, rfl⟩, hwr9⟩; have HW9 := Lib.hid (show Wrote w2.heap.size w.heap.size (identTo zs k ++ escF 65279) wr w9 from by rw [HT8.out] at hwr9; exact ⟨hwr9.1, HU8.out.trans hwr9.2⟩)))
          go_roundw
          case rel => exact ⟨k + 1, by omega, by go_num, Lib.hid (by rw [HOUT.out]; exact HW9.out.1.bld), HBUT.out.trans HW9.out.2⟩
          case measure => simp [intOf]; omega
        have qmk : (c == 65279) = false := beq_eq_false_iff_ne.2 hmk
        cases hdg : digitB c
        case true =>
          have hx := dig_hexes hdg
          have HOUT := Lib.hid (show identTo zs (k + 1) = identTo zs k ++ escF c from by show _ ++ outI zs k _ = _; rw [hcc]; unfold outI; rw [if_neg hc0, if_pos (by simp [hct, hdg, hF])])
          clear hcc
          go_wp2_with (first
          | (go_at_call 37; (with_reducible refine (control_any c _ hch).mono ?_); rintro e wq ⟨rfl, hwq⟩; replace hwq := hwq.symm; subst hwq; rw [hct])
          | (go_at_call 38; (with_reducible refine (digit_any c _ hch).mono ?_); rintro e wq ⟨rfl, hwq⟩; replace hwq := hwq.symm; subst hwq; rw [hdg])
          | (go_at_call 41; (with_reducible refine (name_any c _ hch).mono ?_); rintro e wq ⟨rfl, hwq⟩; replace hwq := hwq.symm; subst hwq; rw [hnm])
          | (go_at_call 40; refine (escape_any c _ (hT.later HBT.out HTL.out) hx).mono ?_; rintro e w8 ⟨⟨t8, rfl, ht8, hl8⟩, hb8⟩; have HB8 := Lib.hid (HBL.out.later hb8); have HU8 := Lib.hid (But.of_below (b := w.heap.size) hb8 HBW.out); have HW8 := Lib.hid (Nat.le_trans HBW.out hb8.size); have HT8 := Lib.hid ht8; have HL8 := Lib.hid hl8)
          | (go_at_call 39; refine (writeString_any w2.heap.size w.heap.size _ t8 _ HB8.out HAL.out (Nat.le_trans HL8.out (by omega)) HW8.out).mono ?_; rintro e w9 ⟨⟨n9, rfl⟩, hwr9⟩; have HW9 := Lib.hid (show Wrote w2.heap.size w.heap.size (identTo zs k ++ escF c) wr w9 from by rw [HT8.out] at hwr9; exact ⟨hwr9.1, HU8.out.trans hwr9.2⟩)))
          go_roundw
          case rel => exact ⟨k + 1, by omega, by go_num, Lib.hid (by rw [HOUT.out]; exact HW9.out.1.bld), HBUT.out.trans HW9.out.2⟩
          case measure => simp [intOf]; omega
        case false =>
          cases hnm : nameB c
          case false =>
            have h45 : True := trivial
            have hone : True := trivial
            have HOUT := Lib.hid (show identTo zs (k + 1) = identTo zs k ++ [92] ++ putF c from by show _ ++ outI zs k _ = _; rw [hcc]; unfold outI; rw [if_neg hc0, if_neg (by simp [hct, hdg, hF, hmk]), if_pos (by simp [hnm, h45, hone])]; simp)
            clear hcc
            go_wp2_with (first
            | (go_at_call 37; (with_reducible refine (control_any c _ hch).mono ?_); rintro e wq ⟨rfl, hwq⟩; replace hwq := hwq.symm; subst hwq; rw [hct])
            | (go_at_call 38; (with_reducible refine (digit_any c _ hch).mono ?_); rintro e wq ⟨rfl, hwq⟩; replace hwq := hwq.symm; subst hwq; rw [hdg])
            | (go_at_call 41; (with_reducible refine (name_any c _ hch).mono ?_); rintro e wq ⟨rfl, hwq⟩; replace hwq := hwq.symm; subst hwq; rw [hnm])
            | (go_at_call 42; refine (writeByte_any w2.heap.size w.heap.size _ 92 _ HBL.out HAL.out HBW.out).mono ?_; rintro e w8 ⟨rfl, hwr8⟩; have HW8 := Lib.hid hwr8)
            | (go_at_call 36; refine (writeRune_any w2.heap.size w.heap.size _ c _ HW8.out.1.bld HAL1.out (Nat.le_trans HBW.out HW8.out.2.2.2.2.1) hri).mono ?_; rintro e w9 ⟨⟨n9, rfl⟩, hwr9⟩; have HW9 := Lib.hid (show Wrote w2.heap.size w.heap.size (identTo zs k ++ [92] ++ putF c) wr w9 from ⟨hwr9.1, HW8.out.2.trans hwr9.2⟩)))
            go_roundw
            case rel => exact ⟨k + 1, by omega, by go_num, Lib.hid (by rw [HOUT.out]; exact HW9.out.1.bld), HBUT.out.trans HW9.out.2⟩
            case measure => simp [intOf]; omega
          by_cases h45 : c = 45
          · have hone0 := h45
            by_cases hone : zs.length = 1
            · have qn1 : (n : Int) == 1 := by rw [beq_iff_eq]; have := HN.out; omega
              subst h45
              have h45 : True := trivial
              have HOUT := Lib.hid (show identTo zs (k + 1) = identTo zs k ++ [92] ++ putF 45 from by show _ ++ outI zs k _ = _; rw [hcc]; unfold outI; rw [if_neg hc0, if_neg (by simp [hct, hdg, hF, hmk]), if_pos (by simp [hnm, h45, hone])]; simp)
              clear hcc
              go_wp2_with (first
              | (go_at_call 37; (with_reducible refine (control_any 45 _ hch).mono ?_); rintro e wq ⟨rfl, hwq⟩; replace hwq := hwq.symm; subst hwq; rw [hct])
              | (go_at_call 38; (with_reducible refine (digit_any 45 _ hch).mono ?_); rintro e wq ⟨rfl, hwq⟩; replace hwq := hwq.symm; subst hwq; rw [hdg])
              | (go_at_call 41; (with_reducible refine (name_any 45 _ hch).mono ?_); rintro e wq ⟨rfl, hwq⟩; replace hwq := hwq.symm; subst hwq; rw [hnm])
              | (go_at_call 42; refine (writeByte_any w2.heap.size w.heap.size _ 92 _ HBL.out HAL.out HBW.out).mono ?_; rintro e w8 ⟨rfl, hwr8⟩; have HW8 := Lib.hid hwr8)
              | (go_at_call 36; refine (writeRune_any w2.heap.size w.heap.size _ 45 _ HW8.out.1.bld HAL1.out (Nat.le_trans HBW.out HW8.out.2.2.2.2.1) hri).mono ?_; rintro e w9 ⟨⟨n9, rfl⟩, hwr9⟩; have HW9 := Lib.hid (show Wrote w2.heap.size w.heap.size (identTo zs k ++ [92] ++ putF 45) wr w9 from ⟨hwr9.1, HW8.out.2.trans hwr9.2⟩)))
              go_roundw
              case rel => exact ⟨k + 1, by omega, by go_num, Lib.hid (by rw [HOUT.out]; exact HW9.out.1.bld), HBUT.out.trans HW9.out.2⟩
              case measure => simp [intOf]; omega
            have qn1 : ((n : Int) == 1) = false := beq_eq_false_iff_ne.2 (by have := HN.out; omega)
            subst h45
            have h45 : True := trivial
            have HOUT := Lib.hid (show identTo zs (k + 1) = identTo zs k ++ putF 45 from by show _ ++ outI zs k _ = _; rw [hcc]; unfold outI; rw [if_neg hc0, if_neg (by simp [hct, hdg, hF, hmk]), if_neg (by simp [hnm, h45, hone])])
            clear hcc
            go_wp2_with (first
            | (go_at_call 37; (with_reducible refine (control_any 45 _ hch).mono ?_); rintro e wq ⟨rfl, hwq⟩; replace hwq := hwq.symm; subst hwq; rw [hct])
            | (go_at_call 38; (with_reducible refine (digit_any 45 _ hch).mono ?_); rintro e wq ⟨rfl, hwq⟩; replace hwq := hwq.symm; subst hwq; rw [hdg])
            | (go_at_call 41; (with_reducible refine (name_any 45 _ hch).mono ?_); rintro e wq ⟨rfl, hwq⟩; replace hwq := hwq.symm; subst hwq; rw [hnm])
            | (go_at_call 36; refine (writeRune_any w2.heap.size w.heap.size _ 45 _ HBL.out HAL.out HBW.out hri).mono ?_; rintro e w9 ⟨⟨n9, rfl⟩, hwr9⟩; have HW9 := Lib.hid hwr9))
            go_roundw
            case rel => exact ⟨k + 1, by omega, by go_num, Lib.hid (by rw [HOUT.out]; exact HW9.out.1.bld), HBUT.out.trans HW9.out.2⟩
            case measure => simp [intOf]; omega
          have q45 : (c == 45) = false := beq_eq_false_iff_ne.2 h45
          have hone : True := trivial
          have HOUT := Lib.hid (show identTo zs (k + 1) = identTo zs k ++ putF c from by show _ ++ outI zs k _ = _; rw [hcc]; unfold outI; rw [if_neg hc0, if_neg (by simp [hct, hdg, hF, hmk]), if_neg (by simp [hnm, h45, hone])])
          clear hcc
          go_wp2_with (first
          | (go_at_call 37; (with_reducible refine (control_any c _ hch).mono ?_); rintro e wq ⟨rfl, hwq⟩; replace hwq := hwq.symm; subst hwq; rw [hct])
          | (go_at_call 38; (with_reducible refine (digit_any c _ hch).mono ?_); rintro e wq ⟨rfl, hwq⟩; replace hwq := hwq.symm; subst hwq; rw [hdg])
          | (go_at_call 41; (with_reducible refine (name_any c _ hch).mono ?_); rintro e wq ⟨rfl, hwq⟩; replace hwq := hwq.symm; subst hwq; rw [hnm])
          | (go_at_call 36; refine (writeRune_any w2.heap.size w.heap.size _ c _ HBL.out HAL.out HBW.out hri).mono ?_; rintro e w9 ⟨⟨n9, rfl⟩, hwr9⟩; have HW9 := Lib.hid hwr9))
          go_roundw
          case rel => exact ⟨k + 1, by omega, by go_num, Lib.hid (by rw [HOUT.out]; exact HW9.out.1.bld), HBUT.out.trans HW9.out.2⟩
          case measure => simp [intOf]; omega
      · have hF : firstB zs k = false := by unfold firstB; rw [hl0, h1]; simp [h2]
        have q0 : ((k : Int) == 0) = false := beq_eq_false_iff_ne.2 (by omega)
        have q1 : ((k : Int) == 1) = true := beq_iff_eq.2 (by omega)
        have q2 : (l0 == 45) = false := beq_eq_false_iff_ne.2 h2
        have hnI1 : (0 : Int) < (n : Int) := by omega
        clear hl0 h1 h2
        by_cases hc0 : c = 0
        · subst hc0
          have HOUT := Lib.hid (show identTo zs (k + 1) = identTo zs k ++ putF 65533 from by show _ ++ outI zs k _ = _; rw [hcc]; simp [outI])
          clear hcc
          go_wp2_with (first
          | (go_at_call 36; refine (writeRune_any w2.heap.size w.heap.size _ 65533 _ HBL.out HAL.out HBW.out (by decide)).mono ?_; rintro e w9 ⟨⟨n9, rfl⟩, hwr9⟩; have HW9 := Lib.hid hwr9))
          go_roundw
          case rel => exact ⟨k + 1, by omega, by go_num, Lib.hid (by rw [HOUT.out]; exact HW9.out.1.bld), HBUT.out.trans HW9.out.2⟩
          case measure => simp [intOf]; omega
        have qc0 : (c == 0) = false := beq_eq_false_iff_ne.2 hc0
        cases hct : controlB c
        case true =>
          have hx := ctl_hexes hct
          have HOUT := Lib.hid (show identTo zs (k + 1) = identTo zs k ++ escF c from by show _ ++ outI zs k _ = _; rw [hcc]; unfold outI; rw [if_neg hc0, if_pos (by simp [hct])])
          clear hcc
          go_wp2_with (first
          | (go_at_call 37; (with_reducible refine (control_any c _ hch).mono ?_); rintro e wq ⟨rfl, hwq⟩; replace hwq := hwq.symm; subst hwq; rw [hct])
          | (go_at_call 38; (with_reducible refine (digit_any c _ hch).mono ?_); rintro e wq ⟨rfl, hwq⟩; replace hwq := hwq.symm; subst hwq; rw [hdg])
          | (go_at_call 41; (with_reducible refine (name_any c _ hch).mono ?_); rintro e wq ⟨rfl, hwq⟩; replace hwq := hwq.symm; subst hwq; rw [hnm])
          | (go_at_call 40; refine (escape_any c _ (hT.later HBT.out HTL.out) hx).mono ?_; rintro e w8 ⟨⟨t8, rfl, ht8, hl8⟩, hb8⟩; have HB8 := Lib.hid (HBL.out.later hb8); have HU8 := Lib.hid (But.of_below (b := w.heap.size) hb8 HBW.out); have HW8 := Lib.hid (Nat.le_trans HBW.out hb8.size); have HT8 := Lib.hid ht8; have HL8 := Lib.hid hl8)
          | (go_at_call 39; refine (writeString_any w2.heap.size w.heap.size _ t8 _ HB8.out HAL.out (Nat.le_trans HL8.out (by omega)) HW8.out).mono ?_; rintro e w9 ⟨⟨n9, rfl⟩, hwr9⟩; have HW9 := Lib.hid (show Wrote w2.heap.size w.heap.size (identTo zs k ++ escF c) wr w9 from by rw [HT8.out] at hwr9; exact ⟨hwr9.1, HU8.out.trans hwr9.2⟩)))
          go_roundw
          case rel => exact ⟨k + 1, by omega, by go_num, Lib.hid (by rw [HOUT.out]; exact HW9.out.1.bld), HBUT.out.trans HW9.out.2⟩
          case measure => simp [intOf]; omega
        by_cases hmk : c = 65279
        · subst hmk
          have hdg : digitB 65279 = false := by decide
          have hx : Hexes 65279 := ⟨by omega, by omega⟩
          have HOUT := Lib.hid (show identTo zs (k + 1) = identTo zs k ++ escF 65279 from by show _ ++ outI zs k _ = _; rw [hcc]; unfold outI; rw [if_neg hc0, if_pos (by simp)])
          clear hcc
          go_wp2_with (first
          | (go_at_call 37; (with_reducible refine (control_any 65279 _ hch).mono ?_); rintro e wq ⟨rfl, hwq⟩; replace hwq := hwq.symm; subst hwq; rw [hct])
          | (go_at_call 38; (with_reducible refine (digit_any 65279 _ hch).mono ?_); rintro e wq ⟨rfl, hwq⟩; replace hwq := hwq.symm; subst hwq; rw [hdg])
          | (go_at_call 41; (with_reducible refine (name_any 65279 _ hch).mono ?_); rintro e wq ⟨rfl, hwq⟩; replace hwq := hwq.symm; subst hwq; rw [hnm])
          | (go_at_call 40; refine (escape_any 65279 _ (hT.later HBT.out HTL.out) hx).mono ?_; rintro e w8 ⟨⟨t8, rfl, ht8, hl8⟩, hb8⟩; have HB8 := Lib.hid (HBL.out.later hb8); have HU8 := Lib.hid (But.of_below (b := w.heap.size) hb8 HBW.out); have HW8 := Lib.hid (Nat.le_trans HBW.out hb8.size); have HT8 := Lib.hid ht8; have HL8 := Lib.hid hl8)
          | (go_at_call 39; refine (writeString_any w2.heap.size w.heap.size _ t8 _ HB8.out HAL.out (Nat.le_trans HL8.out (by omega)) HW8.out).mono ?_; rintro e w9 ⟨⟨n9, rfl⟩, hwr9⟩; have HW9 := Lib.hid (show Wrote w2.heap.size w.heap.size (identTo zs k ++ escF 65279) wr w9 from by rw [HT8.out] at hwr9; exact ⟨hwr9.1, HU8.out.trans hwr9.2⟩)))
          go_roundw
          case rel => exact ⟨k + 1, by omega, by go_num, Lib.hid (by rw [HOUT.out]; exact HW9.out.1.bld), HBUT.out.trans HW9.out.2⟩
          case measure => simp [intOf]; omega
        have qmk : (c == 65279) = false := beq_eq_false_iff_ne.2 hmk
        cases hdg : digitB c
        case true =>
          cases hnm : nameB c
          case false =>
            have h45 : True := trivial
            have hone : True := trivial
            have HOUT := Lib.hid (show identTo zs (k + 1) = identTo zs k ++ [92] ++ putF c from by show _ ++ outI zs k _ = _; rw [hcc]; unfold outI; rw [if_neg hc0, if_neg (by simp [hct, hdg, hF, hmk]), if_pos (by simp [hnm, h45, hone])]; simp)
            clear hcc
            go_wp2_with (first
            | (go_at_call 37; (with_reducible refine (control_any c _ hch).mono ?_); rintro e wq ⟨rfl, hwq⟩; replace hwq := hwq.symm; subst hwq; rw [hct])
            | (go_at_call 38; (with_reducible refine (digit_any c _ hch).mono ?_); rintro e wq ⟨rfl, hwq⟩; replace hwq := hwq.symm; subst hwq; rw [hdg])
            | (go_at_call 41; (with_reducible refine (name_any c _ hch).mono ?_); rintro e wq ⟨rfl, hwq⟩; replace hwq := hwq.symm; subst hwq; rw [hnm])
            | (go_at_call 42; refine (writeByte_any w2.heap.size w.heap.size _ 92 _ HBL.out HAL.out HBW.out).mono ?_; rintro e w8 ⟨rfl, hwr8⟩; have HW8 := Lib.hid hwr8)
            | (go_at_call 36; refine (writeRune_any w2.heap.size w.heap.size _ c _ HW8.out.1.bld HAL1.out (Nat.le_trans HBW.out HW8.out.2.2.2.2.1) hri).mono ?_; rintro e w9 ⟨⟨n9, rfl⟩, hwr9⟩; have HW9 := Lib.hid (show Wrote w2.heap.size w.heap.size (identTo zs k ++ [92] ++ putF c) wr w9 from ⟨hwr9.1, HW8.out.2.trans hwr9.2⟩)))
            go_roundw
            case rel => exact ⟨k + 1, by omega, by go_num, Lib.hid (by rw [HOUT.out]; exact HW9.out.1.bld), HBUT.out.trans HW9.out.2⟩
            case measure => simp [intOf]; omega
          have h45 : c ≠ 45 := by unfold digitB at hdg; rw [decide_eq_true_iff] at hdg; omega
          have q45 : (c == 45) = false := beq_eq_false_iff_ne.2 h45
          have hone : True := trivial
          have HOUT := Lib.hid (show identTo zs (k + 1) = identTo zs k ++ putF c from by show _ ++ outI zs k _ = _; rw [hcc]; unfold outI; rw [if_neg hc0, if_neg (by simp [hct, hdg, hF, hmk]), if_neg (by simp [hnm, h45, hone])])
          clear hcc
          go_wp2_with (first
          | (go_at_call 37; (with_reducible refine (control_any c _ hch).mono ?_); rintro e wq ⟨rfl, hwq⟩; replace hwq := hwq.symm; subst hwq; rw [hct])
          | (go_at_call 38; (with_reducible refine (digit_any c _ hch).mono ?_); rintro e wq ⟨rfl, hwq⟩; replace hwq := hwq.symm; subst hwq; rw [hdg])
          | (go_at_call 41; (with_reducible refine (name_any c _ hch).mono ?_); rintro e wq ⟨rfl, hwq⟩; replace hwq := hwq.symm; subst hwq; rw [hnm])
          | (go_at_call 36; refine (writeRune_any w2.heap.size w.heap.size _ c _ HBL.out HAL.out HBW.out hri).mono ?_; rintro e w9 ⟨⟨n9, rfl⟩, hwr9⟩; have HW9 := Lib.hid hwr9))
          go_roundw
          case rel => exact ⟨k + 1, by omega, by go_num, Lib.hid (by rw [HOUT.out]; exact HW9.out.1.bld), HBUT.out.trans HW9.out.2⟩
          case measure => simp [intOf]; omega
        case false =>
          cases hnm : nameB c
          case false =>
            have h45 : True := trivial
            have hone : True := trivial
            have HOUT := Lib.hid (show identTo zs (k + 1) = identTo zs k ++ [92] ++ putF c from by show _ ++ outI zs k _ = _; rw [hcc]; unfold outI; rw [if_neg hc0, if_neg (by simp [hct, hdg, hF, hmk]), if_pos (by simp [hnm, h45, hone])]; simp)
            clear hcc
            go_wp2_with (first
            | (go_at_call 37; (with_reducible refine (control_any c _ hch).mono ?_); rintro e wq ⟨rfl, hwq⟩; replace hwq := hwq.symm; subst hwq; rw [hct])
            | (go_at_call 38; (with_reducible refine (digit_any c _ hch).mono ?_); rintro e wq ⟨rfl, hwq⟩; replace hwq := hwq.symm; subst hwq; rw [hdg])
            | (go_at_call 41; (with_reducible refine (name_any c _ hch).mono ?_); rintro e wq ⟨rfl, hwq⟩; replace hwq := hwq.symm; subst hwq; rw [hnm])
            | (go_at_call 42; refine (writeByte_any w2.heap.size w.heap.size _ 92 _ HBL.out HAL.out HBW.out).mono ?_; rintro e w8 ⟨rfl, hwr8⟩; have HW8 := Lib.hid hwr8)
            | (go_at_call 36; refine (writeRune_any w2.heap.size w.heap.size _ c _ HW8.out.1.bld HAL1.out (Nat.le_trans HBW.out HW8.out.2.2.2.2.1) hri).mono ?_; rintro e w9 ⟨⟨n9, rfl⟩, hwr9⟩; have HW9 := Lib.hid (show Wrote w2.heap.size w.heap.size (identTo zs k ++ [92] ++ putF c) wr w9 from ⟨hwr9.1, HW8.out.2.trans hwr9.2⟩)))
            go_roundw
            case rel => exact ⟨k + 1, by omega, by go_num, Lib.hid (by rw [HOUT.out]; exact HW9.out.1.bld), HBUT.out.trans HW9.out.2⟩
            case measure => simp [intOf]; omega
          by_cases h45 : c = 45
          · have hone0 := h45
            by_cases hone : zs.length = 1
            · have qn1 : (n : Int) == 1 := by rw [beq_iff_eq]; have := HN.out; omega
              subst h45
              have h45 : True := trivial
              have HOUT := Lib.hid (show identTo zs (k + 1) = identTo zs k ++ [92] ++ putF 45 from by show _ ++ outI zs k _ = _; rw [hcc]; unfold outI; rw [if_neg hc0, if_neg (by simp [hct, hdg, hF, hmk]), if_pos (by simp [hnm, h45, hone])]; simp)
              clear hcc
              go_wp2_with (first
              | (go_at_call 37; (with_reducible refine (control_any 45 _ hch).mono ?_); rintro e wq ⟨rfl, hwq⟩; replace hwq := hwq.symm; subst hwq; rw [hct])
              | (go_at_call 38; (with_reducible refine (digit_any 45 _ hch).mono ?_); rintro e wq ⟨rfl, hwq⟩; replace hwq := hwq.symm; subst hwq; rw [hdg])
              | (go_at_call 41; (with_reducible refine (name_any 45 _ hch).mono ?_); rintro e wq ⟨rfl, hwq⟩; replace hwq := hwq.symm; subst hwq; rw [hnm])
              | (go_at_call 42; refine (writeByte_any w2.heap.size w.heap.size _ 92 _ HBL.out HAL.out HBW.out).mono ?_; rintro e w8 ⟨rfl, hwr8⟩; have HW8 := Lib.hid hwr8)
              | (go_at_call 36; refine (writeRune_any w2.heap.size w.heap.size _ 45 _ HW8.out.1.bld HAL1.out (Nat.le_trans HBW.out HW8.out.2.2.2.2.1) hri).mono ?_; rintro e w9 ⟨⟨n9, rfl⟩, hwr9⟩; have HW9 := Lib.hid (show Wrote w2.heap.size w.heap.size (identTo zs k ++ [92] ++ putF 45) wr w9 from ⟨hwr9.1, HW8.out.2.trans hwr9.2⟩)))
              go_roundw
              case rel => exact ⟨k + 1, by omega, by go_num, Lib.hid (by rw [HOUT.out]; exact HW9.out.1.bld), HBUT.out.trans HW9.out.2⟩
              case measure => simp [intOf]; omega
            have qn1 : ((n : Int) == 1) = false := beq_eq_false_iff_ne.2 (by have := HN.out; omega)
            subst h45
            have h45 : True := trivial
            have HOUT := Lib.hid (show identTo zs (k + 1) = identTo zs k ++ putF 45 from by show _ ++ outI zs k _ = _; rw [hcc]; unfold outI; rw [if_neg hc0, if_neg (by simp [hct, hdg, hF, hmk]), if_neg (by simp [hnm, h45, hone])])
            clear hcc
            go_wp2_with (first
            | (go_at_call 37; (with_reducible refine (control_any 45 _ hch).mono ?_); rintro e wq ⟨rfl, hwq⟩; replace hwq := hwq.symm; subst hwq; rw [hct])
            | (go_at_call 38; (with_reducible refine (digit_any 45 _ hch).mono ?_); rintro e wq ⟨rfl, hwq⟩; replace hwq := hwq.symm; subst hwq; rw [hdg])
            | (go_at_call 41; (with_reducible refine (name_any 45 _ hch).mono ?_); rintro e wq ⟨rfl, hwq⟩; replace hwq := hwq.symm; subst hwq; rw [hnm])
            | (go_at_call 36; refine (writeRune_any w2.heap.size w.heap.size _ 45 _ HBL.out HAL.out HBW.out hri).mono ?_; rintro e w9 ⟨⟨n9, rfl⟩, hwr9⟩; have HW9 := Lib.hid hwr9))
            go_roundw
            case rel => exact ⟨k + 1, by omega, by go_num, Lib.hid (by rw [HOUT.out]; exact HW9.out.1.bld), HBUT.out.trans HW9.out.2⟩
            case measure => simp [intOf]; omega
          have q45 : (c == 45) = false := beq_eq_false_iff_ne.2 h45
          have hone : True := trivial
          have HOUT := Lib.hid (show identTo zs (k + 1) = identTo zs k ++ putF c from by show _ ++ outI zs k _ = _; rw [hcc]; unfold outI; rw [if_neg hc0, if_neg (by simp [hct, hdg, hF, hmk]), if_neg (by simp [hnm, h45, hone])])
          clear hcc
          go_wp2_with (first
          | (go_at_call 37; (with_reducible refine (control_any c _ hch).mono ?_); rintro e wq ⟨rfl, hwq⟩; replace hwq := hwq.symm; subst hwq; rw [hct])
          | (go_at_call 38; (with_reducible refine (digit_any c _ hch).mono ?_); rintro e wq ⟨rfl, hwq⟩; replace hwq := hwq.symm; subst hwq; rw [hdg])
          | (go_at_call 41; (with_reducible refine (name_any c _ hch).mono ?_); rintro e wq ⟨rfl, hwq⟩; replace hwq := hwq.symm; subst hwq; rw [hnm])
          | (go_at_call 36; refine (writeRune_any w2.heap.size w.heap.size _ c _ HBL.out HAL.out HBW.out hri).mono ?_; rintro e w9 ⟨⟨n9, rfl⟩, hwr9⟩; have HW9 := Lib.hid hwr9))
          go_roundw
          case rel => exact ⟨k + 1, by omega, by go_num, Lib.hid (by rw [HOUT.out]; exact HW9.out.1.bld), HBUT.out.trans HW9.out.2⟩
          case measure => simp [intOf]; omega
      · have hF : firstB zs k = false := by unfold firstB; rw [decide_eq_false (by omega), decide_eq_false (by omega)]; rfl
        have q0 : ((k : Int) == 0) = false := beq_eq_false_iff_ne.2 (by omega)
        have q1 : ((k : Int) == 1) = false := beq_eq_false_iff_ne.2 (by omega)
        clear hl0 h1 hcell0
        by_cases hc0 : c = 0
        · subst hc0
          have HOUT := Lib.hid (show identTo zs (k + 1) = identTo zs k ++ putF 65533 from by show _ ++ outI zs k _ = _; rw [hcc]; simp [outI])
          clear hcc
          go_wp2_with (first
          | (go_at_call 36; refine (writeRune_any w2.heap.size w.heap.size _ 65533 _ HBL.out HAL.out HBW.out (by decide)).mono ?_; rintro e w9 ⟨⟨n9, rfl⟩, hwr9⟩; have HW9 := Lib.hid hwr9))
          go_roundw
          case rel => exact ⟨k + 1, by omega, by go_num, Lib.hid (by rw [HOUT.out]; exact HW9.out.1.bld), HBUT.out.trans HW9.out.2⟩
          case measure => simp [intOf]; omega
        have qc0 : (c == 0) = false := beq_eq_false_iff_ne.2 hc0
        cases hct : controlB c
        case true =>
          have hx := ctl_hexes hct
          have HOUT := Lib.hid (show identTo zs (k + 1) = identTo zs k ++ escF c from by show _ ++ outI zs k _ = _; rw [hcc]; unfold outI; rw [if_neg hc0, if_pos (by simp [hct])])
          clear hcc
          go_wp2_with (first
          | (go_at_call 37; (with_reducible refine (control_any c _ hch).mono ?_); rintro e wq ⟨rfl, hwq⟩; replace hwq := hwq.symm; subst hwq; rw [hct])
          | (go_at_call 38; (with_reducible refine (digit_any c _ hch).mono ?_); rintro e wq ⟨rfl, hwq⟩; replace hwq := hwq.symm; subst hwq; rw [hdg])
          | (go_at_call 41; (with_reducible refine (name_any c _ hch).mono ?_); rintro e wq ⟨rfl, hwq⟩; replace hwq := hwq.symm; subst hwq; rw [hnm])
          | (go_at_call 40; refine (escape_any c _ (hT.later HBT.out HTL.out) hx).mono ?_; rintro e w8 ⟨⟨t8, rfl, ht8, hl8⟩, hb8⟩; have HB8 := Lib.hid (HBL.out.later hb8); have HU8 := Lib.hid (But.of_below (b := w.heap.size) hb8 HBW.out); have HW8 := Lib.hid (Nat.le_trans HBW.out hb8.size); have HT8 := Lib.hid ht8; have HL8 := Lib.hid hl8)
          | (go_at_call 39; refine (writeString_any w2.heap.size w.heap.size _ t8 _ HB8.out HAL.out (Nat.le_trans HL8.out (by omega)) HW8.out).mono ?_; rintro e w9 ⟨⟨n9, rfl⟩, hwr9⟩; have HW9 := Lib.hid (show Wrote w2.heap.size w.heap.size (identTo zs k ++ escF c) wr w9 from by rw [HT8.out] at hwr9; exact ⟨hwr9.1, HU8.out.trans hwr9.2⟩)))
          go_roundw
          case rel => exact ⟨k + 1, by omega, by go_num, Lib.hid (by rw [HOUT.out]; exact HW9.out.1.bld), HBUT.out.trans HW9.out.2⟩
          case measure => simp [intOf]; omega
        by_cases hmk : c = 65279
        · subst hmk
          have hdg : digitB 65279 = false := by decide
          have hx : Hexes 65279 := ⟨by omega, by omega⟩
          have HOUT := Lib.hid (show identTo zs (k + 1) = identTo zs k ++ escF 65279 from by show _ ++ outI zs k _ = _; rw [hcc]; unfold outI; rw [if_neg hc0, if_pos (by simp)])
          clear hcc
          go_wp2_with (first
          | (go_at_call 37; (with_reducible refine (control_any 65279 _ hch).mono ?_); rintro e wq ⟨rfl, hwq⟩; replace hwq := hwq.symm; subst hwq; rw [hct])
          | (go_at_call 38; (with_reducible refine (digit_any 65279 _ hch).mono ?_); rintro e wq ⟨rfl, hwq⟩; replace hwq := hwq.symm; subst hwq; rw [hdg])
          | (go_at_call 41; (with_reducible refine (name_any 65279 _ hch).mono ?_); rintro e wq ⟨rfl, hwq⟩; replace hwq := hwq.symm; subst hwq; rw [hnm])
          | (go_at_call 40; refine (escape_any 65279 _ (hT.later HBT.out HTL.out) hx).mono ?_; rintro e w8 ⟨⟨t8, rfl, ht8, hl8⟩, hb8⟩; have HB8 := Lib.hid (HBL.out.later hb8); have HU8 := Lib.hid (But.of_below (b := w.heap.size) hb8 HBW.out); have HW8 := Lib.hid (Nat.le_trans HBW.out hb8.size); have HT8 := Lib.hid ht8; have HL8 := Lib.hid hl8)
          | (go_at_call 39; refine (writeString_any w2.heap.size w.heap.size _ t8 _ HB8.out HAL.out (Nat.le_trans HL8.out (by omega)) HW8.out).mono ?_; rintro e w9 ⟨⟨n9, rfl⟩, hwr9⟩; have HW9 := Lib.hid (show Wrote w2.heap.size w.heap.size (identTo zs k ++ escF 65279) wr w9 from by rw [HT8.out] at hwr9; exact ⟨hwr9.1, HU8.out.trans hwr9.2⟩)))
          go_roundw
          case rel => exact ⟨k + 1, by omega, by go_num, Lib.hid (by rw [HOUT.out]; exact HW9.out.1.bld), HBUT.out.trans HW9.out.2⟩
          case measure => simp [intOf]; omega
        have qmk : (c == 65279) = false := beq_eq_false_iff_ne.2 hmk
        cases hdg : digitB c
        case true =>
          cases hnm : nameB c
          case false =>
            have h45 : True := trivial
            have hone : True := trivial
            have HOUT := Lib.hid (show identTo zs (k + 1) = identTo zs k ++ [92] ++ putF c from by show _ ++ outI zs k _ = _; rw [hcc]; unfold outI; rw [if_neg hc0, if_neg (by simp [hct, hdg, hF, hmk]), if_pos (by simp [hnm, h45, hone])]; simp)
            clear hcc
            go_wp2_with (first
            | (go_at_call 37; (with_reducible refine (control_any c _ hch).mono ?_); rintro e wq ⟨rfl, hwq⟩; replace hwq := hwq.symm; subst hwq; rw [hct])
            | (go_at_call 38; (with_reducible refine (digit_any c _ hch).mono ?_); rintro e wq ⟨rfl, hwq⟩; replace hwq := hwq.symm; subst hwq; rw [hdg])
            | (go_at_call 41; (with_reducible refine (name_any c _ hch).mono ?_); rintro e wq ⟨rfl, hwq⟩; replace hwq := hwq.symm; subst hwq; rw [hnm])
            | (go_at_call 42; refine (writeByte_any w2.heap.size w.heap.size _ 92 _ HBL.out HAL.out HBW.out).mono ?_; rintro e w8 ⟨rfl, hwr8⟩; have HW8 := Lib.hid hwr8)
            | (go_at_call 36; refine (writeRune_any w2.heap.size w.heap.size _ c _ HW8.out.1.bld HAL1.out (Nat.le_trans HBW.out HW8.out.2.2.2.2.1) hri).mono ?_; rintro e w9 ⟨⟨n9, rfl⟩, hwr9⟩; have HW9 := Lib.hid (show Wrote w2.heap.size w.heap.size (identTo zs k ++ [92] ++ putF c) wr w9 from ⟨hwr9.1, HW8.out.2.trans hwr9.2⟩)))
            go_roundw
            case rel => exact ⟨k + 1, by omega, by go_num, Lib.hid (by rw [HOUT.out]; exact HW9.out.1.bld), HBUT.out.trans HW9.out.2⟩
            case measure => simp [intOf]; omega
          have h45 : c ≠ 45 := by unfold digitB at hdg; rw [decide_eq_true_iff] at hdg; omega
          have q45 : (c == 45) = false := beq_eq_false_iff_ne.2 h45
          have hone : True := trivial
          have HOUT := Lib.hid (show identTo zs (k + 1) = identTo zs k ++ putF c from by show _ ++ outI zs k _ = _; rw [hcc]; unfold outI; rw [if_neg hc0, if_neg (by simp [hct, hdg, hF, hmk]), if_neg (by simp [hnm, h45, hone])])
          clear hcc
          go_wp2_with (first
          | (go_at_call 37; (with_reducible refine (control_any c _ hch).mono ?_); rintro e wq ⟨rfl, hwq⟩; replace hwq := hwq.symm; subst hwq; rw [hct])
          | (go_at_call 38; (with_reducible refine (digit_any c _ hch).mono ?_); rintro e wq ⟨rfl, hwq⟩; replace hwq := hwq.symm; subst hwq; rw [hdg])
          | (go_at_call 41; (with_reducible refine (name_any c _ hch).mono ?_); rintro e wq ⟨rfl, hwq⟩; replace hwq := hwq.symm; subst hwq; rw [hnm])
          | (go_at_call 36; refine (writeRune_any w2.heap.size w.heap.size _ c _ HBL.out HAL.out HBW.out hri).mono ?_; rintro e w9 ⟨⟨n9, rfl⟩, hwr9⟩; have HW9 := Lib.hid hwr9))
          go_roundw
          case rel => exact ⟨k + 1, by omega, by go_num, Lib.hid (by rw [HOUT.out]; exact HW9.out.1.bld), HBUT.out.trans HW9.out.2⟩
          case measure => simp [intOf]; omega
        case false =>
          cases hnm : nameB c
          case false =>
            have h45 : True := trivial
            have hone : True := trivial
            have HOUT := Lib.hid (show identTo zs (k + 1) = identTo zs k ++ [92] ++ putF c from by show _ ++ outI zs k _ = _; rw [hcc]; unfold outI; rw [if_neg hc0, if_neg (by simp [hct, hdg, hF, hmk]), if_pos (by simp [hnm, h45, hone])]; simp)
            clear hcc
            go_wp2_with (first
            | (go_at_call 37; (with_reducible refine (control_any c _ hch).mono ?_); rintro e wq ⟨rfl, hwq⟩; replace hwq := hwq.symm; subst hwq; rw [hct])
            | (go_at_call 38; (with_reducible refine (digit_any c _ hch).mono ?_); rintro e wq ⟨rfl, hwq⟩; replace hwq := hwq.symm; subst hwq; rw [hdg])
            | (go_at_call 41; (with_reducible refine (name_any c _ hch).mono ?_); rintro e wq ⟨rfl, hwq⟩; replace hwq := hwq.symm; subst hwq; rw [hnm])
            | (go_at_call 42; refine (writeByte_any w2.heap.size w.heap.size _ 92 _ HBL.out HAL.out HBW.out).mono ?_; rintro e w8 ⟨rfl, hwr8⟩; have HW8 := Lib.hid hwr8)
            | (go_at_call 36; refine (writeRune_any w2.heap.size w.heap.size _ c _ HW8.out.1.bld HAL1.out (Nat.le_trans HBW.out HW8.out.2.2.2.2.1) hri).mono ?_; rintro e w9 ⟨⟨n9, rfl⟩, hwr9⟩; have HW9 := Lib.hid (show Wrote w2.heap.size w.heap.size (identTo zs k ++ [92] ++ putF c) wr w9 from ⟨hwr9.1, HW8.out.2.trans hwr9.2⟩)))
            go_roundw
            case rel => exact ⟨k + 1, by omega, by go_num, Lib.hid (by rw [HOUT.out]; exact HW9.out.1.bld), HBUT.out.trans HW9.out.2⟩
            case measure => simp [intOf]; omega
          by_cases h45 : c = 45
          · have hone0 := h45
            by_cases hone : zs.length = 1
            · have qn1 : (n : Int) == 1 := by rw [beq_iff_eq]; have := HN.out; omega
              subst h45
              have h45 : True := trivial
              have HOUT := Lib.hid (show identTo zs (k + 1) = identTo zs k ++ [92] ++ putF 45 from by show _ ++ outI zs k _ = _; rw [hcc]; unfold outI; rw [if_neg hc0, if_neg (by simp [hct, hdg, hF, hmk]), if_pos (by simp [hnm, h45, hone])]; simp)
              clear hcc
              go_wp2_with (first
              | (go_at_call 37; (with_reducible refine (control_any 45 _ hch).mono ?_); rintro e wq ⟨rfl, hwq⟩; replace hwq := hwq.symm; subst hwq; rw [hct])
              | (go_at_call 38; (with_reducible refine (digit_any 45 _ hch).mono ?_); rintro e wq ⟨rfl, hwq⟩; replace hwq := hwq.symm; subst hwq; rw [hdg])
              | (go_at_call 41; (with_reducible refine (name_any 45 _ hch).mono ?_); rintro e wq ⟨rfl, hwq⟩; replace hwq := hwq.symm; subst hwq; rw [hnm])
              | (go_at_call 42; refine (writeByte_any w2.heap.size w.heap.size _ 92 _ HBL.out HAL.out HBW.out).mono ?_; rintro e w8 ⟨rfl, hwr8⟩; have HW8 := Lib.hid hwr8)
              | (go_at_call 36; refine (writeRune_any w2.heap.size w.heap.size _ 45 _ HW8.out.1.bld HAL1.out (Nat.le_trans HBW.out HW8.out.2.2.2.2.1) hri).mono ?_; rintro e w9 ⟨⟨n9, rfl⟩, hwr9⟩; have HW9 := Lib.hid (show Wrote w2.heap.size w.heap.size (identTo zs k ++ [92] ++ putF 45) wr w9 from ⟨hwr9.1, HW8.out.2.trans hwr9.2⟩)))
              go_roundw
              case rel => exact ⟨k + 1, by omega, by go_num, Lib.hid (by rw [HOUT.out]; exact HW9.out.1.bld), HBUT.out.trans HW9.out.2⟩
              case measure => simp [intOf]; omega
            have qn1 : ((n : Int) == 1) = false := beq_eq_false_iff_ne.2 (by have := HN.out; omega)
            subst h45
            have h45 : True := trivial
            have HOUT := Lib.hid (show identTo zs (k + 1) = identTo zs k ++ putF 45 from by show _ ++ outI zs k _ = _; rw [hcc]; unfold outI; rw [if_neg hc0, if_neg (by simp [hct, hdg, hF, hmk]), if_neg (by simp [hnm, h45, hone])])
            clear hcc
            go_wp2_with (first
            | (go_at_call 37; (with_reducible refine (control_any 45 _ hch).mono ?_); rintro e wq ⟨rfl, hwq⟩; replace hwq := hwq.symm; subst hwq; rw [hct])
            | (go_at_call 38; (with_reducible refine (digit_any 45 _ hch).mono ?_); rintro e wq ⟨rfl, hwq⟩; replace hwq := hwq.symm; subst hwq; rw [hdg])
            | (go_at_call 41; (with_reducible refine (name_any 45 _ hch).mono ?_); rintro e wq ⟨rfl, hwq⟩; replace hwq := hwq.symm; subst hwq; rw [hnm])
            | (go_at_call 36; refine (writeRune_any w2.heap.size w.heap.size _ 45 _ HBL.out HAL.out HBW.out hri).mono ?_; rintro e w9 ⟨⟨n9, rfl⟩, hwr9⟩; have HW9 := Lib.hid hwr9))
            go_roundw
            case rel => exact ⟨k + 1, by omega, by go_num, Lib.hid (by rw [HOUT.out]; exact HW9.out.1.bld), HBUT.out.trans HW9.out.2⟩
            case measure => simp [intOf]; omega
          have q45 : (c == 45) = false := beq_eq_false_iff_ne.2 h45
          have hone : True := trivial
          have HOUT := Lib.hid (show identTo zs (k + 1) = identTo zs k ++ putF c from by show _ ++ outI zs k _ = _; rw [hcc]; unfold outI; rw [if_neg hc0, if_neg (by simp [hct, hdg, hF, hmk]), if_neg (by simp [hnm, h45, hone])])
          clear hcc
          go_wp2_with (first
          | (go_at_call 37; (with_reducible refine (control_any c _ hch).mono ?_); rintro e wq ⟨rfl, hwq⟩; replace hwq := hwq.symm; subst hwq; rw [hct])
          | (go_at_call 38; (with_reducible refine (digit_any c _ hch).mono ?_); rintro e wq ⟨rfl, hwq⟩; replace hwq := hwq.symm; subst hwq; rw [hdg])
          | (go_at_call 41; (with_reducible refine (name_any c _ hch).mono ?_); rintro e wq ⟨rfl, hwq⟩; replace hwq := hwq.symm; subst hwq; rw [hnm])
          | (go_at_call 36; refine (writeRune_any w2.heap.size w.heap.size _ c _ HBL.out HAL.out HBW.out hri).mono ?_; rintro e w9 ⟨⟨n9, rfl⟩, hwr9⟩; have HW9 := Lib.hid hwr9))
          go_roundw
          case rel => exact ⟨k + 1, by omega, by go_num, Lib.hid (by rw [HOUT.out]; exact HW9.out.1.bld), HBUT.out.trans HW9.out.2⟩
          case measure => simp [intOf]; omega
    · obtain rfl : k = n := by omega
      have hid : identF zs = identTo zs k := by unfold identF; rw [HN.out]
      have HID := Lib.hid hid
      have HU := Lib.hid (identTo_ok zs HZR.out k (by rw [HN.out]; exact Nat.le_refl _)).1
      have HB := Lib.hid (show Below w.heap.size w wr from HBW2.out.trans (hbut.below (Nat.le_of_lt hbS) (Nat.le_refl _)))
      clear hbut hid
      go_wp2_with fail
      refine (bstring_any _ _ _ _ HBL.out HU.out (Nat.le_of_lt hbS)).mono ?_
      rintro e w9 ⟨rfl, hb9⟩
      go_wp2
      go_ret
      exact ⟨by rw [HID.out]; rfl, HB.out.trans hb9⟩
end Go.Proofs.YtkpjkeplbjkigaaDoor
