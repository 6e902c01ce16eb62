/- Tokens, the program's side: a token that begins with a name: a walk. -/
import Derived.Test.YtoepldjjoeidoaaDoorTnc
namespace Go.Proofs.YtoepldjjoeidoaaDoor
open Go.RowKit Go.Shelf
set_option linter.unusedVariables false
set_option linter.unusedSimpArgs false

theorem namesGo_len (l : List Int) : ∀ (f j : Nat) (out : List Int), (namesGo f l j out).1.length + j ≤ out.length + (namesGo f l j out).2
  | 0, j, out => Nat.le_refl _
  | f + 1, j, out => by
    rw [namesGo]
    by_cases h : nmB l j = true
    · rw [if_pos h]
      have := namesGo_len l f (j + 1) (out ++ [chA l j])
      rw [List.length_append] at this
      simp at this; omega
    · rw [if_neg h]
      by_cases he : escB l j = true
      · rw [if_pos he]
        have := namesGo_len l f (valueF l j).2 (out ++ [(valueF l j).1])
        have hv := (valueF_bd (lt_of_escB he)).1
        rw [List.length_append] at this
        simp at this; omega
      · rw [if_neg he]; exact Nat.le_refl _
theorem namesF_len (l : List Int) (j : Nat) : (namesF l j).1.length ≤ (namesF l j).2 := by
  have := namesGo_len l (l.length + 1) j []
  have h2 : (namesF l j).1.length + j ≤ ([] : List Int).length + (namesF l j).2 := this
  simp at h2; omega
theorem bytesF_len (zs : List Int) : (bytesF zs).length ≤ 4 * zs.length := by
  unfold bytesF
  have := textF_len (zs.map cleanF)
  rwa [List.length_map] at this
theorem strB_nums (zs : List Int) : strB (strOfNums zs) = zs.map u8 := rfl
theorem lowL_nums {zs : List Int} (h : U8 zs) : lowL (strB (strOfNums zs)) = zs.map smallF := by
  unfold lowL
  rw [strB_nums, List.map_map]
  apply List.map_congr_left
  intro z hz
  obtain ⟨h0, h1⟩ := h z hz
  show smallF ((UInt8.ofNat z.toNat).toNat : Int) = smallF z
  rw [UInt8.toNat_ofNat']
  congr 1
  omega
theorem same_url (zs : List Int) (h : U8 zs) : sameB (strOfNums zs) ⟨#[117, 114, 108]⟩ = urlName zs := by
  unfold sameB urlName
  rw [lowL_nums h]; rfl

set_option maxRecDepth 100000 in
set_option maxHeartbeats 4000000 in
theorem named_any {a : Option Addr} {n cap : Nat} {l : List Int} {w : World} (i : Int) (k : Nat) (h : Src w a n cap l) (hM : MxW w) (hi : i = (k : Int)) (hk : k < n) :
    Calls Tryd.prog 49 #[.slice a n cap, .int .i64 i] w (Told (tkV (tkZ (calledF l k))) w) := by
  subst hi
  have hsm := h.small
  have HL := Lib.hid h.len
  have hC : Hid (tkZ (calledF l k) = if !isB l (namesF l k).2 40 then ⟨1, 0, (namesF l k).2, bytesF (namesF l k).1, [], false⟩
      else if urlName (bytesF (namesF l k).1) && !isB l (spacesF l ((namesF l k).2 + 1)) 34 && !isB l (spacesF l ((namesF l k).2 + 1)) 39 then urlS l (spacesF l ((namesF l k).2 + 1)) []
      else ⟨2, 0, (namesF l k).2 + 1, bytesF (namesF l k).1, [], false⟩) := Lib.hid (by
    unfold calledF
    split
    · rfl
    · split
      · exact urlGo_frm l k _ _ _
      · rfl)
  generalize tkZ (calledF l k) = R at *
  have hto := (namesF_le l k).2 (by rw [HL.out]; omega)
  rw [HL.out] at hto
  have hnl := namesF_len l k
  have hbl := bytesF_len (namesF l k).1
  have hsz : (strOfNums (bytesF (namesF l k).1)).size ≤ 1000000 := by rw [strOfNums_size]; omega
  have hsame := same_url (bytesF (namesF l k).1) (textF_u8 _)
  have cSm := fun w => same_any (strOfNums (bytesF (namesF l k).1)) ⟨#[117, 114, 108]⟩ w hsz
  rw [hsame] at cSm
  generalize hW0 : w.alloc (.cells zeroTk.toArray 33) = W0
  have hb0 : Below w.heap.size w W0 := by rw [← hW0]; exact (Below.refl _ w).alloc (Nat.le_refl _) _
  have HB0 := Lib.hid (show Blk W0 w.heap.size zeroTk 33 from by rw [← hW0]; exact Blk.alloc _ _)
  have cN := readName_any (k : Int) k (h.later hb0) (hM.later hb0) rfl (by omega)
  have HP := Lib.hid h
  have HM := Lib.hid hM
  have HW0 := Lib.hid hW0
  have HBz := Lib.hid hb0
  clear h hM hsame hsz hnl hbl hW0 hb0
  generalize hto' : (namesF l k).2 = m at *
  generalize bytesF (namesF l k).1 = txt at *
  clear hto'
  go_enter Tryd.func49, Tryd.ntmps49
  go_wp2_with fail
  rw [show w.alloc (Obj.cells #[.int .i64 0, .int .i64 0, .int .i64 0, .string ⟨#[]⟩, .string ⟨#[]⟩, .bool false] 33) = W0 from HW0.out]
  refine cN.mono ?_
  rintro e w1 ⟨rfl, hb1⟩
  have hB1 := HB0.out.later hb1 HB0.out.lt
  have hbl1 := HBz.out.trans (hb1.mono HBz.out.size)
  have HBL := Lib.hid hbl1
  have HB := Lib.hid hB1
  have hS := Lib.hid (HP.out.later hbl1)
  have f1 := stands_any (m : Int) m 40 hS.out rfl (by decide)
  clear cN hb1 hbl1
  rcases h40 : isB l m 40 with _ | _
  · rw [h40] at f1
    have e := Lib.hid (show (⟨1, 0, m, txt, [], false⟩ : Tk) = R from by rw [hC.out, if_pos (by rw [h40]; rfl)])
    have r0 := hB1.cell 0 _ rfl
    have r1 := hB1.cell 1 _ rfl
    have r2 := hB1.cell 2 _ rfl
    have r3 := hB1.cell 3 _ rfl
    have r4 := hB1.cell 4 _ rfl
    have r5 := hB1.cell 5 _ rfl
    have q0 := hB1.frozen 0
    have q1 := hB1.frozen 1
    have q2 := hB1.frozen 2
    have q3 := hB1.frozen 3
    have q4 := hB1.frozen 4
    have q5 := hB1.frozen 5
    clear h40 cSm hC
    go_wp2_with (go_at_call 53; (with_reducible refine f1.mono ?_); rintro e w' ⟨rfl, rfl⟩)
    refine bodyPost_ret (v := .agg #[.int .i64 1, .int .i64 0, .int .i64 (m : Nat), .string (strOfNums txt), .string ⟨#[]⟩, .bool false]) (by simp [results, Tryd.results49, go_sem, r0, r1, r2, r3, r4, r5]) rfl ⟨by rw [← e.out]; rfl, ?_⟩
    exact below_set6 HBL.out (Nat.le_refl _) _ _ _ _ _ _
  · rw [h40] at f1
    have hmn : m < n := by have := lt_of_isB h40 (by decide); rw [HL.out] at this; exact this
    have hs2 := spacesF_le l (m + 1) (by rw [HL.out]; omega)
    rw [HL.out] at hs2
    have f2 := passBlanks_any ((m : Int) + 1) (m + 1) hS.out (by omega) (by omega)
    have f3 := stands_any ((spacesF l (m + 1) : Nat) : Int) (spacesF l (m + 1)) 34 hS.out rfl (by decide)
    have f4 := stands_any ((spacesF l (m + 1) : Nat) : Int) (spacesF l (m + 1)) 39 hS.out rfl (by decide)
    have hC2 := Lib.hid (show (if urlName txt && !isB l (spacesF l (m + 1)) 34 && !isB l (spacesF l (m + 1)) 39 then urlS l (spacesF l (m + 1)) [] else (⟨2, 0, m + 1, txt, [], false⟩ : Tk)) = R from by rw [hC.out, if_neg (show ¬ ((!isB l m 40) = true) from by rw [h40]; decide)])
    clear h40 hC
    generalize spacesF l (m + 1) = s at *
    generalize urlName txt = u at *
    generalize isB l s 34 = p at *
    generalize isB l s 39 = q at *
    by_cases hu : (u && !p && !q) = true
    · have e := hC2.out
      rw [if_pos hu] at e
      have hub := Lib.hid e
      simp only [Bool.and_eq_true, Bool.not_eq_true'] at hu
      obtain ⟨⟨rfl, rfl⟩, rfl⟩ := hu
      have cU := fun w' hb => urlC_any ((s : Nat) : Int) s (Src.later (w := w1) (w' := w') hS.out hb) ((HM.out.later HBL.out).later hb) rfl hs2
      rw [hub.out] at cU
      clear e hC2
      go_wp2_with (first
        | (go_at_call 53; first | ((with_reducible refine f1.mono ?_); rintro e w' ⟨rfl, rfl⟩) | ((with_reducible refine f3.mono ?_); rintro e w' ⟨rfl, rfl⟩) | ((with_reducible refine f4.mono ?_); rintro e w' ⟨rfl, rfl⟩))
        | (go_at_call 44; (with_reducible refine f2.mono ?_); rintro e w' ⟨rfl, rfl⟩)
        | (go_at_call 63; (with_reducible refine (cSm _).mono ?_); rintro e w2 ⟨rfl, hb2⟩))
      refine (cU _ hb2).mono ?_
      rintro e w3 ⟨rfl, hb3⟩
      have hB3 := (HB.out.later hb2 HB.out.lt).later hb3 (HB.out.later hb2 HB.out.lt).lt
      have hbl3 := HBL.out.trans ((below_trans hb2 hb3).mono HBL.out.size)
      have r0 := hB3.cell 0 _ rfl
      have r1 := hB3.cell 1 _ rfl
      have r2 := hB3.cell 2 _ rfl
      have r3 := hB3.cell 3 _ rfl
      have r4 := hB3.cell 4 _ rfl
      have r5 := hB3.cell 5 _ rfl
      have q0 := hB3.frozen 0
      have q1 := hB3.frozen 1
      have q2 := hB3.frozen 2
      have q3 := hB3.frozen 3
      have q4 := hB3.frozen 4
      have q5 := hB3.frozen 5
      clear cU hb3
      obtain ⟨kd, fr, to_, tx, nm, wh⟩ := R
      unfold tkV tkCells
      go_wp2
      refine bodyPost_ret (v := tkV ⟨kd, fr, to_, tx, nm, wh⟩) (by simp [results, Tryd.results49, go_sem, tkV, tkCells, r0, r1, r2, r3, r4, r5]) rfl ⟨rfl, ?_⟩
      exact below_set6 hbl3 (Nat.le_refl _) _ _ _ _ _ _
    · have e := hC2.out
      rw [if_neg hu] at e
      have he := Lib.hid e
      clear e hC2
      have key : (u = false) ∨ (u = true ∧ p = true) ∨ (u = true ∧ p = false ∧ q = true) := by
        revert hu; cases u <;> cases p <;> cases q <;> simp
      clear hu
      rcases key with rfl | ⟨rfl, rfl⟩ | ⟨rfl, rfl, rfl⟩
      · cases p
        all_goals
          go_wp2_with (first
            | (go_at_call 53; first | ((with_reducible refine f1.mono ?_); rintro e w' ⟨rfl, rfl⟩) | ((with_reducible refine f3.mono ?_); rintro e w' ⟨rfl, rfl⟩) | ((with_reducible refine f4.mono ?_); rintro e w' ⟨rfl, rfl⟩))
            | (go_at_call 44; (with_reducible refine f2.mono ?_); rintro e w' ⟨rfl, rfl⟩)
            | (go_at_call 63; (with_reducible refine (cSm _).mono ?_); rintro e w2 ⟨rfl, hb2⟩; have hB3 := HB.out.later hb2 HB.out.lt; have hbl3 := HBL.out.trans (hb2.mono HBL.out.size); have r0 := hB3.cell 0 _ rfl; have r1 := hB3.cell 1 _ rfl; have r2 := hB3.cell 2 _ rfl; have r3 := hB3.cell 3 _ rfl; have r4 := hB3.cell 4 _ rfl; have r5 := hB3.cell 5 _ rfl; have q0 := hB3.frozen 0; have q1 := hB3.frozen 1; have q2 := hB3.frozen 2; have q3 := hB3.frozen 3; have q4 := hB3.frozen 4; have q5 := hB3.frozen 5))
          refine bodyPost_ret (v := .agg #[.int .i64 2, .int .i64 0, .int .i64 (m + 1 : Nat), .string (strOfNums txt), .string ⟨#[]⟩, .bool false]) (by simp [results, Tryd.results49, go_sem, r0, r1, r2, r3, r4, r5]) rfl ⟨by rw [← he.out]; rfl, ?_⟩
          exact below_set6 hbl3 (Nat.le_refl _) _ _ _ _ _ _
      all_goals
        go_wp2_with (first
          | (go_at_call 53; first | ((with_reducible refine f1.mono ?_); rintro e w' ⟨rfl, rfl⟩) | ((with_reducible refine f3.mono ?_); rintro e w' ⟨rfl, rfl⟩) | ((with_reducible refine f4.mono ?_); rintro e w' ⟨rfl, rfl⟩))
          | (go_at_call 44; (with_reducible refine f2.mono ?_); rintro e w' ⟨rfl, rfl⟩)
          | (go_at_call 63; (with_reducible refine (cSm _).mono ?_); rintro e w2 ⟨rfl, hb2⟩; have hB3 := HB.out.later hb2 HB.out.lt; have hbl3 := HBL.out.trans (hb2.mono HBL.out.size); have r0 := hB3.cell 0 _ rfl; have r1 := hB3.cell 1 _ rfl; have r2 := hB3.cell 2 _ rfl; have r3 := hB3.cell 3 _ rfl; have r4 := hB3.cell 4 _ rfl; have r5 := hB3.cell 5 _ rfl; have q0 := hB3.frozen 0; have q1 := hB3.frozen 1; have q2 := hB3.frozen 2; have q3 := hB3.frozen 3; have q4 := hB3.frozen 4; have q5 := hB3.frozen 5))
        refine bodyPost_ret (v := .agg #[.int .i64 2, .int .i64 0, .int .i64 (m + 1 : Nat), .string (strOfNums txt), .string ⟨#[]⟩, .bool false]) (by simp [results, Tryd.results49, go_sem, r0, r1, r2, r3, r4, r5]) rfl ⟨by rw [← he.out]; rfl, ?_⟩
        exact below_set6 hbl3 (Nat.le_refl _) _ _ _ _ _ _
end Go.Proofs.YtoepldjjoeidoaaDoor
