/- Texts of mine in one: Rc. -/
import Derived.Test.YtelbjnanpmdnnaaQ44
import Derived.Test.YtelbjnanpmdnnaaQ17
namespace Go.Proofs.Ytelbjnanpmdnnaa
section
open Go.RowKit Go.Shelf
set_option linter.unusedVariables false
set_option linter.unusedSimpArgs false
theorem map_u8_inj : ∀ {xs ys : List Int}, U8 xs → U8 ys → xs.map u8 = ys.map u8 → xs = ys
  | [], [], _, _, _ => rfl
  | [], y :: ys, _, _, h => by simp at h
  | x :: xs, [], _, _, h => by simp at h
  | x :: xs, y :: ys, hx, hy, h => by
    rw [List.map_cons, List.map_cons, List.cons.injEq] at h
    have h1 := map_u8_inj (fun z hz => hx z (List.mem_cons_of_mem _ hz)) (fun z hz => hy z (List.mem_cons_of_mem _ hz)) h.2
    obtain ⟨a0, a1⟩ := hx x (List.mem_cons_self ..)
    obtain ⟨b0, b1⟩ := hy y (List.mem_cons_self ..)
    have h2 := congrArg UInt8.toNat h.1
    unfold u8 at h2
    rw [UInt8.toNat_ofNat', UInt8.toNat_ofNat'] at h2
    rw [h1, show x = y by omega]
theorem low_url (zs : List Int) (h : U8 zs) : ((lowS (strOfNums zs)).toList == [117, 114, 108]) = urlName zs := by
  have hl : lowL (strB (strOfNums zs)) = zs.map smallF := lowL_nums h
  have hu : U8 (zs.map smallF) := by
    intro c hc
    obtain ⟨z, hz, rfl⟩ := List.mem_map.1 hc
    have := h z hz
    unfold smallF; split <;> omega
  unfold lowS urlName
  rw [hl, ByteArray.toList_eq, Bool.eq_iff_iff, beq_iff_eq, decide_eq_true_eq]
  constructor
  · intro e
    refine map_u8_inj hu (fun z hz => ?_) e
    simp at hz; omega
  · intro e
    rw [e]; rfl
set_option maxRecDepth 100000 in
set_option maxHeartbeats 8000000 in
theorem rcalled_paren {a : Option Addr} {n cap : Nat} {l : List Int} {w : World} (i : Int) (k : Nat) (h : Src w a n cap l) (hi : i = (k : Int)) (hk : k < n) (h40 : isB l (namesF l k).2 40 = true) :
    Calls Try.prog 55 #[.slice a n cap, .int .i64 i] w (Told (tkV (calledF l k)) w) := by
  subst hi
  have hsm := h.small
  have HL := Lib.hid h.len
  have hC : Hid (calledF l k = if urlName (bytesF (namesF l k).1) && !isB l (spacesF l ((namesF l k).2 + 1)) 34 && !isB l (spacesF l ((namesF l k).2 + 1)) 39 then urlF l k (spacesF l ((namesF l k).2 + 1)) else ⟨2, k, (namesF l k).2 + 1, bytesF (namesF l k).1, [], false⟩) := Lib.hid (by
    unfold calledF
    rw [if_neg (show ¬ ((!isB l (namesF l k).2 40) = true) from by rw [h40]; decide)])
  generalize calledF l k = R at *
  have hto := (namesF_le l k).2 (by rw [HL.out]; omega)
  rw [HL.out] at hto
  have hnl := namesF_len l k
  have hbl := bytesF_len (namesF l k).1
  have hsz : (strOfNums (bytesF (namesF l k).1)).size ≤ 1000000 := by rw [strOfNums_size]; omega
  have hlow := low_url (bytesF (namesF l k).1) (textF_u8 _)
  have cSm := fun w => rlower_any (strOfNums (bytesF (namesF l k).1)) w hsz
  generalize hW0 : w.alloc (.cells zeroTkR.toArray 52) = W0
  have hb0 : Below w.heap.size w W0 := by rw [← hW0]; exact (Below.refl _ w).alloc (Nat.le_refl _) _
  have HB0 := Lib.hid (show Blk W0 w.heap.size zeroTkR 52 from by rw [← hW0]; exact Blk.alloc _ _)
  have cN := rnames_any (k : Int) k (h.later hb0) rfl (by omega)
  have HP := Lib.hid h
  have HW0 := Lib.hid hW0
  have HBz := Lib.hid hb0
  have hmn : (namesF l k).2 < n := by have := lt_of_isB h40 (by decide); rw [HL.out] at this; exact this
  clear h hsz hnl hbl hW0 hb0
  generalize hto' : (namesF l k).2 = m at *
  generalize bytesF (namesF l k).1 = txt at *
  clear hto' hto
  go_enter Try.func55, Try.ntmps55
  go_wp2_with fail
  rw [show w.alloc (Obj.cells #[.int .i64 0, .int .i64 0, .int .i64 0, .string ⟨#[]⟩, .string ⟨#[]⟩, .bool false] 52) = W0 from HW0.out]
  refine cN.mono ?_
  rintro e w1 ⟨rfl, hb1⟩
  have hB1 := HB0.out.later hb1 HB0.out.lt
  have hbl1 := HBz.out.trans (hb1.mono HBz.out.size)
  have HBL := Lib.hid hbl1
  have HB := Lib.hid hB1
  have hS := Lib.hid (HP.out.later hbl1)
  have f1 := ris_any (m : Int) m 40 hS.out rfl (by decide)
  rw [h40] at f1
  clear cN hb1 hbl1 hB1
  have HSle := Lib.hid (spacesF_le l (m + 1) (by rw [HL.out]; omega))
  have HSge := Lib.hid (spacesGo_le l (l.length + 1) (m + 1)).1
  generalize hT : spacesF l (m + 1) = s at *
  have HT0 := hT
  unfold spacesF at HT0
  rw [HL.out] at HT0
  have HT := Lib.hid HT0
  have hjs : m + 1 ≤ s := by have := HSge.out; rw [← hT]; exact this
  have hsn : s ≤ n := by have := HSle.out; rw [HL.out] at this; exact this
  clear HT0 hT HSle HSge h40
  go_wp2_with (go_at_call 53; (with_reducible refine f1.mono ?_); rintro e wq ⟨rfl, hwq⟩; replace hwq := hwq.symm; subst hwq)
  clear f1
  go_loopw [7] (fun v wx => ∃ (f q : Nat), v = .int .i64 q ∧ Hid (spacesGo f l q = s) ∧ n < q + f ∧ q ≤ n ∧ wx = w1) (fun v _ => n - (intOf v).toNat)
  case atStart => exact ⟨n + 1, m + 1, by go_num, HT, by omega, by omega, by first | rfl | trivial⟩
  case round =>
    obtain ⟨f, q, rfl, hG2, hf, hq, rfl⟩ := hrel
    have g0 := rspaceAt (q : Int) q hS.out rfl
    rcases hd : spB l q with _ | _
    · have hE : s = q := by rw [← hG2.out]; exact spacesGo_stop f hd
      subst hE
      rw [hd] at g0
      clear hG2 hd HT
      have f3 := fun w' hb => ris_any (s : Int) s 34 (Src.later (w := wr) (w' := w') hS.out hb) rfl (by decide)
      have f4 := fun w' hb => ris_any (s : Int) s 39 (Src.later (w := wr) (w' := w') hS.out hb) rfl (by decide)
      have cU := fun w' hb => rurl_any (k : Int) (s : Int) k s (Src.later (w := wr) (w' := w') hS.out hb) rfl rfl hsn
      generalize isB l s 34 = p at *
      generalize isB l s 39 = q' at *
      rw [show (urlName txt && !p && !q') = (urlName txt && !p && !q') from rfl] at hC
      have hC2 := hC.out
      have HC2 := Lib.hid hC2
      clear hC hC2
      generalize urlName txt = u at *
      by_cases hu : (u && !p && !q') = true
      · have e := HC2.out
        rw [if_pos hu] at e
        simp only [Bool.and_eq_true, Bool.not_eq_true'] at hu
        obtain ⟨⟨rfl, rfl⟩, rfl⟩ := hu
        rw [← e] at cU
        clear e HC2
        go_wp2_with (first
          | (go_at_call 49; (with_reducible refine g0.mono ?_); rintro e wq ⟨rfl, hwq⟩; replace hwq := hwq.symm; subst hwq)
          | (go_at_call 53; first | ((with_reducible refine (f3 _ hb2).mono ?_); rintro e w' ⟨rfl, hwq⟩; replace hwq := hwq.symm; subst hwq) | ((with_reducible refine (f4 _ hb2).mono ?_); rintro e w' ⟨rfl, hwq⟩; replace hwq := hwq.symm; subst hwq))
          | (go_at_call 37; (with_reducible refine (cSm _).mono ?_); rintro e w2 ⟨rfl, hb2⟩))
        refine (cU _ hb2).mono ?_
        rintro e w3 ⟨rfl, hb3⟩
        have hB3 := (HB.out.later hb2 HB.out.lt).later hb3 (HB.out.later hb2 HB.out.lt).lt
        have hbl3 := HBL.out.trans ((below_trans hb2 hb3).mono HBL.out.size)
        have r0 := hB3.cell 0 _ rfl
        have r1 := hB3.cell 1 _ rfl
        have r2 := hB3.cell 2 _ rfl
        have r3 := hB3.cell 3 _ rfl
        have r4 := hB3.cell 4 _ rfl
        have r5 := hB3.cell 5 _ rfl
        have q0 := hB3.frozen 0
        have q1 := hB3.frozen 1
        have q2 := hB3.frozen 2
        have q3 := hB3.frozen 3
        have q4 := hB3.frozen 4
        have q5 := hB3.frozen 5
        clear cU hb3
        obtain ⟨kd, fr, to_, tx, nm, wh⟩ := R
        unfold tkV tkCells
        go_wp2
        refine bodyPost_ret (v := tkV ⟨kd, fr, to_, tx, nm, wh⟩) (by simp [results, Try.results55, go_sem, tkV, tkCells, r0, r1, r2, r3, r4, r5]) rfl ⟨rfl, ?_⟩
        exact below_set6R hbl3 (Nat.le_refl _) _ _ _ _ _ _
      · have e := HC2.out
        rw [if_neg hu] at e
        have he := Lib.hid e
        clear e HC2 cU
        have key : (u = false) ∨ (u = true ∧ p = true) ∨ (u = true ∧ p = false ∧ q' = true) := by
          revert hu; cases u <;> cases p <;> cases q' <;> simp
        clear hu
        rcases key with rfl | ⟨rfl, rfl⟩ | ⟨rfl, rfl, rfl⟩
        all_goals
          go_wp2_with (first
            | (go_at_call 49; (with_reducible refine g0.mono ?_); rintro e wq ⟨rfl, hwq⟩; replace hwq := hwq.symm; subst hwq)
            | (go_at_call 53; first | ((with_reducible refine (f3 _ hb2).mono ?_); rintro e w' ⟨rfl, hwq⟩; replace hwq := hwq.symm; subst hwq) | ((with_reducible refine (f4 _ hb2).mono ?_); rintro e w' ⟨rfl, hwq⟩; replace hwq := hwq.symm; subst hwq))
            | (go_at_call 37; (with_reducible refine (cSm _).mono ?_); rintro e w2 ⟨rfl, hb2⟩; have hB3 := HB.out.later hb2 HB.out.lt; have hbl3 := HBL.out.trans (hb2.mono HBL.out.size); have r0 := hB3.cell 0 _ rfl; have r1 := hB3.cell 1 _ rfl; have r2 := hB3.cell 2 _ rfl; have r3 := hB3.cell 3 _ rfl; have r4 := hB3.cell 4 _ rfl; have r5 := hB3.cell 5 _ rfl; have q0 := hB3.frozen 0; have q1 := hB3.frozen 1; have q2 := hB3.frozen 2; have q3 := hB3.frozen 3; have q4 := hB3.frozen 4; have q5 := hB3.frozen 5))
          refine bodyPost_ret (v := .agg #[.int .i64 2, .int .i64 k, .int .i64 (m + 1 : Nat), .string (strOfNums txt), .string ⟨#[]⟩, .bool false]) (by simp [results, Try.results55, go_sem, r0, r1, r2, r3, r4, r5]) rfl ⟨by rw [he.out]; rfl, ?_⟩
          exact below_set6R hbl3 (Nat.le_refl _) _ _ _ _ _ _
    · have hqn : q < n := by have := lt_of_spB hd; rw [HL.out] at this; exact this
      obtain ⟨f, rfl⟩ : ∃ g, f = g + 1 := ⟨f - 1, by omega⟩
      have hG3 : Hid (spacesGo f l (q + 1) = s) := Lib.hid (by rw [← hG2.out]; conv => rhs; rw [spacesGo, if_pos hd])
      rw [hd] at g0
      clear hG2 hd
      go_wp2_with fail
      refine g0.mono ?_
      rintro e wq ⟨rfl, hwq⟩; replace hwq := hwq.symm; subst hwq
      go_wp2
      go_roundw
      case rel => exact ⟨f, q + 1, by go_num, hG3, by omega, by omega, by first | rfl | trivial⟩
      case measure => simp [intOf]; omega
theorem rcalled_any {b off n cap : Nat} {l : List Int} {w : World} (i : Int) (k : Nat) (h : Src w (some ⟨b, off, none⟩) n cap l) (hi : i = (k : Int)) (hk : k < n) :
    Calls Try.prog 55 #[.slice (some ⟨b, off, none⟩) n cap, .int .i64 i] w (Told (tkV (calledF l k)) w) := by
  rcases h40 : isB l (namesF l k).2 40 with _ | _
  · exact rcalled_ident i k h hi hk h40
  · exact rcalled_paren i k h hi hk h40
end
end Go.Proofs.Ytelbjnanpmdnnaa
