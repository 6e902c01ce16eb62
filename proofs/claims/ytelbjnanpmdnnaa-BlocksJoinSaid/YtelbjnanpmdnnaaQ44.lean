/- Texts of mine in one: Ru. -/
import Derived.Test.YtelbjnanpmdnnaaQ43
import Derived.Test.YtelbjnanpmdnnaaQ17
namespace Go.Proofs.Ytelbjnanpmdnnaa
section
open Go.RowKit
set_option linter.unusedVariables false
set_option linter.unusedSimpArgs false
theorem restGo_tk (l : List Int) (frm : Nat) : ∀ (f i : Nat), restGo f l frm i = tkFrm (restGo f l 0 i) frm
  | 0, i => rfl
  | f + 1, i => by
    rw [restGo, restGo]
    split
    · rfl
    · split
      · rfl
      · split
        · exact restGo_tk l frm f _
        · exact restGo_tk l frm f _
theorem restF_tk (l : List Int) (frm i : Nat) : restF l frm i = tkFrm (restF l 0 i) frm := restGo_tk l frm _ _
theorem urlGo_tk (l : List Int) (frm : Nat) : ∀ (f i : Nat) (out : List Int), urlGo f l frm i out = tkFrm (urlGo f l 0 i out) frm
  | 0, i, out => rfl
  | f + 1, i, out => by
    rw [urlGo, urlGo]
    split
    · rfl
    · split
      · rfl
      · split
        · exact restF_tk l frm _
        · split
          · exact restF_tk l frm _
          · split
            · exact urlGo_tk l frm f _ _
            · exact urlGo_tk l frm f _ _
theorem urlF_tk (l : List Int) (frm i : Nat) : urlF l frm i = tkFrm (urlS l i []) frm := urlGo_tk l frm _ _ _
set_option maxRecDepth 100000 in
set_option maxHeartbeats 8000000 in
theorem rurl_any {a : Option Addr} {n cap : Nat} {l : List Int} {w : World} (fr i : Int) (frm k : Nat) (h : Src w a n cap l) (hf : fr = (frm : Int)) (hi : i = (k : Int)) (hk : k ≤ n) :
    Calls Try.prog 75 #[.slice a n cap, .int .i64 fr, .int .i64 i] w (Told (tkV (urlF l frm k)) w) := by
  subst hi
  subst hf
  obtain ⟨i0, hi, hz0, hz1, hz2⟩ := info_parts Try.info3
  have hsm := h.small
  have HL := Lib.hid h.len
  have HN := Lib.hid (urlF_tk l frm k)
  generalize urlF l frm k = T at HN ⊢
  generalize hR : urlS l k [] = R at HN
  have HR := Lib.hid hR
  have HP := Lib.hid h
  clear h hR
  have own0 := World.ownsRow_made (base := w.heap.size + 1) (e := 3) (size := 1) (w.alloc (.cells zeroTkR.toArray 52)) #[] 0 (by simp) (by simp [maxLen]) (by simp)
  have own1 : ((w.alloc (.cells zeroTkR.toArray 52)).alloc (.cells #[] 3)).ownsRow (w.heap.size + 1) 3 1 (.slice (some ⟨w.heap.size + 1, 0, none⟩) 0 0) 0 [] := by simpa using own0
  have HO := Lib.hid own1
  clear own0 own1
  have HB0 := Lib.hid (Blk.alloc (w := w) zeroTkR 52)
  go_enter Try.func75, Try.ntmps75
  go_wp2_with fail
  go_loopw [7, 8, 9, 10, 11, 12] (fun ov v _ _ _ _ wr => ∃ (j : Nat) (out : List Int), v = .int .i64 j ∧ j ≤ n ∧ Hid (urlS l j out = R) ∧ out.length ≤ j ∧ wr.ownsRow (w.heap.size + 1) 3 1 ov out.length (out.map (Value.int .i64)) ∧ Hid (Blk wr w.heap.size zeroTkR 52) ∧ Below w.heap.size w wr) (fun _ v _ _ _ _ _ => n - (intOf v).toNat)
  case atStart => exact ⟨k, [], rfl, hk, HR, by simp, HO.out, Lib.hid (HB0.out.alloc_old _), ((Below.refl _ _).alloc (Nat.le_refl _) _).alloc (by simp) _⟩
  case round =>
    obtain ⟨j, out, rfl, hj, hG, hol, hown, hB, hbl⟩ := hrel
    have hS := Lib.hid (HP.out.later hbl)
    have HBL := Lib.hid hbl
    have hsz : w.heap.size + 1 ≤ wr.heap.size := hB.out.lt
    clear hbl
    have HSle := Lib.hid (spacesF_le l j (by rw [HL.out]; exact hj))
    have HSge := Lib.hid (spacesGo_le l (l.length + 1) j).1
    generalize hT : spacesF l j = s
    have HT0 := hT
    unfold spacesF at HT0
    rw [HL.out] at HT0
    have HT := Lib.hid HT0
    have HTs := Lib.hid hT
    have hjs : j ≤ s := by have := HSge.out; rw [← hT]; exact this
    have hsn : s ≤ n := by have := HSle.out; rw [hT, HL.out] at this; exact this
    clear HT0 hT HSle HSge
    go_wp2_with fail
    go_loopw [9] (fun v wx => ∃ (f q : Nat), v = .int .i64 q ∧ Hid (spacesGo f l q = s) ∧ n < q + f ∧ q ≤ n ∧ wx = wr) (fun v _ => n - (intOf v).toNat)
    case atStart => exact ⟨n + 1, j, rfl, HT, by omega, hj, rfl⟩
    case round =>
      obtain ⟨f, q, rfl, hG2, hf, hq, rfl⟩ := hrel
      have g0 := rspaceAt (q : Int) q hS.out rfl
      rcases hd : spB l q with _ | _
      · have hE : s = q := by rw [← hG2.out]; exact spacesGo_stop f hd
        subst hE
        have HSP := Lib.hid hd
        rw [hd] at g0
        clear hG2 hd HT
        by_cases hsl : s < n
        · have hsl' : ¬ ((n : Int) ≤ (s : Int)) := by omega
          have HSL := Lib.hid (show s < l.length from by rw [HL.out]; exact hsl)
          obtain ⟨b, off, rfl, hc⟩ := hS.out.cell s hsl
          have q41 : (chA l s == 41) = isB l s 41 := rfl
          rcases h41 : isB l s 41 with _ | _
          · rw [h41] at q41
            have fr := rrest_any (s : Int) (frm : Int) s frm hS.out rfl rfl (by omega)
            by_cases hjs2 : j < s
            · -- behind blanks
              have hjs2' : ((j : Int) < (s : Int)) := by omega
              have e := Lib.hid ((urlS_rest (out := out) (by rw [HTs.out]; exact HSL.out) (by rw [HTs.out]; exact h41) (by rw [HTs.out]; exact hjs2)).symm.trans hG.out)
              have hRr : restF l frm s = T := by rw [HN.out, ← e.out, HTs.out]; exact restF_tk l frm s
              rw [hRr] at fr
              clear hRr e hG hown h41 HSP HTs
              generalize chA l s = z at *
              go_wp2_with (go_at_call 49; (with_reducible refine g0.mono ?_); rintro e wq ⟨rfl, hwq⟩; replace hwq := hwq.symm; subst hwq)
              refine fr.mono ?_
              rintro e w2 ⟨rfl, hb2⟩
              have hB2 := hB.out.later hb2 (by omega)
              have hbl2 := HBL.out.trans (hb2.mono (by omega))
              have r0 := hB2.cell 0 _ rfl
              have r1 := hB2.cell 1 _ rfl
              have r2 := hB2.cell 2 _ rfl
              have r3 := hB2.cell 3 _ rfl
              have r4 := hB2.cell 4 _ rfl
              have r5 := hB2.cell 5 _ rfl
              have q0 := hB2.frozen 0
              have q1 := hB2.frozen 1
              have q2 := hB2.frozen 2
              have q3 := hB2.frozen 3
              have q4 := hB2.frozen 4
              have q5 := hB2.frozen 5
              clear fr hb2
              obtain ⟨kd, frr, to_, tx, nm, wh⟩ := T
              unfold tkV tkCells
              go_wp2
              refine bodyPost_ret (v := tkV ⟨kd, frr, to_, tx, nm, wh⟩) (by simp [results, Try.results75, go_sem, tkV, tkCells, r0, r1, r2, r3, r4, r5]) rfl ⟨rfl, ?_⟩
              exact below_set6R hbl2 (Nat.le_refl _) _ _ _ _ _ _
            · obtain rfl : s = j := by omega
              have hjs2' : ¬ ((s : Int) < (s : Int)) := by omega
              have qa : (chA l s == 34) = isB l s 34 := rfl
              have qb : (chA l s == 39) = isB l s 39 := rfl
              have qc : (chA l s == 40) = isB l s 40 := rfl
              have qd : (chA l s == 92) = isB l s 92 := rfl
              have fh := fun w => rhidden_any (chA l s) w (chA_ch HP.out.pre s)
              have fe := resc_any (s : Int) s hS.out rfl (by omega)
              have hub : urlBad l s = (isB l s 34 || isB l s 39 || isB l s 40 || hiddenB (chA l s) || (isB l s 92 && !escB l s)) := rfl
              rcases hu : urlBad l s with _ | _
              · rcases h92 : isB l s 92 with _ | _
                · -- a character
                  have e := Lib.hid ((urlS_char (out := out) HSL.out HSP.out h41 hu h92).symm.trans hG.out)
                  rw [hu, h92] at hub
                  rw [h92] at qd
                  clear hG h41 hu h92 HSP HTs fr
                  generalize hiddenB (chA l s) = rh at *
                  generalize isB l s 34 = ra at *
                  generalize isB l s 39 = rb at *
                  generalize isB l s 40 = rc at *
                  generalize chA l s = z at *
                  have hk4 : ra = false ∧ rb = false ∧ rc = false ∧ rh = false := by revert hub; cases ra <;> cases rb <;> cases rc <;> cases rh <;> simp
                  obtain ⟨rfl, rfl, rfl, rfl⟩ := hk4
                  clear hub fe
                  go_wp2_with (first | (go_at_call 49; (with_reducible refine g0.mono ?_); rintro e wq ⟨rfl, hwq⟩; replace hwq := hwq.symm; subst hwq) | (go_at_call 86; (with_reducible refine (fh _).mono ?_); rintro e wq ⟨rfl, hwq⟩; replace hwq := hwq.symm; subst hwq) | (at_builtin; refine wpList_append_reads rfl _ _ 43 rfl (w.heap.size + 1) 3 i0 .i64 8 Try.underlying43 hi hz0 hz1 hz2 _ out.length out rfl (hown.alloc _) rfl (some ⟨wr.heap.size, 0, none⟩) 1 1 [z] rfl rfl (reads_new wr .i64 _ 3 1 rfl (by unfold maxLen; omega)) (fun h => by cases h) (by unfold maxLen; omega) (by omega) (by simp <;> omega) ?_; intro v' w3 hown3 hgrow3))
                  have hB3 : Blk w3 w.heap.size zeroTkR 52 := (hB.out.alloc_old _).kept hgrow3 (fun e => by have := (hown.lt _ e).1; omega)
                  have hbl3 : Below w.heap.size w w3 := (HBL.out.alloc (by omega) _).grown hgrow3 (by simp <;> omega) (fun q hq => by have := (hown.lt q hq).1; omega)
                  go_roundw
                  case rel => exact ⟨s + 1, out ++ [z], by go_num, by omega, e, by rw [List.length_append]; simp; omega, hown3, Lib.hid hB3, hbl3⟩
                  case measure => simp [intOf]; omega
                · -- an escape
                  have e := Lib.hid ((urlS_esc (out := out) HSL.out HSP.out h41 hu h92).symm.trans hG.out)
                  rw [hu, h92] at hub
                  rw [h92] at qd
                  have hbd := valueF_bd (l := l) (j := s) HSL.out
                  rw [HL.out] at hbd
                  have fv := rvalue_any (s : Int) s hS.out rfl (by omega)
                  clear hG h41 hu h92 HSP HTs fr
                  generalize hiddenB (chA l s) = rh at *
                  generalize isB l s 34 = ra at *
                  generalize isB l s 39 = rb at *
                  generalize isB l s 40 = rc at *
                  generalize escB l s = re at *
                  generalize chA l s = z at *
                  generalize (valueF l s).2 = j2 at *
                  generalize (valueF l s).1 = c at *
                  have hk4 : ra = false ∧ rb = false ∧ rc = false ∧ rh = false ∧ re = true := by revert hub; cases ra <;> cases rb <;> cases rc <;> cases rh <;> cases re <;> simp
                  obtain ⟨rfl, rfl, rfl, rfl, rfl⟩ := hk4
                  clear hub
                  go_wp2_with (first | (go_at_call 49; (with_reducible refine g0.mono ?_); rintro e wq ⟨rfl, hwq⟩; replace hwq := hwq.symm; subst hwq) | (go_at_call 86; (with_reducible refine (fh _).mono ?_); rintro e wq ⟨rfl, hwq⟩; replace hwq := hwq.symm; subst hwq) | (go_at_call 58; (with_reducible refine fe.mono ?_); rintro e wq ⟨rfl, hwq⟩; replace hwq := hwq.symm; subst hwq))
                  refine fv.mono ?_
                  rintro e1 w1 ⟨rfl, hb1⟩
                  have hown1 := owns_later hown hb1
                  have hB1 := hB.out.later hb1 hB.out.lt
                  have hbl1 := HBL.out.trans (hb1.mono HBL.out.size)
                  have hsz1 := hb1.size
                  go_wp2_with (first | (at_builtin; refine wpList_append_reads rfl _ _ 43 rfl (w.heap.size + 1) 3 i0 .i64 8 Try.underlying43 hi hz0 hz1 hz2 _ out.length out rfl (hown1.alloc _) rfl (some ⟨w1.heap.size, 0, none⟩) 1 1 [c] rfl rfl (reads_new w1 .i64 _ 3 1 rfl (by unfold maxLen; omega)) (fun h => by cases h) (by unfold maxLen; omega) (by omega) (by simp <;> omega) ?_; intro v' w3 hown3 hgrow3))
                  have hB3 : Blk w3 w.heap.size zeroTkR 52 := (hB1.alloc_old _).kept hgrow3 (fun e => by have := (hown1.lt _ e).1; omega)
                  have hbl3 : Below w.heap.size w w3 := (hbl1.alloc (by omega) _).grown hgrow3 (by simp <;> omega) (fun q hq => by have := (hown1.lt q hq).1; omega)
                  go_roundw
                  case rel => exact ⟨j2, out ++ [c], by go_num, by omega, e, by rw [List.length_append]; simp; omega, hown3, Lib.hid hB3, hbl3⟩
                  case measure => simp [intOf]; omega
              · -- one that may not stand there
                have e := Lib.hid ((urlS_bad (out := out) HSL.out HSP.out h41 hu).symm.trans hG.out)
                have hRr : restF l frm s = T := by rw [HN.out, ← e.out]; exact restF_tk l frm s
                rw [hRr] at fr
                rw [hu] at hub
                clear hRr e hG hown h41 HSP HTs hu
                generalize hiddenB (chA l s) = rh at *
                generalize isB l s 34 = ra at *
                generalize isB l s 39 = rb at *
                generalize isB l s 40 = rc at *
                generalize isB l s 92 = rd at *
                generalize escB l s = re at *
                generalize chA l s = z at *
                have hk5 : ra = true ∨ (ra = false ∧ rb = true) ∨ (ra = false ∧ rb = false ∧ rc = true) ∨ (ra = false ∧ rb = false ∧ rc = false ∧ rh = true) ∨ (ra = false ∧ rb = false ∧ rc = false ∧ rh = false ∧ rd = true ∧ re = false) := by revert hub; cases ra <;> cases rb <;> cases rc <;> cases rh <;> cases rd <;> cases re <;> simp
                clear hub
                rcases hk5 with rfl | ⟨rfl, rfl⟩ | ⟨rfl, rfl, rfl⟩ | ⟨rfl, rfl, rfl, rfl⟩ | ⟨rfl, rfl, rfl, rfl, rfl, rfl⟩
                all_goals
                  go_wp2_with (first | (go_at_call 49; (with_reducible refine g0.mono ?_); rintro e wq ⟨rfl, hwq⟩; replace hwq := hwq.symm; subst hwq) | (go_at_call 86; (with_reducible refine (fh _).mono ?_); rintro e wq ⟨rfl, hwq⟩; replace hwq := hwq.symm; subst hwq) | (go_at_call 58; (with_reducible refine fe.mono ?_); rintro e wq ⟨rfl, hwq⟩; replace hwq := hwq.symm; subst hwq))
                  refine fr.mono ?_
                  rintro e w2 ⟨rfl, hb2⟩
                  have hB2 := hB.out.later hb2 (by omega)
                  have hbl2 := HBL.out.trans (hb2.mono (by omega))
                  have r0 := hB2.cell 0 _ rfl
                  have r1 := hB2.cell 1 _ rfl
                  have r2 := hB2.cell 2 _ rfl
                  have r3 := hB2.cell 3 _ rfl
                  have r4 := hB2.cell 4 _ rfl
                  have r5 := hB2.cell 5 _ rfl
                  have q0 := hB2.frozen 0
                  have q1 := hB2.frozen 1
                  have q2 := hB2.frozen 2
                  have q3 := hB2.frozen 3
                  have q4 := hB2.frozen 4
                  have q5 := hB2.frozen 5
                  clear fr hb2
                  obtain ⟨kd, frr, to_, tx, nm, wh⟩ := T
                  unfold tkV tkCells
                  go_wp2
                  refine bodyPost_ret (v := tkV ⟨kd, frr, to_, tx, nm, wh⟩) (by simp [results, Try.results75, go_sem, tkV, tkCells, r0, r1, r2, r3, r4, r5]) rfl ⟨rfl, ?_⟩
                  exact below_set6R hbl2 (Nat.le_refl _) _ _ _ _ _ _
          · -- the end of it
            have e := Lib.hid ((urlS_close (out := out) (by rw [HTs.out]; exact HSL.out) (by rw [HTs.out]; exact h41)).symm.trans hG.out)
            rw [HTs.out] at e
            rw [h41] at q41
            clear h41 HSP HTs
            generalize chA l s = z at *
            obtain ⟨a2, c2, hv, hrd⟩ := Reads.of_owns hown
            subst hv
            have cT := fun wx (hb : Below wr.heap.size wr wx) => rtext_any a2 c2 out.length out wx rfl (hrd.later hb) (by omega)
            clear hG hown
            go_wp2_with (go_at_call 49; (with_reducible refine g0.mono ?_); rintro e wq ⟨rfl, hwq⟩; replace hwq := hwq.symm; subst hwq)
            refine (cT _ (Below.refl _ _)).mono ?_
            rintro e w2 ⟨rfl, hb2⟩
            have hB2 := hB.out.later hb2 (by omega)
            have hbl2 := HBL.out.trans (hb2.mono (by omega))
            have r0 := hB2.cell 0 _ rfl
            have r1 := hB2.cell 1 _ rfl
            have r2 := hB2.cell 2 _ rfl
            have r3 := hB2.cell 3 _ rfl
            have r4 := hB2.cell 4 _ rfl
            have r5 := hB2.cell 5 _ rfl
            have q0 := hB2.frozen 0
            have q1 := hB2.frozen 1
            have q2 := hB2.frozen 2
            have q3 := hB2.frozen 3
            have q4 := hB2.frozen 4
            have q5 := hB2.frozen 5
            clear cT hb2
            go_wp2
            refine bodyPost_ret (v := .agg #[.int .i64 7, .int .i64 frm, .int .i64 (s + 1 : Nat), .string (strOfNums (bytesF out)), .string ⟨#[]⟩, .bool false]) (by simp [results, Try.results75, go_sem, r0, r1, r2, r3, r4, r5]) rfl ⟨by rw [HN.out, ← e.out]; rfl, ?_⟩
            exact below_set6R hbl2 (Nat.le_refl _) _ _ _ _ _ _
        · obtain rfl : s = n := by omega
          have hsl' : ((s : Int) ≤ (s : Int)) := by omega
          have e := Lib.hid ((urlS_end (out := out) (i := j) (by rw [HTs.out, HL.out]; exact Nat.le_refl _)).symm.trans hG.out)
          rw [HL.out] at e
          clear HSP HTs hsl
          obtain ⟨a2, c2, hv, hrd⟩ := Reads.of_owns hown
          subst hv
          have cT := fun wx (hb : Below wr.heap.size wr wx) => rtext_any a2 c2 out.length out wx rfl (hrd.later hb) (by omega)
          clear hG hown
          go_wp2_with (go_at_call 49; (with_reducible refine g0.mono ?_); rintro e wq ⟨rfl, hwq⟩; replace hwq := hwq.symm; subst hwq)
          refine (cT _ (Below.refl _ _)).mono ?_
          rintro e w2 ⟨rfl, hb2⟩
          have hB2 := hB.out.later hb2 (by omega)
          have hbl2 := HBL.out.trans (hb2.mono (by omega))
          have r0 := hB2.cell 0 _ rfl
          have r1 := hB2.cell 1 _ rfl
          have r2 := hB2.cell 2 _ rfl
          have r3 := hB2.cell 3 _ rfl
          have r4 := hB2.cell 4 _ rfl
          have r5 := hB2.cell 5 _ rfl
          have q0 := hB2.frozen 0
          have q1 := hB2.frozen 1
          have q2 := hB2.frozen 2
          have q3 := hB2.frozen 3
          have q4 := hB2.frozen 4
          have q5 := hB2.frozen 5
          clear cT hb2
          go_wp2
          refine bodyPost_ret (v := .agg #[.int .i64 7, .int .i64 frm, .int .i64 (s : Nat), .string (strOfNums (bytesF out)), .string ⟨#[]⟩, .bool false]) (by simp [results, Try.results75, go_sem, r0, r1, r2, r3, r4, r5]) rfl ⟨by rw [HN.out, ← e.out]; rfl, ?_⟩
          exact below_set6R hbl2 (Nat.le_refl _) _ _ _ _ _ _
      · have hqn : q < n := by have := lt_of_spB hd; rw [HL.out] at this; exact this
        obtain ⟨f, rfl⟩ : ∃ g, f = g + 1 := ⟨f - 1, by omega⟩
        have hG3 : Hid (spacesGo f l (q + 1) = s) := Lib.hid (by rw [← hG2.out]; conv => rhs; rw [spacesGo, if_pos hd])
        rw [hd] at g0
        clear hG2 hd
        go_wp2_with fail
        refine g0.mono ?_
        rintro e wq ⟨rfl, hwq⟩; replace hwq := hwq.symm; subst hwq
        go_wp2
        go_roundw
        case rel => exact ⟨f, q + 1, by go_num, hG3, by omega, by omega, by first | rfl | trivial⟩
        case measure => simp [intOf]; omega
end
end Go.Proofs.Ytelbjnanpmdnnaa
