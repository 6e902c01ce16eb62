/- The longest row, by the document: it doesn't begin with a name: a walk. -/
import Derived.Test.YtickcbmfboajiaaGreatDoorFS
namespace Go.Proofs.YtickcbmfboajiaaGreatDoor
open Go.RowKit Go.Shelf
set_option linter.unusedVariables false
set_option linter.unusedSimpArgs false

set_option maxRecDepth 100000 in
set_option maxHeartbeats 16000000 in
theorem rfind_other (ts : List Tk) (n cap : Nat) (a : Option Addr) (w : World) (h : ReadsT w a cap ts) (hn : ts.length = n) (hsm : n ≤ 1000000) (hS : ShortT ts) (hG : ∀ k, GoodT (tkAt ts k)) (hq : blF ts 0 < n) (h1 : (tkAt ts (blF ts 0)).kind ≠ 1) : Calls Tryz.prog 33 #[.slice a n cap] w (Told (rowV (cleanR (findP ts))) w) := by
  have hcap := h.1
  have hcap2 : cap ≤ 9223372036854775807 := h.2.1
  rw [hn] at hcap
  have HP := Lib.hid h
  have HNN := Lib.hid hn
  have HS := Lib.hid hS
  have HG := Lib.hid hG
  have hbw0 := (Below.refl w.heap.size w).alloc (Nat.le_refl _) (.cells [.string ⟨#[]⟩, .string ⟨#[]⟩, .int .i64 0].toArray 61)
  have R0 : Blk (w.alloc (.cells [.string ⟨#[]⟩, .string ⟨#[]⟩, .int .i64 0].toArray 61)) w.heap.size [.string ⟨#[]⟩, .string ⟨#[]⟩, .int .i64 0] 61 := Blk.alloc _ _
  have hz0 : (w.alloc (.cells [.string ⟨#[]⟩, .string ⟨#[]⟩, .int .i64 0].toArray 61)).heap.size = w.heap.size + 1 := by simp
  generalize hW0 : w.alloc (.cells [.string ⟨#[]⟩, .string ⟨#[]⟩, .int .i64 0].toArray 61) = W0 at *
  have HW0 := Lib.hid hW0
  clear hW0
  have f0 := rskip_any ts n cap a 0 0 W0 (h.later hbw0) hn hsm rfl (by omega)
  have hle := (blF_le ts 0).2 (by omega)
  rw [hn] at hle
  have hfp := findP_eq ts (by rw [hn]; exact hq) (hG _)
  have hH0 := fun w' hb => rheads_any ts n cap a ((blF ts 0 : Nat) : Int) (blF ts 0) w' (ReadsT.later (w := w) (w' := w') HP.out hb) hn hsm rfl hq hS (hG _)
  have hbd := head_bd (ts := ts) (k := blF ts 0) hS (by rw [hn]; exact hq)
  rw [hn] at hbd
  have HBD := Lib.hid hbd
  have h10n := fun h => head_ten (ts := ts) (k := blF ts 0) (hG _) h
  have H10 := Lib.hid h10n
  have HH0 := Lib.hid hH0
  clear hbd hH0 h10n
  have fL := fun w => rlower_any (txS (tkAt ts (blF ts 0))) w (by have := (hS (blF ts 0)).1; omega)
  generalize blF ts 0 = q at *
  have hq' : (q : Int) < (n : Int) := by omega
  have hq2 : ¬ (n : Int) ≤ (q : Int) := by omega
  obtain ⟨b, ea, hc⟩ := (h.later hbw0).at
  have c0 : W0.cell? ⟨b, q * 6, none⟩ = some (.int .i64 (tkAt ts q).kind) := hc q (by rw [hn]; exact hq) 0 _ rfl
  have c1 := hc q (by rw [hn]; exact hq) 1 _ rfl
  have c2 := hc q (by rw [hn]; exact hq) 2 _ rfl
  have c3 : W0.cell? ⟨b, q * 6 + 3, none⟩ = some (.string (txS (tkAt ts q))) := hc q (by rw [hn]; exact hq) 3 _ rfl
  have c4 : W0.cell? ⟨b, q * 6 + 4, none⟩ = some (.string (nmT (tkAt ts q))) := hc q (by rw [hn]; exact hq) 4 _ rfl
  have c5 := hc q (by rw [hn]; exact hq) 5 _ rfl
  have HCS : Hid (∀ p, p < n → ∀ w' (hb : Below w.heap.size w w') j v, (tkCells (tkAt ts p))[j]? = some v → w'.cell? ⟨b, p * 6 + j, none⟩ = some v) := Lib.hid (fun p hp w' hb j v hv => by
    obtain ⟨b', e, hc'⟩ := (HP.out.later hb).at
    rw [ea] at e
    cases e
    exact hc' p (by rw [HNN.out]; exact hp) j v hv)
  have hbl : b < W0.heap.size := by
    have hx := h.later hbw0
    rw [ea] at hx
    exact hx.lt
  subst ea
  clear hc h hn hS hG
  have q1 := even_low (txS (tkAt ts q))
  have q2 := odd_low (txS (tkAt ts q))
  generalize txS (tkAt ts q) = TX at *
  generalize nmT (tkAt ts q) = NM at *
  generalize hkd : (tkAt ts q).kind = kd at *
  have HKD := Lib.hid hkd
  clear hkd
  generalize (tkAt ts q).whole = wh at *
  generalize (tkAt ts q).frm = fr at *
  generalize (tkAt ts q).to = to_ at *
  have hbw := hbw0.alloc hbw0.size (.cells [.int .i64 kd, .int .i64 fr, .int .i64 to_, .string TX, .string NM, .bool wh].toArray 32)
  have R := R0.alloc_old (.cells [.int .i64 kd, .int .i64 fr, .int .i64 to_, .string TX, .string NM, .bool wh].toArray 32)
  have B : Blk (W0.alloc (.cells [.int .i64 kd, .int .i64 fr, .int .i64 to_, .string TX, .string NM, .bool wh].toArray 32)) (w.heap.size + 1) [.int .i64 kd, .int .i64 fr, .int .i64 to_, .string TX, .string NM, .bool wh] 32 := by rw [← hz0]; exact Blk.alloc _ _
  have d0 := B.cell 0 _ rfl; have d1 := B.cell 1 _ rfl; have d2 := B.cell 2 _ rfl; have d3 := B.cell 3 _ rfl; have d4 := B.cell 4 _ rfl; have d5 := B.cell 5 _ rfl
  have hk1 : (kd == 1) = false := beq_eq_false_iff_ne.2 h1
  rw [if_neg h1] at hfp
  clear h1 q1 q2 fL
  by_cases h10 : kd = 10
  · subst h10
    rcases wh with _ | _
    · have HX : Hid (cleanR (findP ts) = ((⟨#[]⟩, ⟨#[]⟩, 0), false)) := Lib.hid (by rw [hfp, if_neg (by simp), H10.out rfl]; rfl)
      have hN := H10.out rfl
      clear hfp H10
      go_enter Tryz.func33, Tryz.ntmps33
      go_wp2_with fail
      rw [show w.alloc (Obj.cells #[.string ⟨#[]⟩, .string ⟨#[]⟩, .int .i64 0] 61) = W0 from HW0.out]
      refine f0.mono ?_
      rintro e wq ⟨rfl, hwq⟩; replace hwq := hwq.symm; subst hwq
      go_wp2_with fail
      have fH := HH0.out _ hbw
      rw [hN] at fH
      refine fH.mono ?_
      rintro e w5 ⟨rfl, hb5⟩
      replace hbw := hbw.trans (hb5.mono hbw.size)
      replace R := R.later hb5 R.lt
      have hR := HX
      have r0 := R.cell 0 _ rfl; have r1 := R.cell 1 _ rfl; have r2 := R.cell 2 _ rfl; have y0 := R.frozen 0; have y1 := R.frozen 1; have y2 := R.frozen 2
      unfold headV2
      go_wp2_with fail
      refine bodyPost_ret (v := .tuple #[.agg #[.string ⟨#[]⟩, .string ⟨#[]⟩, .int .i64 (0)], .bool false]) (by simp [results, Tryz.results33, go_sem, r0, r1, r2]) rfl ⟨by rw [hR.out]; rfl, ?_⟩
      exact below_set3 hbw (Nat.le_refl _) _ _ _
    · have hR : Hid (cleanR (findP ts) = ((⟨#[48]⟩, NM, q + 1), true)) := Lib.hid (by rw [hfp, if_pos ⟨rfl, rfl⟩]; rfl)
      clear hfp H10 HH0 HBD
      have z1 := (R0.setCell 0 (.string ⟨#[48]⟩)).alloc_old (.cells [.int .i64 10, .int .i64 fr, .int .i64 to_, .string TX, .string NM, .bool true].toArray 32)
      have z2 := ((R0.setCell 0 (.string ⟨#[48]⟩)).setCell 1 (.string NM)).alloc_old (.cells [.int .i64 10, .int .i64 fr, .int .i64 to_, .string TX, .string NM, .bool true].toArray 32)
      have z3 := (((R0.setCell 0 (.string ⟨#[48]⟩)).setCell 1 (.string NM)).setCell 2 (.int .i64 ((q : Int) + 1))).alloc_old (.cells [.int .i64 10, .int .i64 fr, .int .i64 to_, .string TX, .string NM, .bool true].toArray 32)
      have r0 := R.cell 0 _ rfl; have r1 := R.cell 1 _ rfl; have r2 := R.cell 2 _ rfl; have y0 := R.frozen 0; have y1 := R.frozen 1; have y2 := R.frozen 2
      have u1 := z1.cell 1 _ rfl
      have u2 := z2.cell 2 _ rfl
      have v1 := z1.frozen 1
      have v2 := z2.frozen 2
      have t0 := z3.cell 0 _ rfl
      have t1 := z3.cell 1 _ rfl
      have t2 := z3.cell 2 _ rfl
      go_enter Tryz.func33, Tryz.ntmps33
      go_wp2_with fail
      rw [show w.alloc (Obj.cells #[.string ⟨#[]⟩, .string ⟨#[]⟩, .int .i64 0] 61) = W0 from HW0.out]
      refine f0.mono ?_
      rintro e wq ⟨rfl, hwq⟩; replace hwq := hwq.symm; subst hwq
      go_wp2_with fail
      refine bodyPost_ret (v := .tuple #[.agg #[.string ⟨#[48]⟩, .string NM, .int .i64 (q + 1 : Nat)], .bool true]) (by simp [results, Tryz.results33, go_sem, t0, t1, t2]) rfl ⟨by rw [hR.out]; rfl, ?_⟩
      exact (below_set3 hbw0 (Nat.le_refl _) _ _ _).alloc (by simp <;> omega) _
  · have hk10 : (kd == 10) = false := beq_eq_false_iff_ne.2 h10
    have HX : Hid (findP ts = headR ts (headN ts q)) := Lib.hid (by rw [hfp, if_neg (fun h => h10 h.1)])
    clear hfp H10 h10
    go_enter Tryz.func33, Tryz.ntmps33
    go_wp2_with fail
    rw [show w.alloc (Obj.cells #[.string ⟨#[]⟩, .string ⟨#[]⟩, .int .i64 0] 61) = W0 from HW0.out]
    refine f0.mono ?_
    rintro e wq ⟨rfl, hwq⟩; replace hwq := hwq.symm; subst hwq
    go_wp2_with fail
    have fH := HH0.out _ hbw
    generalize hH : headV2 (headN ts q) = HV at fH
    obtain ⟨A, rest, tz⟩ := HV
    dsimp only at fH
    refine fH.mono ?_
    rintro e w5 ⟨rfl, hb5⟩
    replace hbw := hbw.trans (hb5.mono hbw.size)
    replace R := R.later hb5 R.lt
    clear fH hb5 B
    rcases hN : headN ts q with _ | ⟨A', nm', z⟩
    · rw [hN] at hH
      cases hH
      have hR : Hid (cleanR (findP ts) = ((⟨#[]⟩, ⟨#[]⟩, 0), false)) := Lib.hid (by rw [HX.out, hN]; rfl)
      have r0 := R.cell 0 _ rfl; have r1 := R.cell 1 _ rfl; have r2 := R.cell 2 _ rfl; have y0 := R.frozen 0; have y1 := R.frozen 1; have y2 := R.frozen 2
      go_wp2_with fail
      refine bodyPost_ret (v := .tuple #[.agg #[.string ⟨#[]⟩, .string ⟨#[]⟩, .int .i64 (0)], .bool false]) (by simp [results, Tryz.results33, go_sem, r0, r1, r2]) rfl ⟨by rw [hR.out]; rfl, ?_⟩
      exact below_set3 hbw (Nat.le_refl _) _ _ _
    · obtain ⟨hz, hsz⟩ := HBD.out A' nm' z hN
      rw [hN] at hH
      have hH : (if hasN nm' = true then (A', cutN nm', ((z : Nat) : Int)) else (⟨#[]⟩, ⟨#[]⟩, -1)) = (A, rest, tz) := hH
      rcases hh : hasN nm' with _ | _
      · rw [if_neg (by rw [hh]; decide)] at hH
        cases hH
        have hR : Hid (cleanR (findP ts) = ((⟨#[]⟩, ⟨#[]⟩, 0), false)) := Lib.hid (by rw [HX.out, hN]; show cleanR (if hasN nm' = true then _ else _) = _; rw [if_neg (by rw [hh]; decide)]; rfl)
        have r0 := R.cell 0 _ rfl; have r1 := R.cell 1 _ rfl; have r2 := R.cell 2 _ rfl; have y0 := R.frozen 0; have y1 := R.frozen 1; have y2 := R.frozen 2
        go_wp2_with fail
        refine bodyPost_ret (v := .tuple #[.agg #[.string ⟨#[]⟩, .string ⟨#[]⟩, .int .i64 (0)], .bool false]) (by simp [results, Tryz.results33, go_sem, r0, r1, r2]) rfl ⟨by rw [hR.out]; rfl, ?_⟩
        exact below_set3 hbw (Nat.le_refl _) _ _ _
      · rw [if_pos hh] at hH
        have HY : Hid (findP ts = rowP ts A' (cutN nm') z) := Lib.hid (by rw [HX.out, hN]; show (if hasN nm' = true then _ else _) = _; rw [if_pos hh])
        have hrs : (cutN nm').size ≤ 900000 := Nat.le_trans (cutN_size nm') hsz
        obtain ⟨eA, eR, eT⟩ : A' = A ∧ cutN nm' = rest ∧ (z : Int) = tz := by cases hH; exact ⟨rfl, rfl, rfl⟩
        subst eA; subst eR; subst eT
        clear hH hN HX hsz hh HBD
        generalize cutN nm' = rest at *
        have fK := rskip_any ts n cap (some ⟨b, 0, none⟩) (z : Int) z w5 (HP.out.later hbw) HNN.out hsm rfl hz
        have hkn := (blF_le ts z).2 (by rw [HNN.out]; exact hz)
        rw [HNN.out] at hkn
        have hzn : ¬ (z : Int) < 0 := by omega
        generalize hk : blF ts z = k at *
        have fT := rnumber_any ts n cap (some ⟨b, 0, none⟩) (k : Int) k true w5 (HP.out.later hbw) HNN.out hsm rfl (HG.out k)
        have fF := rnumber_any ts n cap (some ⟨b, 0, none⟩) (k : Int) k false w5 (HP.out.later hbw) HNN.out hsm rfl (HG.out k)
        have HK := Lib.hid hk
        clear hk
        go_wp2_with fail
        refine fK.mono ?_
        rintro e wq ⟨rfl, hwq⟩; replace hwq := hwq.symm; subst hwq
        clear fK
        have e1 := empty_str rest
        have e2 := dash_str rest
        have r0 := R.cell 0 _ rfl; have r1 := R.cell 1 _ rfl; have r2 := R.cell 2 _ rfl; have y0 := R.frozen 0; have y1 := R.frozen 1; have y2 := R.frozen 2
        by_cases h0 : rest.size = 0
        · rw [decide_eq_true h0] at e1
          rcases hT : numD ts k true with _ | _
          · rw [hT] at fT
            by_cases hkl : k < n
            · have hkl' : (k : Int) < (n : Int) := by omega
              have g0 : w5.cell? ⟨b, k * 6, none⟩ = some (.int .i64 (tkAt ts k).kind) := HCS.out k hkl w5 hbw 0 _ rfl
              have g3 : w5.cell? ⟨b, k * 6 + 3, none⟩ = some (.string (txS (tkAt ts k))) := HCS.out k hkl w5 hbw 3 _ rfl
              by_cases h9 : (tkAt ts k).kind = 9
              · have p1 := one_str (txS (tkAt ts k)) 43
                have p2 := one_str (txS (tkAt ts k)) 45
                rw [h9] at g0
                by_cases hsx : txS (tkAt ts k) = ⟨#[43]⟩ ∨ txS (tkAt ts k) = ⟨#[45]⟩
                · have fS := rskip_any ts n cap (some ⟨b, 0, none⟩) ((k : Int) + 1) (k + 1) w5 (HP.out.later hbw) HNN.out hsm (by omega) (by omega)
                  have hmn := (blF_le ts (k + 1)).2 (by rw [HNN.out]; omega)
                  rw [HNN.out] at hmn
                  generalize hm : blF ts (k + 1) = m at *
                  have HMM := Lib.hid hm
                  clear hm
                  have fM := rnumber_any ts n cap (some ⟨b, 0, none⟩) (m : Int) m false w5 (HP.out.later hbw) HNN.out hsm rfl (HG.out m)
                  rcases hM : numD ts m false with _ | _
                  · have hR : Hid (cleanR (findP ts) = ((A', ⟨#[48]⟩, z), true)) := Lib.hid (by rw [HY.out, rowP_zero h0 (by rw [HK.out]; exact hT) (by rw [HK.out]; right; right; right; rw [HMM.out]; exact hM)]; rfl)
                    rw [hM] at fM
                    clear HY hT h9 hM
                    rcases hsx with hsx | hsx
                    · rw [decide_eq_true hsx] at p1
                      clear hsx p2
                      go_wp2_with (first | (go_at_call 56; ((with_reducible refine fS.mono ?_); rintro e wq ⟨rfl, hwq⟩; replace hwq := hwq.symm; subst hwq)) | (go_at_call 59; first | ((with_reducible refine fT.mono ?_); rintro e wq ⟨rfl, hwq⟩; replace hwq := hwq.symm; subst hwq) | ((with_reducible refine fM.mono ?_); rintro e wq ⟨rfl, hwq⟩; replace hwq := hwq.symm; subst hwq)))
                      refine bodyPost_ret (v := .tuple #[.agg #[.string A', .string ⟨#[48]⟩, .int .i64 (z : Nat)], .bool true]) (by simp [results, Tryz.results33, go_sem, r0, r1, r2]) rfl ⟨by rw [hR.out]; rfl, ?_⟩
                      exact below_set3 hbw (Nat.le_refl _) _ _ _
                    · rw [decide_eq_false (by rw [hsx]; decide)] at p1
                      rw [decide_eq_true hsx] at p2
                      clear hsx
                      go_wp2_with (first | (go_at_call 56; ((with_reducible refine fS.mono ?_); rintro e wq ⟨rfl, hwq⟩; replace hwq := hwq.symm; subst hwq)) | (go_at_call 59; first | ((with_reducible refine fT.mono ?_); rintro e wq ⟨rfl, hwq⟩; replace hwq := hwq.symm; subst hwq) | ((with_reducible refine fM.mono ?_); rintro e wq ⟨rfl, hwq⟩; replace hwq := hwq.symm; subst hwq)))
                      refine bodyPost_ret (v := .tuple #[.agg #[.string A', .string ⟨#[48]⟩, .int .i64 (z : Nat)], .bool true]) (by simp [results, Tryz.results33, go_sem, r0, r1, r2]) rfl ⟨by rw [hR.out]; rfl, ?_⟩
                      exact below_set3 hbw (Nat.le_refl _) _ _ _
                  · have hml := numD_lt hM
                    rw [HNN.out] at hml
                    have hml' : (m : Int) < (n : Int) := by omega
                    have g4 : w5.cell? ⟨b, m * 6 + 4, none⟩ = some (.string (nmT (tkAt ts m))) := HCS.out m hml w5 hbw 4 _ rfl
                    have hR : Hid (cleanR (findP ts) = ((A', txS (tkAt ts k) ++ nmT (tkAt ts m), m + 1), true)) := Lib.hid (by rw [HY.out, rowP_sign h0 (by rw [HK.out]; exact hT) (by rw [HK.out, HNN.out]; exact hkl) (by rw [HK.out]; exact h9) (by rw [HK.out]; exact hsx) (by rw [HK.out, HMM.out]; exact hM), HK.out, HMM.out]; rfl)
                    have hcat : ¬ 9223372036854775807 < (txS (tkAt ts k)).size + (nmT (tkAt ts m)).size := by have h1 := (HS.out k).1; have h2 := (HS.out m).2; omega
                    rw [hM] at fM
                    clear HY hT h9 hM
                    generalize nmT (tkAt ts m) = QN at *
                    rcases hsx with hsx | hsx
                    · rw [decide_eq_true hsx] at p1
                      clear p2 hsx
                      generalize txS (tkAt ts k) = QX at *
                      go_wp2_with (first | (go_at_call 56; ((with_reducible refine fS.mono ?_); rintro e wq ⟨rfl, hwq⟩; replace hwq := hwq.symm; subst hwq)) | (go_at_call 59; first | ((with_reducible refine fT.mono ?_); rintro e wq ⟨rfl, hwq⟩; replace hwq := hwq.symm; subst hwq) | ((with_reducible refine fM.mono ?_); rintro e wq ⟨rfl, hwq⟩; replace hwq := hwq.symm; subst hwq)))
                      go_region
                      all_goals
                        go_wp2_with fail
                        refine bodyPost_ret (v := .tuple #[.agg #[.string A', .string (QX ++ QN), .int .i64 (m + 1 : Nat)], .bool true]) (by simp [results, Tryz.results33, go_sem, r0, r1, r2]) rfl ⟨by rw [hR.out]; rfl, ?_⟩
                        exact below_set3 hbw.drew (Nat.le_refl _) _ _ _
                    · rw [decide_eq_false (by rw [hsx]; decide)] at p1
                      rw [decide_eq_true hsx] at p2
                      clear hsx
                      generalize txS (tkAt ts k) = QX at *
                      go_wp2_with (first | (go_at_call 56; ((with_reducible refine fS.mono ?_); rintro e wq ⟨rfl, hwq⟩; replace hwq := hwq.symm; subst hwq)) | (go_at_call 59; first | ((with_reducible refine fT.mono ?_); rintro e wq ⟨rfl, hwq⟩; replace hwq := hwq.symm; subst hwq) | ((with_reducible refine fM.mono ?_); rintro e wq ⟨rfl, hwq⟩; replace hwq := hwq.symm; subst hwq)))
                      go_region
                      all_goals
                        go_wp2_with fail
                        refine bodyPost_ret (v := .tuple #[.agg #[.string A', .string (QX ++ QN), .int .i64 (m + 1 : Nat)], .bool true]) (by simp [results, Tryz.results33, go_sem, r0, r1, r2]) rfl ⟨by rw [hR.out]; rfl, ?_⟩
                        exact below_set3 hbw.drew (Nat.le_refl _) _ _ _
                · have hsx1 : txS (tkAt ts k) ≠ ⟨#[43]⟩ := fun h => hsx (.inl h)
                  have hsx2 : txS (tkAt ts k) ≠ ⟨#[45]⟩ := fun h => hsx (.inr h)
                  have hR : Hid (cleanR (findP ts) = ((A', ⟨#[48]⟩, z), true)) := Lib.hid (by rw [HY.out, rowP_zero h0 (by rw [HK.out]; exact hT) (by rw [HK.out]; exact .inr (.inr (.inl ⟨hsx1, hsx2⟩)))]; rfl)
                  rw [decide_eq_false hsx1] at p1
                  rw [decide_eq_false hsx2] at p2
                  clear HY hT h9 hsx hsx1 hsx2
                  generalize txS (tkAt ts k) = QX at *
                  go_wp2_with (go_at_call 59; first | ((with_reducible refine fT.mono ?_); rintro e wq ⟨rfl, hwq⟩; replace hwq := hwq.symm; subst hwq))
                  refine bodyPost_ret (v := .tuple #[.agg #[.string A', .string ⟨#[48]⟩, .int .i64 (z : Nat)], .bool true]) (by simp [results, Tryz.results33, go_sem, r0, r1, r2]) rfl ⟨by rw [hR.out]; rfl, ?_⟩
                  exact below_set3 hbw (Nat.le_refl _) _ _ _
              · have hR : Hid (cleanR (findP ts) = ((A', ⟨#[48]⟩, z), true)) := Lib.hid (by rw [HY.out, rowP_zero h0 (by rw [HK.out]; exact hT) (by rw [HK.out]; exact .inr (.inl h9))]; rfl)
                have q9 : ((tkAt ts k).kind == 9) = false := beq_eq_false_iff_ne.2 h9
                clear HY hT h9
                generalize (tkAt ts k).kind = kk at *
                go_wp2_with (go_at_call 59; first | ((with_reducible refine fT.mono ?_); rintro e wq ⟨rfl, hwq⟩; replace hwq := hwq.symm; subst hwq))
                refine bodyPost_ret (v := .tuple #[.agg #[.string A', .string ⟨#[48]⟩, .int .i64 (z : Nat)], .bool true]) (by simp [results, Tryz.results33, go_sem, r0, r1, r2]) rfl ⟨by rw [hR.out]; rfl, ?_⟩
                exact below_set3 hbw (Nat.le_refl _) _ _ _
            · have hkl' : ¬ (k : Int) < (n : Int) := by omega
              have hR : Hid (cleanR (findP ts) = ((A', ⟨#[48]⟩, z), true)) := Lib.hid (by rw [HY.out, rowP_zero h0 (by rw [HK.out]; exact hT) (by rw [HK.out, HNN.out]; exact .inl (by omega))]; rfl)
              clear HY hT
              go_wp2_with (go_at_call 59; first | ((with_reducible refine fT.mono ?_); rintro e wq ⟨rfl, hwq⟩; replace hwq := hwq.symm; subst hwq))
              refine bodyPost_ret (v := .tuple #[.agg #[.string A', .string ⟨#[48]⟩, .int .i64 (z : Nat)], .bool true]) (by simp [results, Tryz.results33, go_sem, r0, r1, r2]) rfl ⟨by rw [hR.out]; rfl, ?_⟩
              exact below_set3 hbw (Nat.le_refl _) _ _ _
          · have hkl := numD_lt hT
            rw [HNN.out] at hkl
            have hkl' : (k : Int) < (n : Int) := by omega
            have g4 : w5.cell? ⟨b, k * 6 + 4, none⟩ = some (.string (nmT (tkAt ts k))) := HCS.out k hkl w5 hbw 4 _ rfl
            have hR : Hid (cleanR (findP ts) = ((A', nmT (tkAt ts k), k + 1), true)) := Lib.hid (by rw [HY.out, rowP_whole h0 (by rw [HK.out]; exact hT), HK.out]; rfl)
            rw [hT] at fT
            clear HY hT
            generalize nmT (tkAt ts k) = QN at *
            go_wp2_with (go_at_call 59; first | ((with_reducible refine fT.mono ?_); rintro e wq ⟨rfl, hwq⟩; replace hwq := hwq.symm; subst hwq))
            refine bodyPost_ret (v := .tuple #[.agg #[.string A', .string QN, .int .i64 (k + 1 : Nat)], .bool true]) (by simp [results, Tryz.results33, go_sem, r0, r1, r2]) rfl ⟨by rw [hR.out]; rfl, ?_⟩
            exact below_set3 hbw (Nat.le_refl _) _ _ _
        rw [decide_eq_false h0] at e1
        by_cases h1 : rest = ⟨#[45]⟩
        · rw [decide_eq_true h1] at e2
          have hs1 : rest.size = 1 := by rw [h1]; rfl
          have hs1' : ¬ (1 : Int) < (rest.size : Int) := by omega
          rcases hF : numD ts k false with _ | _
          · have hR : Hid (cleanR (findP ts) = ((⟨#[]⟩, ⟨#[]⟩, 0), false)) := Lib.hid (by rw [HY.out]; exact cleanR_no (rowP_dash_no h1 (by rw [HK.out]; exact hF)))
            rw [hF] at fF
            clear HY hF h1
            go_wp2_with (go_at_call 59; first | ((with_reducible refine fF.mono ?_); rintro e wq ⟨rfl, hwq⟩; replace hwq := hwq.symm; subst hwq))
            refine bodyPost_ret (v := .tuple #[.agg #[.string ⟨#[]⟩, .string ⟨#[]⟩, .int .i64 (0)], .bool false]) (by simp [results, Tryz.results33, go_sem, r0, r1, r2]) rfl ⟨by rw [hR.out]; rfl, ?_⟩
            exact below_set3 hbw (Nat.le_refl _) _ _ _
          · have hkl := numD_lt hF
            rw [HNN.out] at hkl
            have hkl' : (k : Int) < (n : Int) := by omega
            have g4 : w5.cell? ⟨b, k * 6 + 4, none⟩ = some (.string (nmT (tkAt ts k))) := HCS.out k hkl w5 hbw 4 _ rfl
            have hR : Hid (cleanR (findP ts) = ((A', ⟨#[45]⟩ ++ nmT (tkAt ts k), k + 1), true)) := Lib.hid (by rw [HY.out, rowP_dash h1 (by rw [HK.out]; exact hF), HK.out]; rfl)
            have hk1 : (⟨#[45]⟩ : ByteArray).size = 1 := rfl
            have hcat : ¬ 9223372036854775807 < (⟨#[45]⟩ : ByteArray).size + (nmT (tkAt ts k)).size := by have h2 := (HS.out k).2; omega
            rw [hF] at fF
            clear HY hF h1
            generalize nmT (tkAt ts k) = QN at *
            go_wp2_with (go_at_call 59; first | ((with_reducible refine fF.mono ?_); rintro e wq ⟨rfl, hwq⟩; replace hwq := hwq.symm; subst hwq))
            try go_region
            all_goals
              try go_wp2_with fail
              first
              | (refine bodyPost_ret (v := .tuple #[.agg #[.string A', .string (⟨#[45]⟩ ++ QN), .int .i64 (k + 1 : Nat)], .bool true]) (by simp [results, Tryz.results33, go_sem, r0, r1, r2]) rfl ⟨by rw [hR.out]; rfl, ?_⟩; exact below_set3 hbw (Nat.le_refl _) _ _ _)
              | (refine bodyPost_ret (v := .tuple #[.agg #[.string A', .string (⟨#[45]⟩ ++ QN), .int .i64 (k + 1 : Nat)], .bool true]) (by simp [results, Tryz.results33, go_sem, r0, r1, r2]) rfl ⟨by rw [hR.out]; rfl, ?_⟩; exact below_set3 hbw.drew (Nat.le_refl _) _ _ _)
        rw [decide_eq_false h1] at e2
        have hpos : 0 < rest.size := by omega
        have hpos' : (0 : Int) < (rest.size : Int) := by omega
        have f45 := first_at rest hpos
        by_cases h2 : 1 < rest.size
        · have h2' : (1 : Int) < (rest.size : Int) := by omega
          have h2'' : (1 : Int) ≤ (rest.size : Int) := by omega
          rcases hf : firstB rest 45 with _ | _
          · rw [hf] at f45
            have hR : Hid (cleanR (findP ts) = ((⟨#[]⟩, ⟨#[]⟩, 0), false)) := Lib.hid (by rw [HY.out]; exact cleanR_no (by unfold rowP; rw [if_neg h0, if_neg h1, hf]; rfl))
            clear HY h1 hf
            go_wp2_with fail
            refine bodyPost_ret (v := .tuple #[.agg #[.string ⟨#[]⟩, .string ⟨#[]⟩, .int .i64 (0)], .bool false]) (by simp [results, Tryz.results33, go_sem, r0, r1, r2]) rfl ⟨by rw [hR.out]; rfl, ?_⟩
            exact below_set3 hbw (Nat.le_refl _) _ _ _
          · rw [hf] at f45
            have fG := fun w => rdigsA_any (rest.extract 1 rest.size) w (by have := tailS_size rest; show (tailS rest).size ≤ _; omega)
            have hsg : signedB rest = true := by unfold signedB; rw [hf]; simp
            have hnb : numB rest = digsB (rest.extract 1 rest.size) := by unfold numB; rw [hsg, if_pos rfl]; rfl
            rcases hd : digsB (rest.extract 1 rest.size) with _ | _
            · have hR : Hid (cleanR (findP ts) = ((⟨#[]⟩, ⟨#[]⟩, 0), false)) := Lib.hid (by rw [HY.out]; exact cleanR_no (by unfold rowP; rw [if_neg h0, if_neg h1, hf, hnb, hd]; rfl))
              rw [hd] at fG
              clear HY h1 hf hsg hnb hd
              generalize hTL : rest.extract 1 rest.size = TL at *
              go_wp2_with (go_at_call 60; ((with_reducible refine (fG _).mono ?_); rintro e wq ⟨rfl, hwq⟩; replace hwq := hwq.symm; subst hwq))
              refine bodyPost_ret (v := .tuple #[.agg #[.string ⟨#[]⟩, .string ⟨#[]⟩, .int .i64 (0)], .bool false]) (by simp [results, Tryz.results33, go_sem, r0, r1, r2]) rfl ⟨by rw [hR.out]; rfl, ?_⟩
              exact below_set3 hbw (Nat.le_refl _) _ _ _
            · have hR : Hid (cleanR (findP ts) = ((A', rest, z), true)) := Lib.hid (by rw [HY.out]; unfold rowP; rw [if_neg h0, if_neg h1, hf, hnb, hd]; rfl)
              rw [hd] at fG
              clear HY h1 hf hsg hnb hd
              generalize hTL : rest.extract 1 rest.size = TL at *
              go_wp2_with (go_at_call 60; ((with_reducible refine (fG _).mono ?_); rintro e wq ⟨rfl, hwq⟩; replace hwq := hwq.symm; subst hwq))
              refine bodyPost_ret (v := .tuple #[.agg #[.string A', .string rest, .int .i64 (z : Nat)], .bool true]) (by simp [results, Tryz.results33, go_sem, r0, r1, r2]) rfl ⟨by rw [hR.out]; rfl, ?_⟩
              exact below_set3 hbw (Nat.le_refl _) _ _ _
        · have h2' : ¬ (1 : Int) < (rest.size : Int) := by omega
          have hR : Hid (cleanR (findP ts) = ((⟨#[]⟩, ⟨#[]⟩, 0), false)) := Lib.hid (by
            rw [HY.out]
            apply cleanR_no
            unfold rowP
            rw [if_neg h0, if_neg h1]
            show (firstB rest 45 && numB rest) = false
            rcases hf : firstB rest 45 with _ | _
            · rfl
            · exact absurd (one_dash (by omega) hf) h1)
          clear HY h1
          go_wp2_with fail
          refine bodyPost_ret (v := .tuple #[.agg #[.string ⟨#[]⟩, .string ⟨#[]⟩, .int .i64 (0)], .bool false]) (by simp [results, Tryz.results33, go_sem, r0, r1, r2]) rfl ⟨by rw [hR.out]; rfl, ?_⟩
          exact below_set3 hbw (Nat.le_refl _) _ _ _

end Go.Proofs.YtickcbmfboajiaaGreatDoor
