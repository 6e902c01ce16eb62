/- Texts of mine in one: Bpc. -/
import Derived.Test.YtelbjnanpmdnnaaQ26
namespace Go.Proofs.Ytelbjnanpmdnnaa
section
open Go.RowKit
set_option linter.unusedVariables false
set_option linter.unusedSimpArgs false
theorem set4 {w0 w : World} {B p : Nat} (h : Below B w0 w) (hp : B ≤ p) (v0 v1 v2 v3 : Value) : Below B w0 ((((w.setCell ⟨p, 0, none⟩ v0).setCell ⟨p, 1, none⟩ v1).setCell ⟨p, 2, none⟩ v2).setCell ⟨p, 3, none⟩ v3) :=
  (((h.setCell (p := ⟨p, 0, none⟩) hp _).setCell (p := ⟨p, 1, none⟩) hp _).setCell (p := ⟨p, 2, none⟩) hp _).setCell (p := ⟨p, 3, none⟩) hp _
set_option maxRecDepth 100000 in
set_option maxHeartbeats 16000000 in
theorem bdecl_any {ts : List Tk} {b n cap E : Nat} {w : World} (j : Nat) (hT : TkRow w b n ts) (hcap : n ≤ cap) (hc2 : cap ≤ 9223372036854775807) (hn : n ≤ 1000000) (hE : E ≤ n) (hj : j < E) (hs : ∀ j, (txA ts j).size ≤ 1000000) (hNE : NoEnd ts j E) :
    Calls Try.prog 30 #[.slice (some ⟨b, 0, none⟩) n cap, .int .i64 j, .int .i64 E] w (DlPost (if declB ts E j = true then declF ts E j else ⟨⟨#[]⟩, 0, 0, false⟩) (declB ts E j) w) := by
  obtain ⟨i0, hi, hz0, hz1, hz2⟩ := info_parts Try.infoDecl
  have B0 : Blk (w.alloc (.cells [.string ⟨#[]⟩, .int .i64 0, .int .i64 0, .bool false].toArray 41)) w.heap.size [.string ⟨#[]⟩, .int .i64 0, .int .i64 0, .bool false] 41 := Blk.alloc _ _
  have hb1 := (Below.refl w.heap.size w).alloc (Nat.le_refl _) (.cells [.string ⟨#[]⟩, .int .i64 0, .int .i64 0, .bool false].toArray 41)
  have hT1 := hT.later hb1 hT.lt
  have hbw := hT.lt
  have hme : min (E : Int) (n : Int) = E := by omega
  have cN := bnew_any (w := w.alloc (.cells [.string ⟨#[]⟩, .int .i64 0, .int .i64 0, .bool false].toArray 41)) (j : Int) (E : Int) j hT1 hcap hc2 hn (by omega) (by omega) E (by rw [hme]; exact hNE j E (Nat.le_refl _) (by omega) (Nat.le_refl _))
  rw [hme] at cN
  obtain ⟨ho1, ho2, ho3⟩ := overF_bounds ts (isK 13) E _ (j + 1) (Nat.le_refl _)
  have hov : overF ts (inK [13]) E (j + 1) = overF ts (isK 13) E (j + 1) := by
    rw [show inK [13] = isK 13 from funext fun k => by unfold inK isK; simp]
  have hDD : declB ts E j = (decide (kdA ts j = 1) && (decide (overF ts (isK 13) E (j + 1) < E) && decide (kdA ts (overF ts (isK 13) E (j + 1)) = 16))) := rfl
  have hcol : colonF ts E j = overF ts (isK 13) E (j + 1) := rfl
  generalize hX : (if declB ts E j = true then declF ts E j else ⟨⟨#[]⟩, 0, 0, false⟩) = X at *
  generalize declB ts E j = D at *
  generalize hS : overF ts (isK 13) E (j + 1) = S at *
  have HX := Lib.hid hX
  have HD := Lib.hid hDD
  have HV := Lib.hid hov
  have HCol := Lib.hid hcol
  have HNE := Lib.hid hNE
  have HS := Lib.hid hs
  clear hX hDD hov hcol hS ho3 hme hT hT1 hNE hs
  go_enter Try.func30, Try.ntmps30
  go_wp2_with fail
  refine cN.mono ?_
  rintro e1 w1 ⟨p, rfl, hrd, hb2, hpl⟩
  have H0 := Lib.hid hrd
  have HB1 := Lib.hid (hb1.trans (hb2.mono hb1.size))
  have b0 := B0.later hb2 B0.lt
  have hpw : p < w1.heap.size := hpl
  have hrp : w.heap.size < p := Nat.lt_of_lt_of_le B0.lt hrd.lp
  have hbB := hrd.lb
  have hBp := hrd.lp
  have hsz := hb1.size
  clear cN hrd hb1 hb2 hpl B0
  generalize (w.alloc (.cells [.string ⟨#[]⟩, .int .i64 0, .int .i64 0, .bool false].toArray 41)).heap.size = B at *
  go_wp2_with fail
  refine (btake_any 1 H0.out).mono ?_
  rintro e11 w11 ⟨rfl, h11, g11⟩
  have H11 := Lib.hid h11
  have G11 := Lib.hid (g11)
  have bR11 := b0.kept g11 (fun e => by have := Option.some.inj e; omega)
  have hs11 := G11.out.size
  clear g11 h11
  rw [decide_eq_true hj, Bool.true_and]
  by_cases h1 : kdA ts j = 1
  · have hh := H11.out; rw [if_pos ⟨hj, h1⟩] at hh; clear H11; have H11 := Lib.hid hh; clear hh
    rw [decide_eq_true h1]
    go_wp2_with fail
    have Kk1 : KsAt (w11.alloc (.cells [Value.int .i64 13].toArray 3)) p (some ⟨w11.heap.size, 0, none⟩) 1 [13] := (ks_alloc (w := w11) [13] (by have := H11.out.blk.lt; omega) (by decide))
    have H12 := Lib.hid ((H11.out.later ((Below.refl w11.heap.size w11).alloc (Nat.le_refl _) (.cells [Value.int .i64 13].toArray 3))))
    have G12 := Lib.hid (grown_drewN (grown_trans G11.out (World.grownBy_alloc w11 (.cells [Value.int .i64 13].toArray 3) (some p))) 0)
    have G12 : Hid (w1.grownBy (w11.alloc (.cells [Value.int .i64 13].toArray 3)) (some p)) := G12
    have bR12 : Blk (w11.alloc (.cells [Value.int .i64 13].toArray 3)) w.heap.size [.string ⟨#[]⟩, .int .i64 0, .int .i64 0, .bool false] 41 := (bR11.alloc_old (.cells [Value.int .i64 13].toArray 3))
    have hz12 : w11.heap.size < (w11.alloc (.cells [Value.int .i64 13].toArray 3)).heap.size := by show w11.heap.size < (w11.alloc (.cells [Value.int .i64 13].toArray 3)).heap.size; simp
    have hk12 := H11.out.blk.lt
    generalize (w11.alloc (.cells [Value.int .i64 13].toArray 3)) = w12 at *
    generalize w11.heap.size = k1 at *
    have HKk1 := Lib.hid Kk1; clear Kk1
    clear bR11 H11 G11
    have cP := bpass_any _ 1 1 [13] H12.out rfl HKk1.out.1 (fun b off e => (HKk1.out.2 b off e).1)
    rw [HV.out] at cP
    refine (cP).mono ?_
    rintro e13 w13 ⟨rfl, h13, g13⟩
    have H13 := Lib.hid h13
    have G13 := Lib.hid (grown_trans G12.out g13)
    have bR13 := bR12.kept g13 (fun e => by have := Option.some.inj e; omega)
    have hs13 := G13.out.size
    clear bR12 H12 G12 g13 h13
    clear cP HV
    go_wp2_with fail
    refine (btake_any 16 H13.out).mono ?_
    rintro e14 w14 ⟨rfl, h14, g14⟩
    have H14 := Lib.hid h14
    have G14 := Lib.hid (grown_trans G13.out g14)
    have bR14 := bR13.kept g14 (fun e => by have := Option.some.inj e; omega)
    have hs14 := G14.out.size
    clear bR13 H13 G13 g14 h14
    by_cases h16 : S < E ∧ kdA ts S = 16
    · have hDv : D = true := by rw [HD.out, decide_eq_true h1, decide_eq_true h16.1, decide_eq_true h16.2]; rfl
      subst hDv
      have hXv : X = declF ts E j := by rw [← HX.out, if_pos rfl]
      have HXv := Lib.hid hXv
      have hh := H14.out; rw [if_pos h16] at hh; clear H14; have H14 := Lib.hid hh; clear hh
      rw [decide_eq_true h16.1, decide_eq_true h16.2]
      have hSE := h16.1
      clear HX HD h16 hXv h1
      have cPr := bproperty_any (txA ts j)
      have hjn : (j : Int) < (n : Int) := by omega
      have ctx := H14.out.row.tx j (by omega)
      have hszs := HS.out j
      generalize hNM : propF (txA ts j) = NM at *
      generalize htx : txA ts j = tx at *
      have HNM := Lib.hid hNM; have Htx := Lib.hid htx; clear hNM htx
      go_wp2_with fail
      clear ctx
      refine (cPr _ hszs).mono ?_
      rintro e15 w15 ⟨rfl, hb15⟩
      have H15 := Lib.hid (H14.out.later hb15)
      have G15 := Lib.hid (grown_below G14.out hb15)
      have bR15 := bR14.later hb15 bR14.lt
      have hs15 := G15.out.size
      clear bR14 H14 G14 hb15
      clear cPr hszs
      go_upto_region 8 with (fail)
      have b16 : Blk (w15.alloc (.cells [.string NM, .int .i64 0, .int .i64 0, .bool false].toArray 41)) w15.heap.size [.string NM, .int .i64 0, .int .i64 0, .bool false] 41 := Blk.alloc _ _
      have H16 := Lib.hid (H15.out.later ((Below.refl w15.heap.size w15).alloc (Nat.le_refl _) (.cells [.string NM, .int .i64 0, .int .i64 0, .bool false].toArray 41)))
      have G16 := Lib.hid (grown_trans G15.out (World.grownBy_alloc w15 (.cells [.string NM, .int .i64 0, .int .i64 0, .bool false].toArray 41) (some p)))
      have hlR16 := bR15.lt
      have bR16 := bR15.alloc_old (.cells [.string NM, .int .i64 0, .int .i64 0, .bool false].toArray 41)
      have hz16 : w15.heap.size < (w15.alloc (.cells [.string NM, .int .i64 0, .int .i64 0, .bool false].toArray 41)).heap.size := by simp
      have hs16 := G15.out.size
      generalize hw16 : (w15.alloc (.cells [.string NM, .int .i64 0, .int .i64 0, .bool false].toArray 41)) = w16 at *
      generalize hg16 : w15.heap.size = q0 at *
      clear hw16 hg16
      clear bR15 H15 G15
      have cr1 := H16.out.blk.cell 1 _ rfl
      go_wp2_with fail
      clear cr1
      have hmn : min (E : Int) (n : Int) = E := by omega
      have cT1 := btrim_any (w := w16) ((S : Int) + 1) (E : Int) (S + 1) E H16.out.row hcap hc2 hn (by omega) (by omega) (by rw [hmn]; exact HNE.out (S + 1) E (by omega) (by omega) (Nat.le_refl _))
      have htb := trimF_bounds ts E (S + 1) (by omega)
      clear hmn
      generalize hT1v : trimF ts E (S + 1) = V1 at *
      obtain ⟨a1, b1⟩ := V1
      dsimp only at htb cT1
      have HT1v := Lib.hid hT1v
      clear hT1v
      refine (cT1).mono ?_
      rintro e17 w17 ⟨rfl, hb17⟩
      have H17 := Lib.hid (H16.out.later hb17)
      have G17 := Lib.hid (grown_below G16.out hb17)
      have bR17 := bR16.later hb17 bR16.lt
      have bX17 := b16.later hb17 b16.lt
      have hs17 := G17.out.size
      clear bR16 b16 H16 G16 hb17
      clear cT1
      have cX1 := bX17.cell 1 _ rfl
      have fX1 := bX17.frozen 1
      have cX2 := bX17.cell 2 _ rfl
      have fX2 := bX17.frozen 2
      go_upto_region 9 with (fail)
      clear cX1 fX1 cX2 fX2
      have g18' := (grown_trans (grown_setCell w17 q0 1 (.int .i64 a1)) (grown_setCell (w17.setCell ⟨q0, 1, none⟩ (.int .i64 a1)) q0 2 (.int .i64 b1)))
      have b18 := ((bX17.setCell 1 (.int .i64 a1)).setCell 2 (.int .i64 b1))
      have H18 := Lib.hid (H17.out.grown g18' (fun e => by have := Option.some.inj e; omega) (fun e => by have := Option.some.inj e; omega))
      have G18 := Lib.hid (grown_own G17.out g18' (fun q e => by have := Option.some.inj e; omega))
      have bR18 := bR17.kept g18' (fun e => by have := Option.some.inj e; omega)
      have hE18 : w17.heap.size = ((w17.setCell ⟨q0, 1, none⟩ (.int .i64 a1)).setCell ⟨q0, 2, none⟩ (.int .i64 b1)).heap.size := by simp
      try rw [hE18]
      clear hE18
      generalize ((w17.setCell ⟨q0, 1, none⟩ (.int .i64 a1)).setCell ⟨q0, 2, none⟩ (.int .i64 b1)) = w18 at *
      clear bR17 bX17 H17 G17 g18'
      obtain ⟨q1, rfl⟩ : ∃ q1, b1 = q1 + 1 := ⟨b1 - 1, by omega⟩
      have cX1 := b18.cell 1 _ rfl
      have fX1 := b18.frozen 1
      have cX2 := b18.cell 2 _ rfl
      have fX2 := b18.frozen 2
      go_wp2_with fail
      clear cX1 fX1 cX2 fX2
      have cI := bimportance_any (w := w18) j a1 q1 E H18.out.row hcap hc2 hn HS.out (by omega) (by omega) htb.2.1 htb.2.2 hE HNE.out
      have hmkb : impB ts a1 (q1 + 1) = true → a1 < markF ts a1 (q1 + 1) ∧ markF ts a1 (q1 + 1) ≤ max a1 q1 := fun h => by
        have hte := trimF_end HNE.out (show j ≤ a1 by omega) htb.2.1 htb.2.2
        rw [show q1 + 1 - 1 = q1 from rfl] at hte
        have h1 := endF_ge ts q1 a1
        have h2 := endF_le ts q1 a1
        have h3 := trimF_bounds ts (endF ts q1 a1) a1 h1
        rw [hte] at h3
        unfold impB at h
        rw [Bool.and_eq_true, Bool.and_eq_true, Bool.and_eq_true, Bool.and_eq_true, decide_eq_true_iff, decide_eq_true_iff, decide_eq_true_iff] at h
        have h4 := h.2.2.2.1
        have h5 : markF ts a1 (q1 + 1) = (trimF ts q1 a1).2 := rfl
        omega
      generalize hmkv : markF ts a1 (q1 + 1) = mk at *
      have HMk := Lib.hid hmkv
      clear hmkv
      cases himp : impB ts a1 (q1 + 1) with
      | true =>
        have hmk2 := hmkb himp
        obtain ⟨q2, rfl⟩ : ∃ q2, mk = q2 + 1 := ⟨mk - 1, by omega⟩
        have hXv : X = ⟨NM, (trimF ts q2 a1).1, (trimF ts q2 a1).2, true⟩ := by rw [HXv.out]; unfold declF declAt; rw [HCol.out, HT1v.out]; dsimp only; rw [himp, if_pos rfl, HMk.out, Htx.out, HNM.out]; rfl
        subst hXv
        rw [himp, if_pos rfl, show ((q2 + 1 : Nat) : Int) - 1 = (q2 : Int) by omega] at cI
        clear HXv hmkb himp HCol HT1v HMk HNM Htx
        refine (cI).mono ?_
        rintro e19 w19 ⟨rfl, hb19⟩
        have H19 := Lib.hid (H18.out.later hb19)
        have G19 := Lib.hid (grown_below G18.out hb19)
        have bR19 := bR18.later hb19 bR18.lt
        have bX19 := b18.later hb19 b18.lt
        have hs19 := G19.out.size
        clear bR18 b18 H18 G18 hb19
        clear cI
        have cX1 := bX19.cell 1 _ rfl
        have fX1 := bX19.frozen 1
        have cX3 := bX19.cell 3 _ rfl
        have fX3 := bX19.frozen 3
        go_wp2_with fail
        clear cX1 fX1 cX3 fX3
        have g20' := (grown_setCell w19 q0 3 (.bool true))
        have b20 := (bX19.setCell 3 (.bool true))
        have H20 := Lib.hid (H19.out.grown g20' (fun e => by have := Option.some.inj e; omega) (fun e => by have := Option.some.inj e; omega))
        have G20 := Lib.hid (grown_own G19.out g20' (fun q e => by have := Option.some.inj e; omega))
        have bR20 := bR19.kept g20' (fun e => by have := Option.some.inj e; omega)
        have hE20 : w19.heap.size = (w19.setCell ⟨q0, 3, none⟩ (.bool true)).heap.size := by simp
        try rw [hE20]
        clear hE20
        generalize (w19.setCell ⟨q0, 3, none⟩ (.bool true)) = w20 at *
        clear bR19 bX19 H19 G19 g20'
        have hmn : min (q2 : Int) (n : Int) = q2 := by omega
        have cT3 := btrim_any (w := w20) (a1 : Int) (q2 : Int) a1 q2 H20.out.row hcap hc2 hn (by omega) (by omega) (by rw [hmn]; exact HNE.out a1 q2 (by omega) (by omega) (by omega))
        clear hmn
        generalize trimF ts q2 a1 = V3 at *
        obtain ⟨a3, b3⟩ := V3
        dsimp only at cT3
        refine (cT3).mono ?_
        rintro e21 w21 ⟨rfl, hb21⟩
        have H21 := Lib.hid (H20.out.later hb21)
        have G21 := Lib.hid (grown_below G20.out hb21)
        have bR21 := bR20.later hb21 bR20.lt
        have bX21 := b20.later hb21 b20.lt
        have hs21 := G21.out.size
        clear bR20 b20 H20 G20 hb21
        clear cT3
        have cX1 := bX21.cell 1 _ rfl
        have fX1 := bX21.frozen 1
        have cX2 := bX21.cell 2 _ rfl
        have fX2 := bX21.frozen 2
        go_upto_region 13 with (fail)
        clear cX1 fX1 cX2 fX2
        have g22' := (grown_trans (grown_setCell w21 q0 1 (.int .i64 a3)) (grown_setCell (w21.setCell ⟨q0, 1, none⟩ (.int .i64 a3)) q0 2 (.int .i64 b3)))
        have b22 := ((bX21.setCell 1 (.int .i64 a3)).setCell 2 (.int .i64 b3))
        have H22 := Lib.hid (H21.out.grown g22' (fun e => by have := Option.some.inj e; omega) (fun e => by have := Option.some.inj e; omega))
        have G22 := Lib.hid (grown_own G21.out g22' (fun q e => by have := Option.some.inj e; omega))
        have bR22 := bR21.kept g22' (fun e => by have := Option.some.inj e; omega)
        have hE22 : w21.heap.size = ((w21.setCell ⟨q0, 1, none⟩ (.int .i64 a3)).setCell ⟨q0, 2, none⟩ (.int .i64 b3)).heap.size := by simp
        try rw [hE22]
        clear hE22
        generalize ((w21.setCell ⟨q0, 1, none⟩ (.int .i64 a3)).setCell ⟨q0, 2, none⟩ (.int .i64 b3)) = w22 at *
        clear bR21 bX21 H21 G21 g22'
        have cR0 := bR22.cell 0 _ rfl
        have fR0 := bR22.frozen 0
        have cR1 := bR22.cell 1 _ rfl
        have fR1 := bR22.frozen 1
        have cR2 := bR22.cell 2 _ rfl
        have fR2 := bR22.frozen 2
        have cR3 := bR22.cell 3 _ rfl
        have fR3 := bR22.frozen 3
        have cX0 := b22.cell 0 _ rfl
        have fX0 := b22.frozen 0
        have cX1 := b22.cell 1 _ rfl
        have fX1 := b22.frozen 1
        have cX2 := b22.cell 2 _ rfl
        have fX2 := b22.frozen 2
        have cX3 := b22.cell 3 _ rfl
        have fX3 := b22.frozen 3
        have HBE := Lib.hid (below_own HB1.out G22.out (Nat.le_of_lt hrp))
        go_wp2
        refine bodyPost_ret (v := .tuple #[.agg #[.string NM, .int .i64 a3, .int .i64 b3, .bool true], .bool true]) (by simp [results, Try.results30, go_sem, cR0, cR1, cR2, cR3]) rfl ⟨rfl, ?_⟩
        exact set4 HBE.out (Nat.le_refl _) _ _ _ _
      | false =>
        have hXv : X = ⟨NM, a1, q1 + 1, false⟩ := by rw [HXv.out]; unfold declF declAt; rw [HCol.out, HT1v.out]; dsimp only; rw [himp, if_neg (by simp), Htx.out, HNM.out]
        subst hXv
        rw [himp, if_neg (by simp)] at cI
        clear HXv hmkb himp HCol HT1v HMk HNM Htx
        refine (cI).mono ?_
        rintro e19 w19 ⟨rfl, hb19⟩
        have H19 := Lib.hid (H18.out.later hb19)
        have G19 := Lib.hid (grown_below G18.out hb19)
        have bR19 := bR18.later hb19 bR18.lt
        have bX19 := b18.later hb19 b18.lt
        have hs19 := G19.out.size
        clear bR18 b18 H18 G18 hb19
        clear cI
        have cR0 := bR19.cell 0 _ rfl
        have fR0 := bR19.frozen 0
        have cR1 := bR19.cell 1 _ rfl
        have fR1 := bR19.frozen 1
        have cR2 := bR19.cell 2 _ rfl
        have fR2 := bR19.frozen 2
        have cR3 := bR19.cell 3 _ rfl
        have fR3 := bR19.frozen 3
        have cX0 := bX19.cell 0 _ rfl
        have fX0 := bX19.frozen 0
        have cX1 := bX19.cell 1 _ rfl
        have fX1 := bX19.frozen 1
        have cX2 := bX19.cell 2 _ rfl
        have fX2 := bX19.frozen 2
        have cX3 := bX19.cell 3 _ rfl
        have fX3 := bX19.frozen 3
        have HBE := Lib.hid (below_own HB1.out G19.out (Nat.le_of_lt hrp))
        go_wp2
        refine bodyPost_ret (v := .tuple #[.agg #[.string NM, .int .i64 a1, .int .i64 (q1 + 1 : Nat), .bool false], .bool true]) (by simp [results, Try.results30, go_sem, cR0, cR1, cR2, cR3]) rfl ⟨rfl, ?_⟩
        exact set4 HBE.out (Nat.le_refl _) _ _ _ _
    · have hDv : D = false := by rw [HD.out, decide_eq_true h1, Bool.true_and]; cases hd : (decide (S < E) && decide (kdA ts S = 16)) with | false => rfl | true => exact absurd (by rw [Bool.and_eq_true, decide_eq_true_iff, decide_eq_true_iff] at hd; exact hd) h16
      subst hDv
      have hXv : X = ⟨⟨#[]⟩, 0, 0, false⟩ := by rw [← HX.out, if_neg (by simp)]
      subst hXv
      rw [show (decide (S < E) && decide (kdA ts S = 16)) = false from by cases hd : (decide (S < E) && decide (kdA ts S = 16)) with | false => rfl | true => exact absurd (by rw [Bool.and_eq_true, decide_eq_true_iff, decide_eq_true_iff] at hd; exact hd) h16]
      clear HX HD HCol h16
      have cR0 := bR14.cell 0 _ rfl
      have fR0 := bR14.frozen 0
      have cR1 := bR14.cell 1 _ rfl
      have fR1 := bR14.frozen 1
      have cR2 := bR14.cell 2 _ rfl
      have fR2 := bR14.frozen 2
      have cR3 := bR14.cell 3 _ rfl
      have fR3 := bR14.frozen 3
      have HBE := Lib.hid (below_own HB1.out G14.out (Nat.le_of_lt hrp))
      go_wp2
      refine bodyPost_ret (v := .tuple #[.agg #[.string ⟨#[]⟩, .int .i64 0, .int .i64 0, .bool false], .bool false]) (by simp [results, Try.results30, go_sem, cR0, cR1, cR2, cR3]) rfl ⟨rfl, ?_⟩
      exact set4 HBE.out (Nat.le_refl _) _ _ _ _
  · have hDv : D = false := by rw [HD.out, decide_eq_false h1, Bool.false_and]
    subst hDv
    have hXv : X = ⟨⟨#[]⟩, 0, 0, false⟩ := by rw [← HX.out, if_neg (by simp)]
    subst hXv
    rw [decide_eq_false h1]
    clear HX HD HV HCol
    have cR0 := bR11.cell 0 _ rfl
    have fR0 := bR11.frozen 0
    have cR1 := bR11.cell 1 _ rfl
    have fR1 := bR11.frozen 1
    have cR2 := bR11.cell 2 _ rfl
    have fR2 := bR11.frozen 2
    have cR3 := bR11.cell 3 _ rfl
    have fR3 := bR11.frozen 3
    have HBE := Lib.hid (below_own HB1.out G11.out (Nat.le_of_lt hrp))
    go_wp2
    refine bodyPost_ret (v := .tuple #[.agg #[.string ⟨#[]⟩, .int .i64 0, .int .i64 0, .bool false], .bool false]) (by simp [results, Try.results30, go_sem, cR0, cR1, cR2, cR3]) rfl ⟨rfl, ?_⟩
    exact set4 HBE.out (Nat.le_refl _) _ _ _ _
end
end Go.Proofs.Ytelbjnanpmdnnaa
