/- Texts of mine in one: Sta. -/
import Derived.Test.YtcfhggdiccilaaaGreatQ42
namespace Go.Proofs.YtcfhggdiccilaaaGreat
section
open Go.RowKit Go.Shelf
set_option linter.unusedVariables false
set_option linter.unusedSimpArgs false
set_option maxRecDepth 100000 in
set_option maxHeartbeats 8000000 in
theorem next_any {w : World} {P : PlV} {rows : List RowF} {ctrs : List CtF} {X : CxV} {up left : List Bool} {cnt : List Int} {ta : Option Addr} {tn tc : Nat} {truths : List Bool} (h : PlOk w P rows ctrs) (hx : CxRd (· < w.heap.size) w X up left cnt) (hcb : ∀ x ∈ cnt, 0 ≤ x ∧ x ≤ 1099511627776) (ht : BoolsAt (· < w.heap.size) w ta tn tc truths) :
    Calls Tryz.prog 9 #[P.val, X.val, .slice ta tn tc] w (NewCtx false (stepsN rows) ctrs.length (copyB (List.replicate (stepsN rows) false) up) (tellF 4 3 (keptF rows) left truths (List.replicate (stepsN rows) false)) (nxtI rows truths ctrs (copyI (List.replicate ctrs.length 0) cnt) ctrs.length) w) := by
  obtain ⟨root, ua, un, uc, xa, xn, xc, ka, kn, kc⟩ := X
  have HUP := Lib.hid hx.up
  have HLE := Lib.hid hx.left
  have HCN := Lib.hid hx.cnt
  have HCB := Lib.hid hcb
  have HTR := Lib.hid ht
  have HPL := Lib.hid h
  have HKL := Lib.hid (keptF_len rows)
  have hsn := h.steps
  have hmn := h.nctr
  clear h hx ht hcb
  obtain ⟨aa, an, ac, ra, rn, rc, ca, cn, cc, la, ln, lc, st⟩ := P
  have hcl : cn = ctrs.length := HPL.out.rd.ctrs.1
  subst hcl
  have HPF := Lib.hid (show fitC ⟨aa, an, ac, ra, rn, rc, ca, ctrs.length, cc, la, ln, lc, st⟩ ta tn tc = [.slice aa an ac, .slice ra rn rc, .slice ca ctrs.length cc, .slice la ln lc, .int .i64 st, .slice ta tn tc] from rfl)
  unfold PlV.val CxV.val
  dsimp only at *
  have hb1 := (Below.refl w.heap.size w).alloc (Nat.le_refl _) (.cells #[.slice aa an ac, .slice ra rn rc, .slice ca ctrs.length cc, .slice la ln lc, .int .i64 st] 37)
  have hb2 := hb1.alloc hb1.size (.cells #[.bool root, .slice ua un uc, .slice xa xn xc, .slice ka kn kc] 29)
  have hb3 := hb2.alloc hb2.size (.cells #[.bool false, .slice none 0 0, .slice none 0 0, .slice none 0 0] 29)
  have dA := ((Blk.alloc (w := w) (T := 37) [.slice aa an ac, .slice ra rn rc, .slice ca ctrs.length cc, .slice la ln lc, .int .i64 st]).alloc_old (.cells #[.bool root, .slice ua un uc, .slice xa xn xc, .slice ka kn kc] 29)).alloc_old (.cells #[.bool false, .slice none 0 0, .slice none 0 0, .slice none 0 0] 29)
  have dB := (Blk.alloc (w := (w.alloc (.cells #[.slice aa an ac, .slice ra rn rc, .slice ca ctrs.length cc, .slice la ln lc, .int .i64 st] 37))) (T := 29) [.bool root, .slice ua un uc, .slice xa xn xc, .slice ka kn kc]).alloc_old (.cells #[.bool false, .slice none 0 0, .slice none 0 0, .slice none 0 0] 29)
  have dC := Blk.alloc (w := ((w.alloc (.cells #[.slice aa an ac, .slice ra rn rc, .slice ca ctrs.length cc, .slice la ln lc, .int .i64 st] 37)).alloc (.cells #[.bool root, .slice ua un uc, .slice xa xn xc, .slice ka kn kc] 29))) (T := 29) [.bool false, .slice none 0 0, .slice none 0 0, .slice none 0 0]
  rw [show (w.alloc (.cells #[.slice aa an ac, .slice ra rn rc, .slice ca ctrs.length cc, .slice la ln lc, .int .i64 st] 37)).heap.size = w.heap.size + 1 from by simp] at dB
  rw [show ((w.alloc (.cells #[.slice aa an ac, .slice ra rn rc, .slice ca ctrs.length cc, .slice la ln lc, .int .i64 st] 37)).alloc (.cells #[.bool root, .slice ua un uc, .slice xa xn xc, .slice ka kn kc] 29)).heap.size = w.heap.size + 1 + 1 from by simp] at dC
  obtain ⟨w0, hw0⟩ : ∃ w0, (((w.alloc (.cells #[.slice aa an ac, .slice ra rn rc, .slice ca ctrs.length cc, .slice la ln lc, .int .i64 st] 37)).alloc (.cells #[.bool root, .slice ua un uc, .slice xa xn xc, .slice ka kn kc] 29)).alloc (.cells #[.bool false, .slice none 0 0, .slice none 0 0, .slice none 0 0] 29)) = w0 := ⟨_, rfl⟩
  have hsz : w0.heap.size = w.heap.size + 3 := by rw [← hw0]; simp
  rw [hw0] at hb3 dA dB dC
  have HB := Lib.hid hb3
  have HSZ := Lib.hid hsz
  have DA := Lib.hid dA
  have DB := Lib.hid dB
  have DC := Lib.hid dC
  have y0 := dA.cell 0 _ rfl
  have y1 := dA.cell 1 _ rfl
  have y2 := dA.cell 2 _ rfl
  have y3 := dA.cell 3 _ rfl
  have y4 := dA.cell 4 _ rfl
  have fF := fresh_any (HPL.out.later hb3).rd hsn hmn
  unfold PlV.val at fF
  dsimp only at fF
  clear dA dB dC hb1 hb2 hb3 hsz
  go_enter Tryz.func9, Tryz.ntmps9
  have hszB : (Tryz.prog.info? 4).map (·.size) = some 1 := by obtain ⟨i, h1, h2⟩ := Option.map_eq_some_iff.1 TryzinfoBl; simp only [Prod.mk.injEq] at h2; rw [h1]; exact congrArg some h2.2.1
  have hszI : (Tryz.prog.info? 3).map (·.size) = some 1 := by obtain ⟨i, h1, h2⟩ := Option.map_eq_some_iff.1 TryzinfoIn; simp only [Prod.mk.injEq] at h2; rw [h1]; exact congrArg some h2.2.1
  obtain ⟨cs1, hcs1⟩ : ∃ cs1, cs1 = (up.take (List.replicate (stepsN rows) false).length).map Value.bool := ⟨_, rfl⟩
  have HC1 := Lib.hid hcs1
  clear hcs1
  obtain ⟨o1, ho1⟩ : ∃ o1, o1 = (List.replicate (stepsN rows) false).map Value.bool := ⟨_, rfl⟩
  have HO1 := Lib.hid ho1
  clear ho1
  go_wp2_with (first
    | (go_at_call 18; (with_reducible refine fF.mono ?_); rintro e w1 ⟨u, l, k, rfl, hc1, hb1⟩; unfold ctxV; have C1 := Lib.hid hc1; have B1 := Lib.hid hb1; have DDx := Lib.hid (Blk.alloc (w := w1) (T := 29) [.bool false, .slice (some ⟨u, 0, none⟩) (stepsN rows) (stepsN rows), .slice (some ⟨l, 0, none⟩) (stepsN rows) (stepsN rows), .slice (some ⟨k, 0, none⟩) ctrs.length ctrs.length]); have dd1 := DDx.out.cell 1 _ rfl; have hbx := hb1.alloc (Nat.le_trans (Nat.le_refl _) hb1.size) (.cells #[.bool false, .slice (some ⟨u, 0, none⟩) (stepsN rows) (stepsN rows), .slice (some ⟨l, 0, none⟩) (stepsN rows) (stepsN rows), .slice (some ⟨k, 0, none⟩) ctrs.length ctrs.length] 29); have BX := Lib.hid hbx; have xx1 := (DB.out.later hbx DB.out.lt).cell 1 _ rfl; have UX := Lib.hid (bools_src (m := (List.replicate (stepsN rows) false).length) (HUP.out.move (w' := w1.alloc (.cells #[.bool false, .slice (some ⟨u, 0, none⟩) (stepsN rows) (stepsN rows), .slice (some ⟨l, 0, none⟩) (stepsN rows) (stepsN rows), .slice (some ⟨k, 0, none⟩) ctrs.length ctrs.length] 29)) (ok' := fun _ => True) (fun b hb => ⟨trivial, ((HB.out.trans (hbx.mono HB.out.size)).block b hb)⟩))); have VX := Lib.hid (show BoolBlk (w1.alloc (.cells #[.bool false, .slice (some ⟨u, 0, none⟩) (stepsN rows) (stepsN rows), .slice (some ⟨l, 0, none⟩) (stepsN rows) (stepsN rows), .slice (some ⟨k, 0, none⟩) ctrs.length ctrs.length] 29)) u (List.replicate (stepsN rows) false) from Blk.later hc1.up ((Below.refl w1.heap.size w1).alloc (Nat.le_refl _) _) hc1.up.lt); clear hc1 hb1 hbx)
    | ((with_reducible show wpList _ _ _ _ _ _); (refine wpList_copy_grown rfl (.tmp 14) (.tmp 16) 26 26 rfl 4 Tryz.underlying26 hszB u ua (stepsN rows) (stepsN rows) un uc rfl rfl o1 4 (by rw [HO1.out]; exact VX.out) cs1 (by rw [HC1.out, UX.out.1]; simp) (by rw [HC1.out]; exact UX.out.2.1) (by rw [HC1.out, HO1.out, UX.out.1]; simp; exact Nat.min_le_right _ _) (by rw [HC1.out]; exact UX.out.2.2) ?_); intro w2 hU2 hg2; have U2 := Lib.hid (show BoolBlk w2 u (copyB (List.replicate (stepsN rows) false) up) from by unfold BoolBlk; rw [← splice_B, ← HO1.out, ← HC1.out]; exact hU2.out); have G2 := Lib.hid hg2; clear hU2 hg2))
  have hb2 := C1.out
  have hgl : u < w1.heap.size ∧ l < w1.heap.size ∧ k < w1.heap.size := ⟨hb2.up.lt, hb2.left.lt, hb2.cnt.lt⟩
  have hBD : Below w0.heap.size w0 w2 := BX.out.grown G2.out BX.out.size (fun g hg => by have h1 := Option.some.inj hg; have h2 := hb2.nu; omega)
  have hDD : Blk w2 w1.heap.size [.bool false, .slice (some ⟨u, 0, none⟩) (stepsN rows) (stepsN rows), .slice (some ⟨l, 0, none⟩) (stepsN rows) (stepsN rows), .slice (some ⟨k, 0, none⟩) ctrs.length ctrs.length] 29 := DDx.out.kept G2.out (fun e => by have := Option.some.inj e; omega)
  have hL2 : BoolBlk w2 l (List.replicate (stepsN rows) false) := Blk.kept (Blk.later hb2.left ((Below.refl w1.heap.size w1).alloc (Nat.le_refl _) _) hb2.left.lt) G2.out (fun e => hb2.ul (Option.some.inj e))
  have hK2 : IntBlk w2 k (List.replicate ctrs.length 0) := Blk.kept (Blk.later hb2.cnt ((Below.refl w1.heap.size w1).alloc (Nat.le_refl _) _) hb2.cnt.lt) G2.out (fun e => hb2.uk (Option.some.inj e))
  have hw1s := B1.out.size
  have HNU := Lib.hid (And.intro (And.intro hb2.nu (And.intro hb2.nl hb2.nk)) (And.intro hb2.ul (And.intro hb2.uk hb2.lk)))
  generalize hgD : w1.heap.size = gD at *
  have HBD := Lib.hid (show Below w0.heap.size w0 w2.drew from hBD.drew)
  have DA2 := Lib.hid (show Blk w2.drew w.heap.size [.slice aa an ac, .slice ra rn rc, .slice ca ctrs.length cc, .slice la ln lc, .int .i64 st] 37 from DA.out.later HBD.out DA.out.lt)
  have DB2 := Lib.hid (show Blk w2.drew (w.heap.size + 1) [.bool root, .slice ua un uc, .slice xa xn xc, .slice ka kn kc] 29 from DB.out.later HBD.out DB.out.lt)
  have DC2 := Lib.hid (show Blk w2.drew (w.heap.size + 1 + 1) [.bool false, .slice none 0 0, .slice none 0 0, .slice none 0 0] 29 from DC.out.later HBD.out DC.out.lt)
  have DD2 := Lib.hid (show Blk w2.drew gD [.bool false, .slice (some ⟨u, 0, none⟩) (stepsN rows) (stepsN rows), .slice (some ⟨l, 0, none⟩) (stepsN rows) (stepsN rows), .slice (some ⟨k, 0, none⟩) ctrs.length ctrs.length] 29 from hDD)
  have UU2 := Lib.hid (show BoolBlk w2.drew u (copyB (List.replicate (stepsN rows) false) up) from U2.out)
  have LL2 := Lib.hid (show BoolBlk w2.drew l (List.replicate (stepsN rows) false) from hL2)
  have KK2 := Lib.hid (show IntBlk w2.drew k (List.replicate ctrs.length 0) from hK2)
  have HGL := Lib.hid hgl
  have HW1 := Lib.hid hw1s
  clear hb2 hBD hDD hgl hL2 hK2 hw1s hgD B1 C1 DDx dd1 BX xx1 UX VX G2 U2 y0 y1 y2 y3 y4 fF
  have HSB := Lib.hid (show Below w.heap.size w w2.drew from HB.out.trans (HBD.out.mono HB.out.size))
  have fK := kept_any (HPL.out.later HSB.out).rd hsn
  unfold PlV.val at fK
  dsimp only at fK
  have FT := Lib.hid (fun (w3 : World) (a3 : Option Addr) (c3 : Nat) (hI : IntsAt (fun b => w2.drew.heap.size ≤ b ∧ b < w3.heap.size) w3 a3 (keptF rows).length c3 (keptF rows)) (hb3 : Below w2.drew.heap.size w2.drew w3) =>
    tell_any (w := w3) 4 3 (n := stepsN rows) (LL2.out.later hb3 LL2.out.lt : BoolBlk w3 l _) (by simp) (hI.move (ok' := fun b => b < w3.heap.size ∧ b ≠ l) (fun b hb => ⟨⟨hb.2, fun e => by have h1 : l < w2.drew.heap.size := LL2.out.lt; omega⟩, rfl⟩)) (by rw [HKL.out]; exact Nat.le_refl _)
      (HLE.out.move (ok' := fun b => b < w3.heap.size ∧ b ≠ l) (fun b hb => ⟨⟨Nat.lt_of_lt_of_le hb (Nat.le_trans HSB.out.size hb3.size), fun e => by have := HNU.out.1.2.1; have := HB.out.size; omega⟩, (hb3.block b (Nat.lt_of_lt_of_le hb HSB.out.size)).trans (HSB.out.block b hb)⟩))
      (HTR.out.move (ok' := fun b => b < w3.heap.size ∧ b ≠ l) (fun b hb => ⟨⟨Nat.lt_of_lt_of_le hb (Nat.le_trans HSB.out.size hb3.size), fun e => by have := HNU.out.1.2.1; have := HB.out.size; omega⟩, (hb3.block b (Nat.lt_of_lt_of_le hb HSB.out.size)).trans (HSB.out.block b hb)⟩)) (by omega))
  have i2a0 := DA2.out.cell 0 _ rfl
  have i2a1 := DA2.out.cell 1 _ rfl
  have i2a2 := DA2.out.cell 2 _ rfl
  have i2a3 := DA2.out.cell 3 _ rfl
  have i2a4 := DA2.out.cell 4 _ rfl
  have i2b2 := DB2.out.cell 2 _ rfl
  have i2d2 := DD2.out.cell 2 _ rfl
  go_region_held3 (fun w' => w'.cell? ⟨w.heap.size, 0, none⟩ = some (.slice aa an ac) ∧ w'.cell? ⟨w.heap.size, 1, none⟩ = some (.slice ra rn rc) ∧ w'.cell? ⟨w.heap.size, 2, none⟩ = some (.slice ca ctrs.length cc) ∧ w'.cell? ⟨w.heap.size, 3, none⟩ = some (.slice la ln lc) ∧ w'.cell? ⟨w.heap.size, 4, none⟩ = some (.int .i64 st) ∧ w'.cell? ⟨w.heap.size + 1, 2, none⟩ = some (.slice xa xn xc) ∧ w'.cell? ⟨gD, 2, none⟩ = some (.slice (some ⟨l, 0, none⟩) (stepsN rows) (stepsN rows))) (first | exact ⟨i2a0, i2a1, i2a2, i2a3, i2a4, i2b2, i2d2⟩ | exact ⟨i3a0, i3a1, i3a2, i3a3, i3a4, i3b2, i3d2⟩ | exact ⟨i4a0, i4a1, i4a2, i4a3, i4a4, i4b2, i4d2⟩) (first
    | (go_at_call 20; (with_reducible refine fK.mono ?_); rintro e w3 ⟨a3, c3, rfl, hI, hb3⟩; have i3a0 := (DA2.out.later hb3 DA2.out.lt).cell 0 _ rfl; have i3a1 := (DA2.out.later hb3 DA2.out.lt).cell 1 _ rfl; have i3a2 := (DA2.out.later hb3 DA2.out.lt).cell 2 _ rfl; have i3a3 := (DA2.out.later hb3 DA2.out.lt).cell 3 _ rfl; have i3a4 := (DA2.out.later hb3 DA2.out.lt).cell 4 _ rfl; have i3b2 := (DB2.out.later hb3 DB2.out.lt).cell 2 _ rfl; have i3d2 := (DD2.out.later hb3 DD2.out.lt).cell 2 _ rfl; have HI3 := Lib.hid hI; have H3 := Lib.hid hb3; have fT := FT.out w3 a3 c3 hI hb3; clear hI hb3)
    | (go_at_call 19; (with_reducible refine fT.mono ?_); rintro e w4 ⟨rfl, hR4, hg4⟩; have i4a0 := ((DA2.out.later H3.out DA2.out.lt).kept hg4 (fun e => by have h1 := Option.some.inj e; have h2 := HNU.out; have h3 := HGL.out; have h4 := HSZ.out; omega)).cell 0 _ rfl; have i4a1 := ((DA2.out.later H3.out DA2.out.lt).kept hg4 (fun e => by have h1 := Option.some.inj e; have h2 := HNU.out; have h3 := HGL.out; have h4 := HSZ.out; omega)).cell 1 _ rfl; have i4a2 := ((DA2.out.later H3.out DA2.out.lt).kept hg4 (fun e => by have h1 := Option.some.inj e; have h2 := HNU.out; have h3 := HGL.out; have h4 := HSZ.out; omega)).cell 2 _ rfl; have i4a3 := ((DA2.out.later H3.out DA2.out.lt).kept hg4 (fun e => by have h1 := Option.some.inj e; have h2 := HNU.out; have h3 := HGL.out; have h4 := HSZ.out; omega)).cell 3 _ rfl; have i4a4 := ((DA2.out.later H3.out DA2.out.lt).kept hg4 (fun e => by have h1 := Option.some.inj e; have h2 := HNU.out; have h3 := HGL.out; have h4 := HSZ.out; omega)).cell 4 _ rfl; have i4b2 := ((DB2.out.later H3.out DB2.out.lt).kept hg4 (fun e => by have h1 := Option.some.inj e; have h2 := HNU.out; have h3 := HGL.out; have h4 := HSZ.out; omega)).cell 2 _ rfl; have i4d2 := ((DD2.out.later H3.out DD2.out.lt).kept hg4 (fun e => by have h1 := Option.some.inj e; have h2 := HNU.out; have h3 := HGL.out; have h4 := HSZ.out; omega)).cell 2 _ rfl; have R4 := Lib.hid hR4; have G4 := Lib.hid hg4; clear hR4 hg4))
  have HB4 := Lib.hid (show Below w0.heap.size w0 w4 from ((HBD.out.trans (H3.out.mono HBD.out.size)).grown G4.out (Nat.le_trans HBD.out.size H3.out.size) (fun g hg => by have h1 := Option.some.inj hg; have h2 := HNU.out.1.2.1; omega)))
  have DA4 := Lib.hid (DA.out.later HB4.out DA.out.lt)
  have DB4 := Lib.hid (DB.out.later HB4.out DB.out.lt)
  have DC4 := Lib.hid (DC.out.later HB4.out DC.out.lt)
  have DD4 := Lib.hid ((DD2.out.later H3.out DD2.out.lt).kept G4.out (fun e => by have := Option.some.inj e; have := HGL.out; omega))
  have UU4 := Lib.hid (show BoolBlk w4 u (copyB (List.replicate (stepsN rows) false) up) from Blk.kept (Blk.later UU2.out H3.out UU2.out.lt) G4.out (fun e => HNU.out.2.1 (Option.some.inj e).symm))
  have KK4 := Lib.hid (show IntBlk w4 k (List.replicate ctrs.length 0) from Blk.kept (Blk.later KK2.out H3.out KK2.out.lt) G4.out (fun e => HNU.out.2.2.2 (Option.some.inj e)))
  have q4d := DD4.out.cell 3 _ rfl
  have q4b := DB4.out.cell 3 _ rfl
  obtain ⟨cs2, hcs2⟩ : ∃ cs2, cs2 = (cnt.take (List.replicate ctrs.length (0 : Int)).length).map (Value.int .i64) := ⟨_, rfl⟩
  have HC2 := Lib.hid hcs2
  obtain ⟨o2, ho2⟩ : ∃ o2, o2 = (List.replicate ctrs.length (0 : Int)).map (Value.int .i64) := ⟨_, rfl⟩
  have HO2 := Lib.hid ho2
  have IX := Lib.hid (ints_src (m := (List.replicate ctrs.length (0 : Int)).length) (HCN.out.move (w' := w4) (ok' := fun _ => True) (fun b hb => ⟨trivial, ((HB.out.trans (HB4.out.mono HB.out.size)).block b hb)⟩)))
  clear hcs2 ho2 fT
  go_wp2_with ((with_reducible show wpList _ _ _ _ _ _); (refine wpList_copy_grown rfl (.tmp 27) (.tmp 29) 27 27 rfl 3 Tryz.underlying27 hszI k ka ctrs.length ctrs.length kn kc rfl rfl o2 3 (by rw [HO2.out]; exact KK4.out) cs2 (by rw [HC2.out, IX.out.1]; simp) (by rw [HC2.out]; exact IX.out.2.1) (by rw [HC2.out, HO2.out, IX.out.1]; simp; exact Nat.min_le_right _ _) (by rw [HC2.out]; exact IX.out.2.2) ?_); intro w5 hK5 hg5; have KK5 := Lib.hid (show IntBlk w5 k (copyI (List.replicate ctrs.length 0) cnt) from by unfold IntBlk; rw [← splice_I, ← HO2.out, ← HC2.out]; exact hK5.out); have G5 := Lib.hid hg5; have A5 := Lib.hid (DA4.out.kept hg5 (fun e => by have h1 := Option.some.inj e; have h2 := HNU.out; have h3 := HGL.out; have h4 := HSZ.out; omega)); have v50 := A5.out.cell 0 _ rfl; have v51 := A5.out.cell 1 _ rfl; have v52 := A5.out.cell 2 _ rfl; have v53 := A5.out.cell 3 _ rfl; have v54 := A5.out.cell 4 _ rfl; have v52f := (A5.out.alloc_old (.cells #[.slice aa an ac, .slice ra rn rc, .slice ca ctrs.length cc, .slice la ln lc, .int .i64 st, .slice ta tn tc] 58)).cell 2 _ rfl; clear hK5 hg5)
  have HK5B := Lib.hid (show Below w0.heap.size w0 w5 from HB4.out.grown G5.out HB4.out.size (fun g hg => by have h1 := Option.some.inj hg; have h2 := HNU.out.1.2.2; omega))
  have hgD5 : gD < w4.heap.size ∧ u < w4.heap.size ∧ l < w4.heap.size ∧ k < w4.heap.size := ⟨DD4.out.lt, UU4.out.lt, R4.out.lt, KK4.out.lt⟩
  have hF6 := Blk.alloc (w := w5) (T := 58) [.slice aa an ac, .slice ra rn rc, .slice ca ctrs.length cc, .slice la ln lc, .int .i64 st, .slice ta tn tc]
  have hb56 := (Below.refl w5.heap.size w5).alloc (Nat.le_refl _) (.cells #[.slice aa an ac, .slice ra rn rc, .slice ca ctrs.length cc, .slice la ln lc, .int .i64 st, .slice ta tn tc] 58)
  have hD6 : Blk (w5.alloc (.cells #[.slice aa an ac, .slice ra rn rc, .slice ca ctrs.length cc, .slice la ln lc, .int .i64 st, .slice ta tn tc] 58)) gD [.bool false, .slice (some ⟨u, 0, none⟩) (stepsN rows) (stepsN rows), .slice (some ⟨l, 0, none⟩) (stepsN rows) (stepsN rows), .slice (some ⟨k, 0, none⟩) ctrs.length ctrs.length] 29 := Blk.later (Blk.kept DD4.out G5.out (fun e => by have := Option.some.inj e; have := HGL.out; omega)) hb56 (by have := G5.out.size; omega)
  have hU6 : BoolBlk (w5.alloc (.cells #[.slice aa an ac, .slice ra rn rc, .slice ca ctrs.length cc, .slice la ln lc, .int .i64 st, .slice ta tn tc] 58)) u _ := Blk.later (Blk.kept UU4.out G5.out (fun e => HNU.out.2.2.1 (Option.some.inj e).symm)) hb56 (by have := G5.out.size; omega)
  have hR6 : BoolBlk (w5.alloc (.cells #[.slice aa an ac, .slice ra rn rc, .slice ca ctrs.length cc, .slice la ln lc, .int .i64 st, .slice ta tn tc] 58)) l _ := Blk.later (Blk.kept R4.out G5.out (fun e => HNU.out.2.2.2 (Option.some.inj e).symm)) hb56 (by have := G5.out.size; omega)
  have hK6 : IntBlk (w5.alloc (.cells #[.slice aa an ac, .slice ra rn rc, .slice ca ctrs.length cc, .slice la ln lc, .int .i64 st, .slice ta tn tc] 58)) k _ := Blk.later KK5.out hb56 KK5.out.lt
  have hC6 : Blk (w5.alloc (.cells #[.slice aa an ac, .slice ra rn rc, .slice ca ctrs.length cc, .slice la ln lc, .int .i64 st, .slice ta tn tc] 58)) (w.heap.size + 1 + 1) [.bool false, .slice none 0 0, .slice none 0 0, .slice none 0 0] 29 := Blk.later (Blk.kept DC4.out G5.out (fun e => by have h1 := Option.some.inj e; have h2 := HNU.out; have h4 := HSZ.out; omega)) hb56 (by have := G5.out.size; have := HB4.out.size; have := HSZ.out; omega)
  have hB6 : Below w.heap.size w (w5.alloc (.cells #[.slice aa an ac, .slice ra rn rc, .slice ca ctrs.length cc, .slice la ln lc, .int .i64 st, .slice ta tn tc] 58)) := (HB.out.trans (HK5B.out.mono HB.out.size)).trans (hb56.mono (by have := HB.out.size; have := HK5B.out.size; omega))
  have hgF : gD < w5.heap.size ∧ u < w5.heap.size ∧ l < w5.heap.size ∧ k < w5.heap.size := by have := G5.out.size; omega
  generalize hw6 : w5.alloc (.cells #[.slice aa an ac, .slice ra rn rc, .slice ca ctrs.length cc, .slice la ln lc, .int .i64 st, .slice ta tn tc] 58) = w6 at *
  generalize hgf : w5.heap.size = gF at *
  have HF6 := Lib.hid hF6
  have HD6 := Lib.hid hD6
  have HU6 := Lib.hid hU6
  have HR6 := Lib.hid hR6
  have HC6 := Lib.hid hC6
  have HB6 := Lib.hid hB6
  have HGF := Lib.hid hgF
  have HCT := Lib.hid (show Rg 3 ctCells RCt (· < w.heap.size) w ca ctrs.length cc ctrs from HPL.out.rd.ctrs)
  have HBS := Lib.hid (show (copyI (List.replicate ctrs.length 0) cnt).length = ctrs.length from by rw [copyI_len]; simp)
  have HBB := Lib.hid (fun (i : Nat) => copyI_bd (dst := List.replicate ctrs.length 0) (src := cnt) (M := 1099511627776) (fun x hx => by rw [List.eq_of_mem_replicate hx]; omega) HCB.out i (by omega))
  have HK6 := Lib.hid (show IntBlk w6 k (nxtI rows truths ctrs (copyI (List.replicate ctrs.length 0) cnt) 0) from by rw [nxtI_zero]; exact hK6)
  generalize hbase : copyI (List.replicate ctrs.length 0) cnt = base at *
  clear hF6 hD6 hU6 hR6 hC6 hB6 hgF hb56 hK6 hw6 hgf hgD5 hbase v50 v51 v52 v53 v54 v52f A5 KK5 G5 UU4 KK4 R4 DD4 DC4 DB4 DA4 HB4 G4 H3 HI3 q4d q4b IX HC2 HO2 HC1 HO1 HK5B
  go_loopw [37] (fun iv wr => ∃ i : Nat, i ≤ ctrs.length ∧ iv = .int .i64 i ∧ Hid (IntBlk wr k (nxtI rows truths ctrs base i)) ∧ Hid (w6.grownBy wr (some k))) (fun iv _ => ctrs.length - (intOf iv).toNat)
  case atStart => exact ⟨0, Nat.zero_le _, rfl, HK6, Lib.hid (World.grownBy.refl _ _)⟩
  case round =>
    obtain ⟨i, hi, rfl, HK, HG⟩ := hrel
    obtain ⟨wo, hwo⟩ : ∃ wo, wo = wr := ⟨_, rfl⟩
    subst hwo
    have HST := Lib.hid (fun b (hb : b < w6.heap.size) (hne : b ≠ k) => HG.out.block b hb (fun e => hne (Option.some.inj e)))
    have HBO := Lib.hid (show Below w.heap.size w wo from HB6.out.grown HG.out HB6.out.size (fun g hg => by have h1 := Option.some.inj hg; have h2 := HNU.out.1.2.2; have := HB.out.size; omega))
    have DO := Lib.hid (Blk.kept HD6.out HG.out (fun e => by have := Option.some.inj e; have := HGL.out; omega))
    have FO := Lib.hid (Blk.kept HF6.out HG.out (fun e => by have := Option.some.inj e; have := HGF.out; omega))
    by_cases hlt : i < ctrs.length
    · obtain ⟨c, hc⟩ : ∃ c, ctrs[i]? = some c := ⟨_, List.getElem?_eq_getElem hlt⟩
      obtain ⟨b, off, rfl, hb, ya, yn, yc, hk1, hk2⟩ := HCT.out.at i c hc
      have hk2 : IntsAt (· < w.heap.size) w ya yn yc c.rows := hk2
      have u0 : wo.cell? ⟨b, off + i * 3, none⟩ = some (.int .i64 c.a) := (HBO.out.cell (p := ⟨b, off + i * 3, none⟩) hb).trans (hk1 0 _ rfl)
      have u1 : wo.cell? ⟨b, off + i * 3 + 1, none⟩ = some (.int .i64 c.b) := (HBO.out.cell (p := ⟨b, off + i * 3 + 1, none⟩) hb).trans (hk1 1 _ rfl)
      have u2 : wo.cell? ⟨b, off + i * 3 + 2, none⟩ = some (.slice ya yn yc) := (HBO.out.cell (p := ⟨b, off + i * 3 + 2, none⟩) hb).trans (hk1 2 _ rfl)
      have hiI : (0 : Int) ≤ (i : Int) := by omega
      have hiI2 : (i : Int) < (ctrs.length : Int) := by omega
      have hbn := (Below.refl wo.heap.size wo).alloc (Nat.le_refl _) (.cells #[.int .i64 c.a, .int .i64 c.b, .slice ya yn yc] 62)
      have HBN := Lib.hid hbn
      have J := Lib.hid (Blk.alloc (w := wo) (T := 62) [.int .i64 c.a, .int .i64 c.b, .slice ya yn yc])
      have j0 := J.out.cell 0 _ rfl
      have j1 := J.out.cell 1 _ rfl
      have j2 := J.out.cell 2 _ rfl
      have hBN : Below w.heap.size w (wo.alloc (.cells #[.int .i64 c.a, .int .i64 c.b, .slice ya yn yc] 62)) := HBO.out.trans (hbn.mono HBO.out.size)
      have FC := counts_any (w := wo.alloc (.cells #[.int .i64 c.a, .int .i64 c.b, .slice ya yn yc] 62)) (g := gF) (by rw [HPF.out]; exact FO.out.later hbn FO.out.lt) (HPL.out.later hBN) (HTR.out.later hBN) (c := c) (hk2.later hBN)
      have HAB := Lib.hid (HPL.out.ab c (List.mem_of_getElem? hc))
      have FM := Lib.hid (fun wx => more_any (w := wx) c ya yn yc HAB.out (atI base i) (HBB.out i))
      have HCI := Lib.hid (show ((nxtI rows truths ctrs base i).map (Value.int .i64))[i]? = some (.int .i64 (atI base i)) from by rw [List.getElem?_map, nxtI_at (by rw [HBS.out]; exact hlt)]; rfl)
      have HYES := Lib.hid (fun h => nxtI_yes (rows := rows) (truths := truths) (base := base) hc (by rw [HBS.out]; exact hlt) h)
      have HNO := Lib.hid (fun h => nxtI_no (rows := rows) (truths := truths) (base := base) hc h)
      clear hc hk1 hk2 hb hbn hBN
      cases hcb2 : countsB rows truths c with
      | false =>
        rw [hcb2] at FC
        have HNX := Lib.hid (HNO.out hcb2)
        clear hcb2
        go_wp2_with (go_at_call 21; (with_reducible refine FC.mono ?_); rintro e w8 ⟨rfl, hb8⟩; have H8 := Lib.hid (below_trans HBN.out hb8); clear FC)
        go_roundw
        case rel => exact ⟨i + 1, by omega, by go_num, Lib.hid (by rw [HNX.out]; exact Blk.later HK.out H8.out HK.out.lt), Lib.hid (grown_later HG.out H8.out)⟩
        case measure => simp [intOf]; omega
      | true =>
        rw [hcb2] at FC
        have HNX := Lib.hid (HYES.out hcb2)
        clear hcb2
        go_wp2_with (go_at_call 21; (with_reducible refine FC.mono ?_); rintro e w8 ⟨rfl, hb8⟩; have H8 := Lib.hid (below_trans HBN.out hb8); have hJ8 := J.out.later hb8 J.out.lt; have k0 : w8.drew.cell? ⟨wo.heap.size, 0, none⟩ = _ := hJ8.cell 0 _ rfl; have k1 : w8.drew.cell? ⟨wo.heap.size, 1, none⟩ = _ := hJ8.cell 1 _ rfl; have k2 : w8.drew.cell? ⟨wo.heap.size, 2, none⟩ = _ := hJ8.cell 2 _ rfl; clear FC hJ8)
        have m3 : w8.drew.cell? ⟨gD, 3, none⟩ = _ := (DO.out.later H8.out DO.out.lt).cell 3 _ rfl
        have n3 : w8.drew.cell? ⟨k, i, none⟩ = _ := (Blk.later HK.out H8.out HK.out.lt).cell i _ HCI.out
        clear u0 u1 u2 j0 j1 j2
        go_region_with (go_at_call 22; (with_reducible refine (FM.out _).mono ?_); rintro e w9 ⟨rfl, hb9⟩; have H9 := Lib.hid (H8.out.drew.trans (hb9.mono H8.out.drew.size)); have m9 := (DO.out.later H9.out DO.out.lt).cell 3 _ rfl; have n9 := (Blk.later HK.out H9.out HK.out.lt).cell i _ HCI.out; have o9 := (Blk.later HK.out H9.out HK.out.lt).frozen i; clear hb9)
        all_goals
          have HKN := Lib.hid (show IntBlk (w9.setCell ⟨k, i, none⟩ (.int .i64 (moreF c.a c.b (atI base i)))) k (nxtI rows truths ctrs base (i + 1)) from by rw [HNX.out]; unfold IntBlk; rw [List.map_set]; exact Blk.setCell (Blk.later HK.out H9.out HK.out.lt) i _)
          have HGN := Lib.hid (grown_write (grown_later HG.out H9.out) i (.int .i64 (moreF c.a c.b (atI base i))))
          clear m9 n9 o9 m3 n3 k0 k1 k2
          go_wp2
          go_roundw
          case rel => exact ⟨i + 1, by omega, by go_num, HKN, HGN⟩
          case measure => simp [intOf]; omega
    · obtain rfl : i = ctrs.length := by omega
      have hiI2 : ¬ (ctrs.length : Int) < (ctrs.length : Int) := by omega
      have p0 := DO.out.cell 0 _ rfl
      have p1 := DO.out.cell 1 _ rfl
      have p2 := DO.out.cell 2 _ rfl
      have p3 := DO.out.cell 3 _ rfl
      have hne : w.heap.size + 1 + 1 ≠ u ∧ w.heap.size + 1 + 1 ≠ l ∧ w.heap.size + 1 + 1 ≠ k := by
        have h2 := HNU.out
        have h4 := HSZ.out
        omega
      have CO := Lib.hid (Blk.kept HC6.out HG.out (fun e => hne.2.2 (Option.some.inj e).symm))
      have r0 := CO.out.cell 0 _ rfl
      have s0 := CO.out.frozen 0
      have r1 := CO.out.cell 1 _ rfl
      have s1 := CO.out.frozen 1
      have r2 := CO.out.cell 2 _ rfl
      have s2 := CO.out.frozen 2
      have r3 := CO.out.cell 3 _ rfl
      have s3 := CO.out.frozen 3
      have CC : CtxAt wo w.heap.size u l k (copyB (List.replicate (stepsN rows) false) up) (tellF 4 3 (keptF rows) left truths (List.replicate (stepsN rows) false)) (nxtI rows truths ctrs base ctrs.length) :=
        ⟨by have := HNU.out; have := HSZ.out; omega, by have := HNU.out; have := HSZ.out; omega, by have := HNU.out; have := HSZ.out; omega, HNU.out.2.1, HNU.out.2.2.1, HNU.out.2.2.2,
          Blk.kept HU6.out HG.out (fun e => HNU.out.2.2.1 (Option.some.inj e).symm), Blk.kept HR6.out HG.out (fun e => HNU.out.2.2.2 (Option.some.inj e).symm), HK.out⟩
      obtain ⟨⟨t0, t1, t2, t3⟩, CF, BF⟩ := ctx_fin (root := false) (n := stepsN rows) (m := ctrs.length) HBO.out (by omega : w.heap.size ≤ w.heap.size + 1 + 1) CC hne.1 hne.2.1 hne.2.2 CO.out
      have HCF := Lib.hid CF
      have HBF := Lib.hid BF
      clear CF BF CC
      go_wp2
      (with_reducible refine bodyPost_ret (v := ctxV false u l k (stepsN rows) ctrs.length) ?_ rfl (newCtx_mk HCF.out HBF.out))
      simp [results, Tryz.results9, go_sem, ctxV, t0, t1, t2, t3]
end
end Go.Proofs.YtcfhggdiccilaaaGreat
