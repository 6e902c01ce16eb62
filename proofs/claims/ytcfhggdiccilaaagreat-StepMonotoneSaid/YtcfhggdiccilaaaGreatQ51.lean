/- Texts of mine in one: Tr2. -/
import Derived.Deep.RegionHeld3
import Derived.Deep.RegionLaw
import Derived.Deep.DeepCutAuto
import Derived.Test.YtcfhggdiccilaaaGreatQ50
import Derived.Test.YtcfhggdiccilaaaGreatQ38
import Derived.Test.YtcfhggdiccilaaaGreatQ34
import Derived.Test.YtcfhggdiccilaaaGreatQ01
namespace Go.Proofs.YtcfhggdiccilaaaGreat
section
open Go.RowKit
set_option linter.unusedVariables false
set_option linter.unusedSimpArgs false
def rowsAB : List RowF := [⟨0, [(0, [.mk 1 0 []]), (2, [.mk 1 1 []])], ⟨#[]⟩⟩]
def TrP (x : Bool) (w : World) (e : Ending) (w' : World) : Prop := ∃ (a : Option Addr) (c : Nat), e = .returned (.slice a 2 c) ∧ BoolsAt (fun b => w.heap.size ≤ b ∧ b < w'.heap.size) w' a 2 c [x, false] ∧ Below w.heap.size w w'
theorem mk_trs (w : World) : (Instr.makeSlice 26 (.int .i64 0) (.int .i64 2)).run Tryz.prog w = .ok (.slice (some ⟨w.heap.size, 0, none⟩) 0 2) (w.alloc (.cells #[.bool false, .bool false] 4)) := by kernel_rfl
theorem store11 {w w0 : World} {g B : Nat} {x0 x1 x2 x3 x4 x5 x6 x7 x8 x9 x10 v0 v1 v2 v3 v4 v5 v6 v7 v8 v9 v10 : Value} {T : TypeId} (h : Blk w g [x0, x1, x2, x3, x4, x5, x6, x7, x8, x9, x10] T) (hB : Below B w0 w) (hg : B ≤ g) :
    Blk (((((((((((w.setCell ⟨g, 0, none⟩ v0).setCell ⟨g, 1, none⟩ v1).setCell ⟨g, 2, none⟩ v2).setCell ⟨g, 3, none⟩ v3).setCell ⟨g, 4, none⟩ v4).setCell ⟨g, 5, none⟩ v5).setCell ⟨g, 6, none⟩ v6).setCell ⟨g, 7, none⟩ v7).setCell ⟨g, 8, none⟩ v8).setCell ⟨g, 9, none⟩ v9).setCell ⟨g, 10, none⟩ v10) g [v0, v1, v2, v3, v4, v5, v6, v7, v8, v9, v10] T ∧ w.grownBy (((((((((((w.setCell ⟨g, 0, none⟩ v0).setCell ⟨g, 1, none⟩ v1).setCell ⟨g, 2, none⟩ v2).setCell ⟨g, 3, none⟩ v3).setCell ⟨g, 4, none⟩ v4).setCell ⟨g, 5, none⟩ v5).setCell ⟨g, 6, none⟩ v6).setCell ⟨g, 7, none⟩ v7).setCell ⟨g, 8, none⟩ v8).setCell ⟨g, 9, none⟩ v9).setCell ⟨g, 10, none⟩ v10) (some g) ∧ Below B w0 (((((((((((w.setCell ⟨g, 0, none⟩ v0).setCell ⟨g, 1, none⟩ v1).setCell ⟨g, 2, none⟩ v2).setCell ⟨g, 3, none⟩ v3).setCell ⟨g, 4, none⟩ v4).setCell ⟨g, 5, none⟩ v5).setCell ⟨g, 6, none⟩ v6).setCell ⟨g, 7, none⟩ v7).setCell ⟨g, 8, none⟩ v8).setCell ⟨g, 9, none⟩ v9).setCell ⟨g, 10, none⟩ v10) :=
  ⟨(((((((((((h.setCell 0 v0).setCell 1 v1).setCell 2 v2).setCell 3 v3).setCell 4 v4).setCell 5 v5).setCell 6 v6).setCell 7 v7).setCell 8 v8).setCell 9 v9).setCell 10 v10), (grown_write ((grown_write ((grown_write ((grown_write ((grown_write ((grown_write ((grown_write ((grown_write ((grown_write ((grown_write ((grown_write (World.grownBy.refl w (some g)) 0 v0)) 1 v1)) 2 v2)) 3 v3)) 4 v4)) 5 v5)) 6 v6)) 7 v7)) 8 v8)) 9 v9)) 10 v10), (((((((((((hB.setCell (p := ⟨g, 0, none⟩) hg v0).setCell (p := ⟨g, 1, none⟩) hg v1).setCell (p := ⟨g, 2, none⟩) hg v2).setCell (p := ⟨g, 3, none⟩) hg v3).setCell (p := ⟨g, 4, none⟩) hg v4).setCell (p := ⟨g, 5, none⟩) hg v5).setCell (p := ⟨g, 6, none⟩) hg v6).setCell (p := ⟨g, 7, none⟩) hg v7).setCell (p := ⟨g, 8, none⟩) hg v8).setCell (p := ⟨g, 9, none⟩) hg v9).setCell (p := ⟨g, 10, none⟩) hg v10)⟩
def kx (x : Bool) (k : Nat) : Bool := if k = 0 then false else x
set_option maxRecDepth 100000 in
set_option maxHeartbeats 8000000 in
theorem truths_ab {w : World} {P : PlV} {X : CxV} (h : PlRd (· < w.heap.size) w P rowsAB []) {left : List Bool} {cnt : List Int} (hx : CxRd (· < w.heap.size) w X [false, false] left cnt) {ha : Option Addr} {hc : Nat} {x y : Bool} (hh : BoolsAt (· < w.heap.size) w ha 2 hc [x, y]) :
    Calls Tryz.prog 15 #[P.val, X.val, .slice ha 2 hc] w (TrP x w) := by
  have hmk := mk_trs
  obtain ⟨aa, an, ac, ra, rn, rc, ca, cn, cc, la, ln, lc, st⟩ := P
  obtain ⟨root, ua, un, uc, xa, xn, xc, ka, kn, kc⟩ := X
  unfold PlV.val CxV.val at *
  dsimp only at *
  obtain rfl : rn = 1 := h.rows.1
  obtain ⟨rb, ro, rfl, hrb, sa, sn, sc, hr, hs⟩ := h.rows.at 0 _ rfl
  have hs : Rg 2 stCells RSt (· < w.heap.size) w sa sn sc [(0, [.mk 1 0 []]), (2, [.mk 1 1 []])] := hs
  obtain rfl : sn = 2 := hs.1
  obtain ⟨sb, so, rfl, hsb, ta0, tn0, tc0, hs0, ht0⟩ := hs.at 0 _ rfl
  obtain ⟨sb', so', hse, hsb', ta1, tn1, tc1, hs1, ht1⟩ := hs.at 1 _ rfl
  obtain ⟨rfl, rfl⟩ : sb = sb' ∧ so = so' := by have := Option.some.inj hse; injection this with h1 h2; exact ⟨h1, h2⟩
  have ht0 : TmsAt 6 (· < w.heap.size) w ta0 tn0 tc0 [.mk 1 0 []] := ht0
  have ht1 : TmsAt 6 (· < w.heap.size) w ta1 tn1 tc1 [.mk 1 1 []] := ht1
  obtain rfl : tn0 = 1 := by have h1 : Rg 3 tmCells (fun ok w a n c t => TmsAt 5 ok w a n c t.subs) (· < w.heap.size) w ta0 tn0 tc0 [.mk 1 0 []] := ht0; exact h1.1
  obtain rfl : tn1 = 1 := by have h1 : Rg 3 tmCells (fun ok w a n c t => TmsAt 5 ok w a n c t.subs) (· < w.heap.size) w ta1 tn1 tc1 [.mk 1 1 []] := ht1; exact h1.1
  rw [Nat.zero_mul, Nat.add_zero] at hr hs0
  have KR := Lib.hid (show w.cell? ⟨rb, ro, none⟩ = some (.int .i64 0) ∧ w.cell? ⟨rb, ro + 1, none⟩ = some (.slice (some ⟨sb, so, none⟩) 2 sc) ∧ w.cell? ⟨rb, ro + 2, none⟩ = some (.string ⟨#[]⟩) from ⟨hr 0 _ rfl, hr 1 _ rfl, hr 2 _ rfl⟩)
  have KT := Lib.hid (show w.cell? ⟨sb, so, none⟩ = some (.int .i64 0) ∧ w.cell? ⟨sb, so + 1, none⟩ = some (.slice ta0 1 tc0) ∧ w.cell? ⟨sb, so + 2, none⟩ = some (.int .i64 2) ∧ w.cell? ⟨sb, so + 3, none⟩ = some (.slice ta1 1 tc1) from ⟨hs0 0 _ rfl, hs0 1 _ rfl, hs1 0 _ rfl, hs1 1 _ rfl⟩)
  have HRB := Lib.hid hrb
  have HSB := Lib.hid hsb
  have HT0 := Lib.hid ht0
  have HT1 := Lib.hid ht1
  have hb1 := (Below.refl w.heap.size w).alloc (Nat.le_refl _) (.cells #[.slice aa an ac, .slice (some ⟨rb, ro, none⟩) 1 rc, .slice ca cn cc, .slice la ln lc, .int .i64 st] 37)
  have hb2 := hb1.alloc hb1.size (.cells #[.bool root, .slice ua un uc, .slice xa xn xc, .slice ka kn kc] 29)
  have dA := (Blk.alloc (w := w) (T := 37) [.slice aa an ac, .slice (some ⟨rb, ro, none⟩) 1 rc, .slice ca cn cc, .slice la ln lc, .int .i64 st]).alloc_old (.cells #[.bool root, .slice ua un uc, .slice xa xn xc, .slice ka kn kc] 29)
  have dB := Blk.alloc (w := w.alloc (.cells #[.slice aa an ac, .slice (some ⟨rb, ro, none⟩) 1 rc, .slice ca cn cc, .slice la ln lc, .int .i64 st] 37)) (T := 29) [.bool root, .slice ua un uc, .slice xa xn xc, .slice ka kn kc]
  rw [show (w.alloc (.cells #[.slice aa an ac, .slice (some ⟨rb, ro, none⟩) 1 rc, .slice ca cn cc, .slice la ln lc, .int .i64 st] 37)).heap.size = w.heap.size + 1 from by simp] at dB
  obtain ⟨w0, hw0⟩ : ∃ w0, (w.alloc (.cells #[.slice aa an ac, .slice (some ⟨rb, ro, none⟩) 1 rc, .slice ca cn cc, .slice la ln lc, .int .i64 st] 37)).alloc (.cells #[.bool root, .slice ua un uc, .slice xa xn xc, .slice ka kn kc] 29) = w0 := ⟨_, rfl⟩
  have hsz : w0.heap.size = w.heap.size + 2 := by rw [← hw0]; simp
  rw [hw0] at hb2 dA dB
  have HBW := Lib.hid hb2
  have HSZ := Lib.hid hsz
  have DA := Lib.hid dA
  have DB := Lib.hid dB
  have HPL := Lib.hid h
  have HX := Lib.hid hx
  have HH := Lib.hid hh
  have FS := Lib.hid (fun (wx : World) (hb : Below w0.heap.size w0 wx) => show Calls Tryz.prog 27 #[.agg #[.slice aa an ac, .slice (some ⟨rb, ro, none⟩) 1 rc, .slice ca cn cc, .slice la ln lc, .int .i64 st]] wx (Told (.int .i64 2) wx) from steps_any (P := ⟨aa, an, ac, (some ⟨rb, ro, none⟩), 1, rc, ca, cn, cc, la, ln, lc, st⟩) (HPL.out.later (HBW.out.trans (hb.mono HBW.out.size))) (by decide))
  have HHA := Lib.hid (fun (wx : World) (hb : Below w0.heap.size w0 wx) => show BoolsAt (· < wx.heap.size) wx ha 2 hc [x, y] from HH.out.move (fun b h => ⟨Nat.lt_of_lt_of_le h (HBW.out.trans (hb.mono HBW.out.size)).size, (HBW.out.trans (hb.mono HBW.out.size)).block b h⟩))
  have HUA := Lib.hid (fun (wx : World) (hb : Below w0.heap.size w0 wx) => show BoolsAt (· < wx.heap.size) wx ua un uc [false, false] from HX.out.up.move (fun b h => ⟨Nat.lt_of_lt_of_le h (HBW.out.trans (hb.mono HBW.out.size)).size, (HBW.out.trans (hb.mono HBW.out.size)).block b h⟩))
  have HTA := Lib.hid (fun (wx : World) (hb : Below w0.heap.size w0 wx) => show TmsAt 6 (· < wx.heap.size) wx ta0 1 tc0 [.mk 1 0 []] from TmsAt_moves 6 _ _ _ _ _ _ _ _ (fun b h => ⟨Nat.lt_of_lt_of_le h (HBW.out.trans (hb.mono HBW.out.size)).size, (HBW.out.trans (hb.mono HBW.out.size)).block b h⟩) HT0.out)
  clear h hx hh hb1 hb2 dA dB hsz hr hs hs0 hs1 ht0 ht1 hrb hsb hsb' hse
  go_enter Tryz.func15, Tryz.ntmps15
  go_wp2_with fail
  have HD0 := Lib.hid (show Below w0.heap.size w0 w0.drew from (Below.refl _ _).drew)
  have KS := Lib.hid (fun (wx : World) (hb : Below w0.heap.size w0 wx) => show wx.cell? ⟨w.heap.size, 0, none⟩ = some (.slice aa an ac) ∧ wx.cell? ⟨w.heap.size, 1, none⟩ = some (.slice (some ⟨rb, ro, none⟩) 1 rc) ∧ wx.cell? ⟨w.heap.size, 2, none⟩ = some (.slice ca cn cc) ∧ wx.cell? ⟨w.heap.size, 3, none⟩ = some (.slice la ln lc) ∧ wx.cell? ⟨w.heap.size, 4, none⟩ = some (.int .i64 st) ∧ wx.cell? ⟨w.heap.size + 1, 0, none⟩ = some (.bool root) ∧ wx.cell? ⟨w.heap.size + 1, 1, none⟩ = some (.slice ua un uc) ∧ wx.cell? ⟨w.heap.size + 1, 2, none⟩ = some (.slice xa xn xc) ∧ wx.cell? ⟨w.heap.size + 1, 3, none⟩ = some (.slice ka kn kc) ∧ Below w0.heap.size w0 wx from ⟨(DA.out.later hb DA.out.lt).cell 0 _ rfl, (DA.out.later hb DA.out.lt).cell 1 _ rfl, (DA.out.later hb DA.out.lt).cell 2 _ rfl, (DA.out.later hb DA.out.lt).cell 3 _ rfl, (DA.out.later hb DA.out.lt).cell 4 _ rfl, (DB.out.later hb DB.out.lt).cell 0 _ rfl, (DB.out.later hb DB.out.lt).cell 1 _ rfl, (DB.out.later hb DB.out.lt).cell 2 _ rfl, (DB.out.later hb DB.out.lt).cell 3 _ rfl, hb⟩)
  go_cut [7] from 12 to 19 (fun s7 wx => ∃ (wy : World) (g gT : Nat), wy = wx ∧ s7 = .pointer (some ⟨g, 0, none⟩) ∧ Hid (Blk wx g [.slice aa an ac, .slice (some ⟨rb, ro, none⟩) 1 rc, .slice ca cn cc, .slice la ln lc, .int .i64 st, .slice (some ⟨gT, 0, none⟩) 0 2, .bool root, .slice ua un uc, .slice xa xn xc, .slice ka kn kc, .slice ha 2 hc] 75) ∧ Hid (Blk wx gT [.bool false, .bool false] 4) ∧ Hid (g ≠ gT) ∧ Hid (w0.heap.size ≤ g ∧ w0.heap.size ≤ gT) ∧ Hid (Below w0.heap.size w0 wx))
  case first =>
    refine wp_region_held_drew (S := fun wx => wx.cell? ⟨w.heap.size, 0, none⟩ = some (.slice aa an ac) ∧ wx.cell? ⟨w.heap.size, 1, none⟩ = some (.slice (some ⟨rb, ro, none⟩) 1 rc) ∧ wx.cell? ⟨w.heap.size, 2, none⟩ = some (.slice ca cn cc) ∧ wx.cell? ⟨w.heap.size, 3, none⟩ = some (.slice la ln lc) ∧ wx.cell? ⟨w.heap.size, 4, none⟩ = some (.int .i64 st) ∧ wx.cell? ⟨w.heap.size + 1, 0, none⟩ = some (.bool root) ∧ wx.cell? ⟨w.heap.size + 1, 1, none⟩ = some (.slice ua un uc) ∧ wx.cell? ⟨w.heap.size + 1, 2, none⟩ = some (.slice xa xn xc) ∧ wx.cell? ⟨w.heap.size + 1, 3, none⟩ = some (.slice ka kn kc) ∧ Below w0.heap.size w0 wx) (by kernel_rfl) (KS.out _ HD0.out) (fun hHeld => ?_)
    have HB := Lib.hid HD0.out
    generalize hz : w0.drew = z at HB hHeld ⊢
    clear hz HD0
    refine tkH 0 (v := ?_) rfl (Or.inl ⟨by kernel_rfl, ?_⟩) ?_
    rotate_left
    · (intro wq hSw; (try dsimp only at hSw); go_simp; try with_reducible rfl)
    try simp only [Act.put, ssA, ssZ, ssS]
    refine tkH 1 (v := ?_) rfl (Or.inl ⟨by kernel_rfl, ?_⟩) ?_
    rotate_left
    · (intro wq hSw; (try dsimp only at hSw); go_simp; try with_reducible rfl)
    try simp only [Act.put, ssA, ssZ, ssS]
    refine tkH 5 (v := ?_) rfl (Or.inl ⟨by kernel_rfl, ?_⟩) ?_
    rotate_left
    · (intro wq hSw; (try dsimp only at hSw); go_simp; try with_reducible rfl)
    try simp only [Act.put, ssA, ssZ, ssS]
    refine tkH 6 (v := ?_) rfl (Or.inl ⟨by kernel_rfl, ?_⟩) ?_
    rotate_left
    · (intro wq hSw; (try dsimp only at hSw); go_simp; try with_reducible rfl)
    try simp only [Act.put, ssA, ssZ, ssS]
    refine wpAnyH_ready (rs := [2, 8]) (by kernel_rfl) (by simp) ?_
    refine AllReadyH.cons rfl (fun K hK => ?o2n1) (AllReadyH.cons rfl (fun K hK => ?o8n1) AllReadyH.nil)
    case' o2n1 =>
      go_simp
      go_at_call 27
      (with_reducible refine (FS.out z HB.out).mono ?_)
      rintro e z ⟨rfl, hb⟩
      replace HB := Lib.hid (HB.out.trans (hb.mono HB.out.size))
      (try replace bE := Lib.hid (bE.out.later hb bE.out.lt))
      (try replace bT := Lib.hid (bT.out.later hb bT.out.lt))
      clear hb
      go_wp2_with fail
      refine hK.out _ _ (KS.out _ HB.out) (fun hHeld => ?_)
      clear hK K
      try simp only [Act.put, ssA, ssZ, ssS]
      refine wpAnyH_ready (rs := [3, 8]) (by kernel_rfl) (by simp) ?_
      refine AllReadyH.cons rfl (fun K hK => ?o3n2) (AllReadyH.cons rfl (fun K hK => ?o8n2) AllReadyH.nil)
      case' o3n2 =>
        go_simp
        refine hK.out _ _ (KS.out _ (HB.out.alloc HB.out.size _)) (fun hHeld => ?_)
        clear hK K
        try simp only [Act.put, ssA, ssZ, ssS]
        have kb := (Below.refl z.heap.size z).alloc (Nat.le_refl _) (.cells #[.bool false, .bool false] 4)
        have lT := Lib.hid HB.out.size
        have bT := Lib.hid (Blk.alloc (w := z) (T := 4) [.bool false, .bool false])
        (try have nET := Lib.hid (Nat.ne_of_lt bE.out.lt))
        replace HB := Lib.hid (HB.out.alloc HB.out.size (.cells #[.bool false, .bool false] 4))
        (try replace bE := Lib.hid (bE.out.later kb bE.out.lt))
        clear kb
        generalize hg : z.heap.size = gT at *
        clear hg
        generalize hz : z.alloc (.cells #[.bool false, .bool false] 4) = z at *
        clear hz
        refine tkH 4 (v := ?_) rfl (Or.inl ⟨by kernel_rfl, ?_⟩) ?_
        rotate_left
        · (intro wq hSw; (try dsimp only at hSw); go_simp; try with_reducible rfl)
        try simp only [Act.put, ssA, ssZ, ssS]
        refine tkH 7 (v := ?_) rfl (Or.inl ⟨by kernel_rfl, ?_⟩) ?_
        rotate_left
        · (intro wq hSw; (try dsimp only at hSw); go_simp; try with_reducible rfl)
        try simp only [Act.put, ssA, ssZ, ssS]
        refine wpAnyH_ready (rs := [8]) (by kernel_rfl) (by simp) ?_
        refine AllReadyH.cons rfl (fun K hK => ?_) AllReadyH.nil
        go_simp
        refine hK.out _ _ (KS.out _ (HB.out.alloc HB.out.size _)) (fun hHeld => ?_)
        clear hK K
        try simp only [Act.put, ssA, ssZ, ssS]
        have kb := (Below.refl z.heap.size z).alloc (Nat.le_refl _) (.cells #[.slice none 0 0, .slice none 0 0, .slice none 0 0, .slice none 0 0, .int .i64 0, .slice none 0 0, .bool false, .slice none 0 0, .slice none 0 0, .slice none 0 0, .slice none 0 0] 75)
        have lE := Lib.hid HB.out.size
        have bE := Lib.hid (Blk.alloc (w := z) (T := 75) [.slice none 0 0, .slice none 0 0, .slice none 0 0, .slice none 0 0, .int .i64 0, .slice none 0 0, .bool false, .slice none 0 0, .slice none 0 0, .slice none 0 0, .slice none 0 0])
        (try have nET := Lib.hid (Nat.ne_of_gt bT.out.lt))
        replace HB := Lib.hid (HB.out.alloc HB.out.size (.cells #[.slice none 0 0, .slice none 0 0, .slice none 0 0, .slice none 0 0, .int .i64 0, .slice none 0 0, .bool false, .slice none 0 0, .slice none 0 0, .slice none 0 0, .slice none 0 0] 75))
        (try replace bT := Lib.hid (bT.out.later kb bT.out.lt))
        clear kb
        generalize hg : z.heap.size = g at *
        clear hg
        generalize hz : z.alloc (.cells #[.slice none 0 0, .slice none 0 0, .slice none 0 0, .slice none 0 0, .int .i64 0, .slice none 0 0, .bool false, .slice none 0 0, .slice none 0 0, .slice none 0 0, .slice none 0 0] 75) = z at *
        clear hz
      case' o8n2 =>
        go_simp
        refine hK.out _ _ (KS.out _ (HB.out.alloc HB.out.size _)) (fun hHeld => ?_)
        clear hK K
        try simp only [Act.put, ssA, ssZ, ssS]
        have kb := (Below.refl z.heap.size z).alloc (Nat.le_refl _) (.cells #[.slice none 0 0, .slice none 0 0, .slice none 0 0, .slice none 0 0, .int .i64 0, .slice none 0 0, .bool false, .slice none 0 0, .slice none 0 0, .slice none 0 0, .slice none 0 0] 75)
        have lE := Lib.hid HB.out.size
        have bE := Lib.hid (Blk.alloc (w := z) (T := 75) [.slice none 0 0, .slice none 0 0, .slice none 0 0, .slice none 0 0, .int .i64 0, .slice none 0 0, .bool false, .slice none 0 0, .slice none 0 0, .slice none 0 0, .slice none 0 0])
        (try have nET := Lib.hid (Nat.ne_of_gt bT.out.lt))
        replace HB := Lib.hid (HB.out.alloc HB.out.size (.cells #[.slice none 0 0, .slice none 0 0, .slice none 0 0, .slice none 0 0, .int .i64 0, .slice none 0 0, .bool false, .slice none 0 0, .slice none 0 0, .slice none 0 0, .slice none 0 0] 75))
        (try replace bT := Lib.hid (bT.out.later kb bT.out.lt))
        clear kb
        generalize hg : z.heap.size = g at *
        clear hg
        generalize hz : z.alloc (.cells #[.slice none 0 0, .slice none 0 0, .slice none 0 0, .slice none 0 0, .int .i64 0, .slice none 0 0, .bool false, .slice none 0 0, .slice none 0 0, .slice none 0 0, .slice none 0 0] 75) = z at *
        clear hz
        refine wpAnyH_ready (rs := [3]) (by kernel_rfl) (by simp) ?_
        refine AllReadyH.cons rfl (fun K hK => ?_) AllReadyH.nil
        go_simp
        refine hK.out _ _ (KS.out _ (HB.out.alloc HB.out.size _)) (fun hHeld => ?_)
        clear hK K
        try simp only [Act.put, ssA, ssZ, ssS]
        have kb := (Below.refl z.heap.size z).alloc (Nat.le_refl _) (.cells #[.bool false, .bool false] 4)
        have lT := Lib.hid HB.out.size
        have bT := Lib.hid (Blk.alloc (w := z) (T := 4) [.bool false, .bool false])
        (try have nET := Lib.hid (Nat.ne_of_lt bE.out.lt))
        replace HB := Lib.hid (HB.out.alloc HB.out.size (.cells #[.bool false, .bool false] 4))
        (try replace bE := Lib.hid (bE.out.later kb bE.out.lt))
        clear kb
        generalize hg : z.heap.size = gT at *
        clear hg
        generalize hz : z.alloc (.cells #[.bool false, .bool false] 4) = z at *
        clear hz
        refine tkH 4 (v := ?_) rfl (Or.inl ⟨by kernel_rfl, ?_⟩) ?_
        rotate_left
        · (intro wq hSw; (try dsimp only at hSw); go_simp; try with_reducible rfl)
        try simp only [Act.put, ssA, ssZ, ssS]
        refine tkH 7 (v := ?_) rfl (Or.inl ⟨by kernel_rfl, ?_⟩) ?_
        rotate_left
        · (intro wq hSw; (try dsimp only at hSw); go_simp; try with_reducible rfl)
        try simp only [Act.put, ssA, ssZ, ssS]
    case' o8n1 =>
      go_simp
      refine hK.out _ _ (KS.out _ (HB.out.alloc HB.out.size _)) (fun hHeld => ?_)
      clear hK K
      try simp only [Act.put, ssA, ssZ, ssS]
      have kb := (Below.refl z.heap.size z).alloc (Nat.le_refl _) (.cells #[.slice none 0 0, .slice none 0 0, .slice none 0 0, .slice none 0 0, .int .i64 0, .slice none 0 0, .bool false, .slice none 0 0, .slice none 0 0, .slice none 0 0, .slice none 0 0] 75)
      have lE := Lib.hid HB.out.size
      have bE := Lib.hid (Blk.alloc (w := z) (T := 75) [.slice none 0 0, .slice none 0 0, .slice none 0 0, .slice none 0 0, .int .i64 0, .slice none 0 0, .bool false, .slice none 0 0, .slice none 0 0, .slice none 0 0, .slice none 0 0])
      (try have nET := Lib.hid (Nat.ne_of_gt bT.out.lt))
      replace HB := Lib.hid (HB.out.alloc HB.out.size (.cells #[.slice none 0 0, .slice none 0 0, .slice none 0 0, .slice none 0 0, .int .i64 0, .slice none 0 0, .bool false, .slice none 0 0, .slice none 0 0, .slice none 0 0, .slice none 0 0] 75))
      (try replace bT := Lib.hid (bT.out.later kb bT.out.lt))
      clear kb
      generalize hg : z.heap.size = g at *
      clear hg
      generalize hz : z.alloc (.cells #[.slice none 0 0, .slice none 0 0, .slice none 0 0, .slice none 0 0, .int .i64 0, .slice none 0 0, .bool false, .slice none 0 0, .slice none 0 0, .slice none 0 0, .slice none 0 0] 75) = z at *
      clear hz
      refine wpAnyH_ready (rs := [2]) (by kernel_rfl) (by simp) ?_
      refine AllReadyH.cons rfl (fun K hK => ?_) AllReadyH.nil
      go_simp
      go_at_call 27
      (with_reducible refine (FS.out z HB.out).mono ?_)
      rintro e z ⟨rfl, hb⟩
      replace HB := Lib.hid (HB.out.trans (hb.mono HB.out.size))
      (try replace bE := Lib.hid (bE.out.later hb bE.out.lt))
      (try replace bT := Lib.hid (bT.out.later hb bT.out.lt))
      clear hb
      go_wp2_with fail
      refine hK.out _ _ (KS.out _ HB.out) (fun hHeld => ?_)
      clear hK K
      try simp only [Act.put, ssA, ssZ, ssS]
      refine wpAnyH_ready (rs := [3]) (by kernel_rfl) (by simp) ?_
      refine AllReadyH.cons rfl (fun K hK => ?_) AllReadyH.nil
      go_simp
      refine hK.out _ _ (KS.out _ (HB.out.alloc HB.out.size _)) (fun hHeld => ?_)
      clear hK K
      try simp only [Act.put, ssA, ssZ, ssS]
      have kb := (Below.refl z.heap.size z).alloc (Nat.le_refl _) (.cells #[.bool false, .bool false] 4)
      have lT := Lib.hid HB.out.size
      have bT := Lib.hid (Blk.alloc (w := z) (T := 4) [.bool false, .bool false])
      (try have nET := Lib.hid (Nat.ne_of_lt bE.out.lt))
      replace HB := Lib.hid (HB.out.alloc HB.out.size (.cells #[.bool false, .bool false] 4))
      (try replace bE := Lib.hid (bE.out.later kb bE.out.lt))
      clear kb
      generalize hg : z.heap.size = gT at *
      clear hg
      generalize hz : z.alloc (.cells #[.bool false, .bool false] 4) = z at *
      clear hz
      refine tkH 4 (v := ?_) rfl (Or.inl ⟨by kernel_rfl, ?_⟩) ?_
      rotate_left
      · (intro wq hSw; (try dsimp only at hSw); go_simp; try with_reducible rfl)
      try simp only [Act.put, ssA, ssZ, ssS]
      refine tkH 7 (v := ?_) rfl (Or.inl ⟨by kernel_rfl, ?_⟩) ?_
      rotate_left
      · (intro wq hSw; (try dsimp only at hSw); go_simp; try with_reducible rfl)
      try simp only [Act.put, ssA, ssZ, ssS]
    all_goals
      refine wpAnyH_ready (rs := [9]) (by kernel_rfl) (by simp) ?_
      refine AllReadyH.cons rfl (fun K hK => ?_) AllReadyH.nil
      have s0 := bE.out.cell 0 _ rfl
      have t0 := bE.out.frozen 0
      have s1 := bE.out.cell 1 _ rfl
      have t1 := bE.out.frozen 1
      have s2 := bE.out.cell 2 _ rfl
      have t2 := bE.out.frozen 2
      have s3 := bE.out.cell 3 _ rfl
      have t3 := bE.out.frozen 3
      have s4 := bE.out.cell 4 _ rfl
      have t4 := bE.out.frozen 4
      have s5 := bE.out.cell 5 _ rfl
      have t5 := bE.out.frozen 5
      have s6 := bE.out.cell 6 _ rfl
      have t6 := bE.out.frozen 6
      have s7 := bE.out.cell 7 _ rfl
      have t7 := bE.out.frozen 7
      have s8 := bE.out.cell 8 _ rfl
      have t8 := bE.out.frozen 8
      have s9 := bE.out.cell 9 _ rfl
      have t9 := bE.out.frozen 9
      have s10 := bE.out.cell 10 _ rfl
      have t10 := bE.out.frozen 10
      go_simp
      clear s0 t0 s1 t1 s2 t2 s3 t3 s4 t4 s5 t5 s6 t6 s7 t7 s8 t8 s9 t9 s10 t10
      have HQ := Lib.hid (store11 (v0 := .slice aa an ac) (v1 := .slice (some ⟨rb, ro, none⟩) 1 rc) (v2 := .slice ca cn cc) (v3 := .slice la ln lc) (v4 := .int .i64 st) (v5 := .slice (some ⟨gT, 0, none⟩) 0 2) (v6 := .bool root) (v7 := .slice ua un uc) (v8 := .slice xa xn xc) (v9 := .slice ka kn kc) (v10 := .slice ha 2 hc) bE.out HB.out lE.out)
      refine hK.out _ _ (KS.out _ HQ.out.2.2) (fun hHeld => ?_)
      clear hK K
      try simp only [Act.put, ssA, ssZ, ssS]
      replace HB := Lib.hid HQ.out.2.2
      replace bE := Lib.hid HQ.out.1
      (try replace bT := Lib.hid (bT.out.kept HQ.out.2.1 (fun e => nET.out (Option.some.inj e))))
      clear HQ
      generalize hz : (((((((((((z.setCell ⟨g, 0, none⟩ (.slice aa an ac)).setCell ⟨g, 1, none⟩ (.slice (some ⟨rb, ro, none⟩) 1 rc)).setCell ⟨g, 2, none⟩ (.slice ca cn cc)).setCell ⟨g, 3, none⟩ (.slice la ln lc)).setCell ⟨g, 4, none⟩ (.int .i64 st)).setCell ⟨g, 5, none⟩ (.slice (some ⟨gT, 0, none⟩) 0 2)).setCell ⟨g, 6, none⟩ (.bool root)).setCell ⟨g, 7, none⟩ (.slice ua un uc)).setCell ⟨g, 8, none⟩ (.slice xa xn xc)).setCell ⟨g, 9, none⟩ (.slice ka kn kc)).setCell ⟨g, 10, none⟩ (.slice ha 2 hc)) = z at *
      clear hz
      refine wpAnyH_done (by kernel_rfl) ?_ _
      go_wp2_with fail
      go_meet
      exact ⟨z, g, gT, rfl, rfl, bE, bT, nET, Lib.hid ⟨lE.out, lT.out⟩, HB⟩
  case rest =>
    obtain ⟨w3, g, gT, rfl, rfl, HE, HT, HGG, HGL, HB3⟩ := hcut
    have p1 := (DA.out.later HB3.out DA.out.lt).cell 1 _ rfl
    go_wp2
    go_loopw [23] (fun iv wr => (iv = .int .i64 0 ∧ wr = w3) ∨ (iv = .int .i64 1 ∧ Hid (Blk wr g [.slice aa an ac, .slice (some ⟨rb, ro, none⟩) 1 rc, .slice ca cn cc, .slice la ln lc, .int .i64 st, .slice (some ⟨gT, 0, none⟩) 2 2, .bool root, .slice ua un uc, .slice xa xn xc, .slice ka kn kc, .slice ha 2 hc] 75) ∧ Hid (Blk wr gT [.bool x, .bool false] 4) ∧ Hid (Below w0.heap.size w0 wr))) (fun iv _ => 1 - (intOf iv).toNat)
    case atStart => exact .inl ⟨rfl, rfl⟩
    case round =>
      rcases hrel with ⟨rfl, rfl⟩ | ⟨rfl, HE2, HT2, HB2⟩
      · have HW := Lib.hid (HBW.out.trans (HB3.out.mono HBW.out.size))
        have u0 : wr.cell? ⟨rb, ro, none⟩ = some (.int .i64 0) := (HW.out.cell (p := ⟨rb, ro, none⟩) HRB.out).trans KR.out.1
        have u1 : wr.cell? ⟨rb, ro + 1, none⟩ = some (.slice (some ⟨sb, so, none⟩) 2 sc) := (HW.out.cell (p := ⟨rb, ro + 1, none⟩) HRB.out).trans KR.out.2.1
        have u2 : wr.cell? ⟨rb, ro + 2, none⟩ = some (.string ⟨#[]⟩) := (HW.out.cell (p := ⟨rb, ro + 2, none⟩) HRB.out).trans KR.out.2.2
        have HB4 := Lib.hid (HB3.out.alloc HB3.out.size (.cells #[.int .i64 0, .slice (some ⟨sb, so, none⟩) 2 sc, .string ⟨#[]⟩] 78))
        have HE4 := Lib.hid (HE.out.alloc_old (.cells #[.int .i64 0, .slice (some ⟨sb, so, none⟩) 2 sc, .string ⟨#[]⟩] 78))
        have HT4 := Lib.hid (HT.out.alloc_old (.cells #[.int .i64 0, .slice (some ⟨sb, so, none⟩) 2 sc, .string ⟨#[]⟩] 78))
        have r1 := (Blk.alloc (w := wr) (T := 78) [.int .i64 0, .slice (some ⟨sb, so, none⟩) 2 sc, .string ⟨#[]⟩]).cell 1 _ rfl
        clear p1
        go_wp2
        obtain ⟨wo, hwo⟩ : ∃ wo, wo = wr := ⟨_, rfl⟩
        subst hwo
        go_loopw [30] (fun iv wi => ∃ k : Nat, k ≤ 2 ∧ iv = .int .i64 k ∧ Hid (Blk wi g [.slice aa an ac, .slice (some ⟨rb, ro, none⟩) 1 rc, .slice ca cn cc, .slice la ln lc, .int .i64 st, .slice (some ⟨gT, 0, none⟩) k 2, .bool root, .slice ua un uc, .slice xa xn xc, .slice ka kn kc, .slice ha 2 hc] 75) ∧ Hid (Blk wi gT [.bool (kx x k), .bool false] 4) ∧ Hid (Below w0.heap.size w0 wi)) (fun iv _ => 2 - (intOf iv).toNat)
        case atStart => exact ⟨0, by omega, rfl, HE4, HT4, HB4⟩
        case round =>
          clear u0 u1 u2 r1
          obtain ⟨k, hk, rfl, HEk, HTk, HBk⟩ := hrel
          obtain rfl | rfl | rfl : k = 0 ∨ k = 1 ∨ k = 2 := by omega
          · have HWk := Lib.hid (HBW.out.trans (HBk.out.mono HBW.out.size))
            have u0 : wr.cell? ⟨sb, so, none⟩ = some (.int .i64 0) := (HWk.out.cell (p := ⟨sb, so, none⟩) HSB.out).trans KT.out.1
            have u1 : wr.cell? ⟨sb, so + 1, none⟩ = some (.slice ta0 1 tc0) := (HWk.out.cell (p := ⟨sb, so + 1, none⟩) HSB.out).trans KT.out.2.1
            have kb := ((Below.refl wr.heap.size wr).alloc (Nat.le_refl _) (.cells #[.int .i64 0, .slice ta0 1 tc0] 81)).drew
            have HB := Lib.hid (show Below w0.heap.size w0 (wr.alloc (.cells #[.int .i64 0, .slice ta0 1 tc0] 81)).drew from (HBk.out.alloc HBk.out.size (.cells #[.int .i64 0, .slice ta0 1 tc0] 81)).drew)
            have bE := Lib.hid (show Blk (wr.alloc (.cells #[.int .i64 0, .slice ta0 1 tc0] 81)).drew g [.slice aa an ac, .slice (some ⟨rb, ro, none⟩) 1 rc, .slice ca cn cc, .slice la ln lc, .int .i64 st, .slice (some ⟨gT, 0, none⟩) 0 2, .bool root, .slice ua un uc, .slice xa xn xc, .slice ka kn kc, .slice ha 2 hc] 75 from HEk.out.later kb HEk.out.lt)
            have bT := Lib.hid (show Blk (wr.alloc (.cells #[.int .i64 0, .slice ta0 1 tc0] 81)).drew gT [.bool false, .bool false] 4 from HTk.out.later kb HTk.out.lt)
            have bV := Lib.hid (show Blk (wr.alloc (.cells #[.int .i64 0, .slice ta0 1 tc0] 81)).drew wr.heap.size [.int .i64 0, .slice ta0 1 tc0] 81 from Blk.alloc (w := wr) (T := 81) [.int .i64 0, .slice ta0 1 tc0])
            have nEV := Lib.hid (Nat.ne_of_lt HEk.out.lt)
            have nTV := Lib.hid (Nat.ne_of_lt HTk.out.lt)
            have nET := Lib.hid HGG.out
            have KS := Lib.hid (fun (wx : World) (hb : Below w0.heap.size w0 wx) => hb)
            clear kb HEk HTk HBk
            go_wp2_with fail
            refine wp_region_held_drew (S := fun wx => Below w0.heap.size w0 wx) (by kernel_rfl) (KS.out _ HB.out) (fun hHeld => ?_)
            generalize hz : (wr.alloc (.cells #[.int .i64 0, .slice ta0 1 tc0] 81)).drew = z at HB bE bT bV hHeld ⊢
            generalize hg : wr.heap.size = gV at bV nEV nTV ⊢
            clear hz hg u0 u1 HWk
            obtain ⟨iB, hiB, hzB⟩ := Option.map_eq_some_iff.1 TryzinfoBl
            have HIB := Lib.hid (And.intro hiB (show iB.size = 1 from by simp only [Prod.mk.injEq] at hzB; exact hzB.2.1))
            clear hiB hzB
            refine tkH 0 (v := ?_) rfl (Or.inl ⟨by kernel_rfl, ?_⟩) ?_
            rotate_left
            · (intro wq hSw; (try dsimp only at hSw); go_simp; try with_reducible rfl)
            try simp only [Act.put, ssA, ssZ, ssS]
            refine tkH 1 (v := ?_) rfl (Or.inl ⟨by kernel_rfl, ?_⟩) ?_
            rotate_left
            · (intro wq hSw; (try dsimp only at hSw); go_simp; try with_reducible rfl)
            try simp only [Act.put, ssA, ssZ, ssS]
            refine tkH 3 (v := ?_) rfl (Or.inl ⟨by kernel_rfl, ?_⟩) ?_
            rotate_left
            · (intro wq hSw; (try dsimp only at hSw); go_simp; try with_reducible rfl)
            try simp only [Act.put, ssA, ssZ, ssS]
            refine tkH 4 (v := ?_) rfl (Or.inl ⟨by kernel_rfl, ?_⟩) ?_
            rotate_left
            · (intro wq hSw; (try dsimp only at hSw); go_simp; try with_reducible rfl)
            try simp only [Act.put, ssA, ssZ, ssS]
            refine tkH 5 (v := ?_) rfl (Or.inl ⟨by kernel_rfl, ?_⟩) ?_
            rotate_left
            · (intro wq hSw; (try dsimp only at hSw); go_simp; try with_reducible rfl)
            try simp only [Act.put, ssA, ssZ, ssS]
            refine tkH 6 (v := undef) rfl (Or.inr ⟨by kernel_rfl, rfl⟩) ?_
            try simp only [Act.put, ssA, ssZ, ssS]
            refine tkH 7 (v := undef) rfl (Or.inr ⟨by kernel_rfl, rfl⟩) ?_
            try simp only [Act.put, ssA, ssZ, ssS]
            refine tkH 8 (v := undef) rfl (Or.inr ⟨by kernel_rfl, rfl⟩) ?_
            try simp only [Act.put, ssA, ssZ, ssS]
            refine tkH 9 (v := ?_) rfl (Or.inl ⟨by kernel_rfl, ?_⟩) ?_
            rotate_left
            · (intro wq hSw; (try dsimp only at hSw); go_simp; try with_reducible rfl)
            try simp only [Act.put, ssA, ssZ, ssS]
            refine tkH 10 (v := ?_) rfl (Or.inl ⟨by kernel_rfl, ?_⟩) ?_
            rotate_left
            · (intro wq hSw; (try dsimp only at hSw); go_simp; try with_reducible rfl)
            try simp only [Act.put, ssA, ssZ, ssS]
            refine tkH 11 (v := ?_) rfl (Or.inl ⟨by kernel_rfl, ?_⟩) ?_
            rotate_left
            · (intro wq hSw; (try dsimp only at hSw); go_simp; try with_reducible rfl)
            try simp only [Act.put, ssA, ssZ, ssS]
            refine wpAnyH_ready (rs := [2, 12]) (by kernel_rfl) (by simp) ?_
            refine AllReadyH.cons rfl (fun K hK => ?o2n3) (AllReadyH.cons rfl (fun K hK => ?o12n3) AllReadyH.nil)
            case' o2n3 =>
              have s0 := bE.out.cell 5 _ rfl
              go_simp
              clear s0
              refine hK.out _ _ (KS.out _ HB.out) (fun hHeld => ?_)
              clear hK K
              try simp only [Act.put, ssA, ssZ, ssS]
              refine wpAnyH_ready (rs := [12]) (by kernel_rfl) (by simp) ?_
              refine AllReadyH.cons rfl (fun K hK => ?_) AllReadyH.nil
              have s0 := bV.out.cell 1 _ rfl
              go_simp
              clear s0
              refine hK.out _ _ (KS.out _ HB.out) (fun hHeld => ?_)
              clear hK K
              try simp only [Act.put, ssA, ssZ, ssS]
              refine wpAnyH_ready (rs := [13]) (by kernel_rfl) (by simp) ?_
              refine AllReadyH.cons rfl (fun K hK => ?_) AllReadyH.nil
              go_simp
              go_at_call 29
              (with_reducible refine ((show Calls Tryz.prog 29 #[.pointer (some ⟨g, 0, none⟩), .slice ta0 1 tc0] z (Told (.bool x) z) from hold_one (E := ⟨⟨aa, an, ac, (some ⟨rb, ro, none⟩), 1, rc, ca, cn, cc, la, ln, lc, st⟩, (some ⟨gT, 0, none⟩), 0, 2, root, ua, un, uc, xa, xn, xc, ka, kn, kc, ha, 2, hc⟩) bE.out (HHA.out z HB.out) (HTA.out z HB.out))).mono ?_)
              rintro e z ⟨rfl, hb⟩
              replace HB := Lib.hid (HB.out.trans (hb.mono HB.out.size))
              (try replace bE := Lib.hid (bE.out.later hb bE.out.lt))
              (try replace bT := Lib.hid (bT.out.later hb bT.out.lt))
              (try replace bV := Lib.hid (bV.out.later hb bV.out.lt))
              (try replace bS := Lib.hid (bS.out.later hb bS.out.lt))
              clear hb
              go_wp2_with fail
              refine hK.out _ _ (KS.out _ HB.out) (fun hHeld => ?_)
              clear hK K
              try simp only [Act.put, ssA, ssZ, ssS]
              refine tkH 14 (v := ?_) rfl (Or.inl ⟨by kernel_rfl, ?_⟩) ?_
              rotate_left
              · (intro wq hSw; (try dsimp only at hSw); go_simp; try with_reducible rfl)
              try simp only [Act.put, ssA, ssZ, ssS]
              refine wpAnyH_ready (rs := [15]) (by kernel_rfl) (by simp) ?_
              refine AllReadyH.cons rfl (fun K hK => ?_) AllReadyH.nil
              go_simp
              refine hK.out _ _ (KS.out _ (HB.out.alloc HB.out.size _)) (fun hHeld => ?_)
              clear hK K
              try simp only [Act.put, ssA, ssZ, ssS]
              have kb := (Below.refl z.heap.size z).alloc (Nat.le_refl _) (.cells #[.bool x] 4)
              have lS := Lib.hid HB.out.size
              have bS := Lib.hid (Blk.alloc (w := z) (T := 4) [.bool x])
              (try have nES := Lib.hid (Nat.ne_of_lt bE.out.lt))
              (try have nTS := Lib.hid (Nat.ne_of_lt bT.out.lt))
              (try have nVS := Lib.hid (Nat.ne_of_lt bV.out.lt))
              replace HB := Lib.hid (HB.out.alloc HB.out.size (.cells #[.bool x] 4))
              (try replace bE := Lib.hid (bE.out.later kb bE.out.lt))
              (try replace bT := Lib.hid (bT.out.later kb bT.out.lt))
              (try replace bV := Lib.hid (bV.out.later kb bV.out.lt))
              clear kb
              generalize hg : z.heap.size = gS at *
              clear hg
              generalize hz : z.alloc (.cells #[.bool x] 4) = z at *
              clear hz
            case' o12n3 =>
              have s0 := bV.out.cell 1 _ rfl
              go_simp
              clear s0
              refine hK.out _ _ (KS.out _ HB.out) (fun hHeld => ?_)
              clear hK K
              try simp only [Act.put, ssA, ssZ, ssS]
              refine wpAnyH_ready (rs := [2, 13]) (by kernel_rfl) (by simp) ?_
              refine AllReadyH.cons rfl (fun K hK => ?o2n4) (AllReadyH.cons rfl (fun K hK => ?o13n4) AllReadyH.nil)
              case' o2n4 =>
                have s0 := bE.out.cell 5 _ rfl
                go_simp
                clear s0
                refine hK.out _ _ (KS.out _ HB.out) (fun hHeld => ?_)
                clear hK K
                try simp only [Act.put, ssA, ssZ, ssS]
                refine wpAnyH_ready (rs := [13]) (by kernel_rfl) (by simp) ?_
                refine AllReadyH.cons rfl (fun K hK => ?_) AllReadyH.nil
                go_simp
                go_at_call 29
                (with_reducible refine ((show Calls Tryz.prog 29 #[.pointer (some ⟨g, 0, none⟩), .slice ta0 1 tc0] z (Told (.bool x) z) from hold_one (E := ⟨⟨aa, an, ac, (some ⟨rb, ro, none⟩), 1, rc, ca, cn, cc, la, ln, lc, st⟩, (some ⟨gT, 0, none⟩), 0, 2, root, ua, un, uc, xa, xn, xc, ka, kn, kc, ha, 2, hc⟩) bE.out (HHA.out z HB.out) (HTA.out z HB.out))).mono ?_)
                rintro e z ⟨rfl, hb⟩
                replace HB := Lib.hid (HB.out.trans (hb.mono HB.out.size))
                (try replace bE := Lib.hid (bE.out.later hb bE.out.lt))
                (try replace bT := Lib.hid (bT.out.later hb bT.out.lt))
                (try replace bV := Lib.hid (bV.out.later hb bV.out.lt))
                (try replace bS := Lib.hid (bS.out.later hb bS.out.lt))
                clear hb
                go_wp2_with fail
                refine hK.out _ _ (KS.out _ HB.out) (fun hHeld => ?_)
                clear hK K
                try simp only [Act.put, ssA, ssZ, ssS]
                refine tkH 14 (v := ?_) rfl (Or.inl ⟨by kernel_rfl, ?_⟩) ?_
                rotate_left
                · (intro wq hSw; (try dsimp only at hSw); go_simp; try with_reducible rfl)
                try simp only [Act.put, ssA, ssZ, ssS]
                refine wpAnyH_ready (rs := [15]) (by kernel_rfl) (by simp) ?_
                refine AllReadyH.cons rfl (fun K hK => ?_) AllReadyH.nil
                go_simp
                refine hK.out _ _ (KS.out _ (HB.out.alloc HB.out.size _)) (fun hHeld => ?_)
                clear hK K
                try simp only [Act.put, ssA, ssZ, ssS]
                have kb := (Below.refl z.heap.size z).alloc (Nat.le_refl _) (.cells #[.bool x] 4)
                have lS := Lib.hid HB.out.size
                have bS := Lib.hid (Blk.alloc (w := z) (T := 4) [.bool x])
                (try have nES := Lib.hid (Nat.ne_of_lt bE.out.lt))
                (try have nTS := Lib.hid (Nat.ne_of_lt bT.out.lt))
                (try have nVS := Lib.hid (Nat.ne_of_lt bV.out.lt))
                replace HB := Lib.hid (HB.out.alloc HB.out.size (.cells #[.bool x] 4))
                (try replace bE := Lib.hid (bE.out.later kb bE.out.lt))
                (try replace bT := Lib.hid (bT.out.later kb bT.out.lt))
                (try replace bV := Lib.hid (bV.out.later kb bV.out.lt))
                clear kb
                generalize hg : z.heap.size = gS at *
                clear hg
                generalize hz : z.alloc (.cells #[.bool x] 4) = z at *
                clear hz
              case' o13n4 =>
                go_simp
                go_at_call 29
                (with_reducible refine ((show Calls Tryz.prog 29 #[.pointer (some ⟨g, 0, none⟩), .slice ta0 1 tc0] z (Told (.bool x) z) from hold_one (E := ⟨⟨aa, an, ac, (some ⟨rb, ro, none⟩), 1, rc, ca, cn, cc, la, ln, lc, st⟩, (some ⟨gT, 0, none⟩), 0, 2, root, ua, un, uc, xa, xn, xc, ka, kn, kc, ha, 2, hc⟩) bE.out (HHA.out z HB.out) (HTA.out z HB.out))).mono ?_)
                rintro e z ⟨rfl, hb⟩
                replace HB := Lib.hid (HB.out.trans (hb.mono HB.out.size))
                (try replace bE := Lib.hid (bE.out.later hb bE.out.lt))
                (try replace bT := Lib.hid (bT.out.later hb bT.out.lt))
                (try replace bV := Lib.hid (bV.out.later hb bV.out.lt))
                (try replace bS := Lib.hid (bS.out.later hb bS.out.lt))
                clear hb
                go_wp2_with fail
                refine hK.out _ _ (KS.out _ HB.out) (fun hHeld => ?_)
                clear hK K
                try simp only [Act.put, ssA, ssZ, ssS]
                refine tkH 14 (v := ?_) rfl (Or.inl ⟨by kernel_rfl, ?_⟩) ?_
                rotate_left
                · (intro wq hSw; (try dsimp only at hSw); go_simp; try with_reducible rfl)
                try simp only [Act.put, ssA, ssZ, ssS]
                refine wpAnyH_ready (rs := [2, 15]) (by kernel_rfl) (by simp) ?_
                refine AllReadyH.cons rfl (fun K hK => ?o2n5) (AllReadyH.cons rfl (fun K hK => ?o15n5) AllReadyH.nil)
                case' o2n5 =>
                  have s0 := bE.out.cell 5 _ rfl
                  go_simp
                  clear s0
                  refine hK.out _ _ (KS.out _ HB.out) (fun hHeld => ?_)
                  clear hK K
                  try simp only [Act.put, ssA, ssZ, ssS]
                  refine wpAnyH_ready (rs := [15]) (by kernel_rfl) (by simp) ?_
                  refine AllReadyH.cons rfl (fun K hK => ?_) AllReadyH.nil
                  go_simp
                  refine hK.out _ _ (KS.out _ (HB.out.alloc HB.out.size _)) (fun hHeld => ?_)
                  clear hK K
                  try simp only [Act.put, ssA, ssZ, ssS]
                  have kb := (Below.refl z.heap.size z).alloc (Nat.le_refl _) (.cells #[.bool x] 4)
                  have lS := Lib.hid HB.out.size
                  have bS := Lib.hid (Blk.alloc (w := z) (T := 4) [.bool x])
                  (try have nES := Lib.hid (Nat.ne_of_lt bE.out.lt))
                  (try have nTS := Lib.hid (Nat.ne_of_lt bT.out.lt))
                  (try have nVS := Lib.hid (Nat.ne_of_lt bV.out.lt))
                  replace HB := Lib.hid (HB.out.alloc HB.out.size (.cells #[.bool x] 4))
                  (try replace bE := Lib.hid (bE.out.later kb bE.out.lt))
                  (try replace bT := Lib.hid (bT.out.later kb bT.out.lt))
                  (try replace bV := Lib.hid (bV.out.later kb bV.out.lt))
                  clear kb
                  generalize hg : z.heap.size = gS at *
                  clear hg
                  generalize hz : z.alloc (.cells #[.bool x] 4) = z at *
                  clear hz
                case' o15n5 =>
                  go_simp
                  refine hK.out _ _ (KS.out _ (HB.out.alloc HB.out.size _)) (fun hHeld => ?_)
                  clear hK K
                  try simp only [Act.put, ssA, ssZ, ssS]
                  have kb := (Below.refl z.heap.size z).alloc (Nat.le_refl _) (.cells #[.bool x] 4)
                  have lS := Lib.hid HB.out.size
                  have bS := Lib.hid (Blk.alloc (w := z) (T := 4) [.bool x])
                  (try have nES := Lib.hid (Nat.ne_of_lt bE.out.lt))
                  (try have nTS := Lib.hid (Nat.ne_of_lt bT.out.lt))
                  (try have nVS := Lib.hid (Nat.ne_of_lt bV.out.lt))
                  replace HB := Lib.hid (HB.out.alloc HB.out.size (.cells #[.bool x] 4))
                  (try replace bE := Lib.hid (bE.out.later kb bE.out.lt))
                  (try replace bT := Lib.hid (bT.out.later kb bT.out.lt))
                  (try replace bV := Lib.hid (bV.out.later kb bV.out.lt))
                  clear kb
                  generalize hg : z.heap.size = gS at *
                  clear hg
                  generalize hz : z.alloc (.cells #[.bool x] 4) = z at *
                  clear hz
                  refine wpAnyH_ready (rs := [2]) (by kernel_rfl) (by simp) ?_
                  refine AllReadyH.cons rfl (fun K hK => ?_) AllReadyH.nil
                  have s0 := bE.out.cell 5 _ rfl
                  go_simp
                  clear s0
                  refine hK.out _ _ (KS.out _ HB.out) (fun hHeld => ?_)
                  clear hK K
                  try simp only [Act.put, ssA, ssZ, ssS]
            all_goals
              refine wpAnyH_ready (rs := [16]) (by kernel_rfl) (by simp) ?_
              refine AllReadyH.cons rfl (fun K hK => ?_) AllReadyH.nil
              refine step_append_room rfl _ _ 26 rfl 4 iB 1 Tryz.underlying26 HIB.out.1 HIB.out.2 gT 0 0 2 rfl ⟨gS, 0, none⟩ 1 1 [.bool x] rfl rfl (fun j u hj => by match j, hj with | 0, hj => (obtain rfl := Option.some.inj hj; exact bS.out.cell 0 _ rfl) | j + 1, hj => simp at hj) (fun u hu => by rw [List.mem_singleton.1 hu]; rfl) (by omega) (fun j hj => by obtain rfl : j = 0 := (by have h1 : j < 1 := hj; omega); exact ⟨by rw [show (⟨gT, 0 + 0 * 1 + 0, none⟩ : Addr) = ⟨gT, 0, none⟩ from rfl, bT.out.cell 0 _ rfl]; rfl, bT.out.frozen 0⟩) ?_
              have HQ := Lib.hid (show Blk (z.setCells gT (0 + 0 * 1) [.bool x]) gT [.bool x, .bool false] 4 ∧ z.grownBy (z.setCells gT (0 + 0 * 1) [.bool x]) (some gT) ∧ Below w0.heap.size w0 (z.setCells gT (0 + 0 * 1) [.bool x]) from ⟨bT.out.setCell 0 _, grown_write (World.grownBy.refl _ _) 0 _, HB.out.setCell (p := ⟨gT, 0, none⟩) HGL.out.2 _⟩)
              refine hK.out _ _ (KS.out _ HQ.out.2.2) (fun hHeld => ?_)
              clear hK K
              try simp only [Act.put, ssA, ssZ, ssS]
              replace HB := Lib.hid HQ.out.2.2
              replace bT := Lib.hid HQ.out.1
              (try replace bE := Lib.hid (bE.out.kept HQ.out.2.1 (fun e => nET.out (Option.some.inj e).symm)))
              (try replace bV := Lib.hid (bV.out.kept HQ.out.2.1 (fun e => nTV.out (Option.some.inj e))))
              (try replace bS := Lib.hid (bS.out.kept HQ.out.2.1 (fun e => nTS.out (Option.some.inj e))))
              clear HQ
              generalize hz : (z.setCells gT (0 + 0 * 1) [.bool x]) = z at *
              clear hz
              refine tkH 17 (v := ?_) rfl (Or.inl ⟨by kernel_rfl, ?_⟩) ?_
              rotate_left
              · (intro wq hSw; (try dsimp only at hSw); go_simp; try with_reducible rfl)
              try simp only [Act.put, ssA, ssZ, ssS]
              refine tkH 18 (v := ?_) rfl (Or.inl ⟨by kernel_rfl, ?_⟩) ?_
              rotate_left
              · (intro wq hSw; (try dsimp only at hSw); go_simp; try with_reducible rfl)
              try simp only [Act.put, ssA, ssZ, ssS]
              refine wpAnyH_ready (rs := [19]) (by kernel_rfl) (by simp) ?_
              refine AllReadyH.cons rfl (fun K hK => ?_) AllReadyH.nil
              have s0 := bE.out.cell 5 _ rfl
              have t0 := bE.out.frozen 5
              go_simp
              clear s0 t0
              have HQ := Lib.hid (show Blk (z.setCell ⟨g, 5, none⟩ (.slice (some ⟨gT, 0, none⟩) 1 2)) g [.slice aa an ac, .slice (some ⟨rb, ro, none⟩) 1 rc, .slice ca cn cc, .slice la ln lc, .int .i64 st, .slice (some ⟨gT, 0, none⟩) 1 2, .bool root, .slice ua un uc, .slice xa xn xc, .slice ka kn kc, .slice ha 2 hc] 75 ∧ z.grownBy (z.setCell ⟨g, 5, none⟩ (.slice (some ⟨gT, 0, none⟩) 1 2)) (some g) ∧ Below w0.heap.size w0 (z.setCell ⟨g, 5, none⟩ (.slice (some ⟨gT, 0, none⟩) 1 2)) from ⟨bE.out.setCell 5 _, grown_write (World.grownBy.refl _ _) 5 _, HB.out.setCell (p := ⟨g, 5, none⟩) HGL.out.1 _⟩)
              refine hK.out _ _ (KS.out _ HQ.out.2.2) (fun hHeld => ?_)
              clear hK K
              try simp only [Act.put, ssA, ssZ, ssS]
              replace HB := Lib.hid HQ.out.2.2
              replace bE := Lib.hid HQ.out.1
              (try replace bT := Lib.hid (bT.out.kept HQ.out.2.1 (fun e => nET.out (Option.some.inj e))))
              (try replace bV := Lib.hid (bV.out.kept HQ.out.2.1 (fun e => nEV.out (Option.some.inj e))))
              (try replace bS := Lib.hid (bS.out.kept HQ.out.2.1 (fun e => nES.out (Option.some.inj e))))
              clear HQ
              generalize hz : (z.setCell ⟨g, 5, none⟩ (.slice (some ⟨gT, 0, none⟩) 1 2)) = z at *
              clear hz
              refine wpAnyH_done (by kernel_rfl) ?_ _
              go_wp2
              go_roundw
              case rel => exact ⟨1, by omega, by go_num, bE, bT, HB⟩
              case measure => simp [intOf]
          · have HWk := Lib.hid (HBW.out.trans (HBk.out.mono HBW.out.size))
            have u0 : wr.cell? ⟨sb, so + 2, none⟩ = some (.int .i64 2) := (HWk.out.cell (p := ⟨sb, so + 2, none⟩) HSB.out).trans KT.out.2.2.1
            have u1 : wr.cell? ⟨sb, so + 2 + 1, none⟩ = some (.slice ta1 1 tc1) := (HWk.out.cell (p := ⟨sb, so + 2 + 1, none⟩) HSB.out).trans KT.out.2.2.2
            have kb := ((Below.refl wr.heap.size wr).alloc (Nat.le_refl _) (.cells #[.int .i64 2, .slice ta1 1 tc1] 81)).drew
            have HB := Lib.hid (show Below w0.heap.size w0 (wr.alloc (.cells #[.int .i64 2, .slice ta1 1 tc1] 81)).drew from (HBk.out.alloc HBk.out.size (.cells #[.int .i64 2, .slice ta1 1 tc1] 81)).drew)
            have bE := Lib.hid (show Blk (wr.alloc (.cells #[.int .i64 2, .slice ta1 1 tc1] 81)).drew g [.slice aa an ac, .slice (some ⟨rb, ro, none⟩) 1 rc, .slice ca cn cc, .slice la ln lc, .int .i64 st, .slice (some ⟨gT, 0, none⟩) 1 2, .bool root, .slice ua un uc, .slice xa xn xc, .slice ka kn kc, .slice ha 2 hc] 75 from HEk.out.later kb HEk.out.lt)
            have bT := Lib.hid (show Blk (wr.alloc (.cells #[.int .i64 2, .slice ta1 1 tc1] 81)).drew gT [.bool x, .bool false] 4 from HTk.out.later kb HTk.out.lt)
            have bV := Lib.hid (show Blk (wr.alloc (.cells #[.int .i64 2, .slice ta1 1 tc1] 81)).drew wr.heap.size [.int .i64 2, .slice ta1 1 tc1] 81 from Blk.alloc (w := wr) (T := 81) [.int .i64 2, .slice ta1 1 tc1])
            have nEV := Lib.hid (Nat.ne_of_lt HEk.out.lt)
            have nTV := Lib.hid (Nat.ne_of_lt HTk.out.lt)
            have nET := Lib.hid HGG.out
            have KS := Lib.hid (fun (wx : World) (hb : Below w0.heap.size w0 wx) => hb)
            clear kb HEk HTk HBk
            go_wp2_with fail
            refine wp_region_held_drew (S := fun wx => Below w0.heap.size w0 wx) (by kernel_rfl) (KS.out _ HB.out) (fun hHeld => ?_)
            generalize hz : (wr.alloc (.cells #[.int .i64 2, .slice ta1 1 tc1] 81)).drew = z at HB bE bT bV hHeld ⊢
            generalize hg : wr.heap.size = gV at bV nEV nTV ⊢
            clear hz hg u0 u1 HWk
            obtain ⟨iB, hiB, hzB⟩ := Option.map_eq_some_iff.1 TryzinfoBl
            have HIB := Lib.hid (And.intro hiB (show iB.size = 1 from by simp only [Prod.mk.injEq] at hzB; exact hzB.2.1))
            clear hiB hzB
            refine tkH 0 (v := ?_) rfl (Or.inl ⟨by kernel_rfl, ?_⟩) ?_
            rotate_left
            · (intro wq hSw; (try dsimp only at hSw); go_simp; try with_reducible rfl)
            try simp only [Act.put, ssA, ssZ, ssS]
            refine tkH 1 (v := ?_) rfl (Or.inl ⟨by kernel_rfl, ?_⟩) ?_
            rotate_left
            · (intro wq hSw; (try dsimp only at hSw); go_simp; try with_reducible rfl)
            try simp only [Act.put, ssA, ssZ, ssS]
            refine tkH 3 (v := ?_) rfl (Or.inl ⟨by kernel_rfl, ?_⟩) ?_
            rotate_left
            · (intro wq hSw; (try dsimp only at hSw); go_simp; try with_reducible rfl)
            try simp only [Act.put, ssA, ssZ, ssS]
            refine tkH 4 (v := ?_) rfl (Or.inl ⟨by kernel_rfl, ?_⟩) ?_
            rotate_left
            · (intro wq hSw; (try dsimp only at hSw); go_simp; try with_reducible rfl)
            try simp only [Act.put, ssA, ssZ, ssS]
            refine tkH 5 (v := ?_) rfl (Or.inl ⟨by kernel_rfl, ?_⟩) ?_
            rotate_left
            · (intro wq hSw; (try dsimp only at hSw); go_simp; try with_reducible rfl)
            try simp only [Act.put, ssA, ssZ, ssS]
            refine tkH 6 (v := ?_) rfl (Or.inl ⟨by kernel_rfl, ?_⟩) ?_
            rotate_left
            · (intro wq hSw; (try dsimp only at hSw); go_simp; try with_reducible rfl)
            try simp only [Act.put, ssA, ssZ, ssS]
            refine wpAnyH_ready (rs := [2, 7]) (by kernel_rfl) (by simp) ?_
            refine AllReadyH.cons rfl (fun K hK => ?o2n6) (AllReadyH.cons rfl (fun K hK => ?o7n6) AllReadyH.nil)
            case' o2n6 =>
              have s0 := bE.out.cell 5 _ rfl
              go_simp
              clear s0
              refine hK.out _ _ (KS.out _ HB.out) (fun hHeld => ?_)
              clear hK K
              try simp only [Act.put, ssA, ssZ, ssS]
              refine wpAnyH_ready (rs := [7]) (by kernel_rfl) (by simp) ?_
              refine AllReadyH.cons rfl (fun K hK => ?_) AllReadyH.nil
              have s0 := bV.out.cell 0 _ rfl
              go_simp
              clear s0
              refine hK.out _ _ (KS.out _ HB.out) (fun hHeld => ?_)
              clear hK K
              try simp only [Act.put, ssA, ssZ, ssS]
              refine wpAnyH_ready (rs := [8]) (by kernel_rfl) (by simp) ?_
              refine AllReadyH.cons rfl (fun K hK => ?_) AllReadyH.nil
              go_simp
              go_at_call 28
              (with_reducible refine ((show Calls Tryz.prog 28 #[.pointer (some ⟨g, 0, none⟩), .int .i64 2] z (Told (.bool false) z) from follows_child (E := ⟨⟨aa, an, ac, (some ⟨rb, ro, none⟩), 1, rc, ca, cn, cc, la, ln, lc, st⟩, (some ⟨gT, 0, none⟩), 1, 2, root, ua, un, uc, xa, xn, xc, ka, kn, kc, ha, 2, hc⟩) bE.out (HUA.out z HB.out) (by show (1 : Nat) ≤ 1000000; omega))).mono ?_)
              rintro e z ⟨rfl, hb⟩
              replace HB := Lib.hid (HB.out.trans (hb.mono HB.out.size))
              (try replace bE := Lib.hid (bE.out.later hb bE.out.lt))
              (try replace bT := Lib.hid (bT.out.later hb bT.out.lt))
              (try replace bV := Lib.hid (bV.out.later hb bV.out.lt))
              (try replace bS := Lib.hid (bS.out.later hb bS.out.lt))
              clear hb
              go_wp2_with fail
              refine hK.out _ _ (KS.out _ HB.out) (fun hHeld => ?_)
              clear hK K
              try simp only [Act.put, ssA, ssZ, ssS]
              refine tkH 9 (v := ?_) rfl (Or.inl ⟨by kernel_rfl, ?_⟩) ?_
              rotate_left
              · (intro wq hSw; (try dsimp only at hSw); go_simp; try with_reducible rfl)
              try simp only [Act.put, ssA, ssZ, ssS]
              refine tkH 10 (v := ?_) rfl (Or.inl ⟨by kernel_rfl, ?_⟩) ?_
              rotate_left
              · (intro wq hSw; (try dsimp only at hSw); go_simp; try with_reducible rfl)
              try simp only [Act.put, ssA, ssZ, ssS]
              refine tkH 11 (v := undef) rfl (Or.inr ⟨by kernel_rfl, rfl⟩) ?_
              try simp only [Act.put, ssA, ssZ, ssS]
              refine tkH 12 (v := undef) rfl (Or.inr ⟨by kernel_rfl, rfl⟩) ?_
              try simp only [Act.put, ssA, ssZ, ssS]
              refine tkH 13 (v := undef) rfl (Or.inr ⟨by kernel_rfl, rfl⟩) ?_
              try simp only [Act.put, ssA, ssZ, ssS]
              refine tkH 14 (v := ?_) rfl (Or.inl ⟨by kernel_rfl, ?_⟩) ?_
              rotate_left
              · (intro wq hSw; (try dsimp only at hSw); go_simp; try with_reducible rfl)
              try simp only [Act.put, ssA, ssZ, ssS]
              refine wpAnyH_ready (rs := [15]) (by kernel_rfl) (by simp) ?_
              refine AllReadyH.cons rfl (fun K hK => ?_) AllReadyH.nil
              go_simp
              refine hK.out _ _ (KS.out _ (HB.out.alloc HB.out.size _)) (fun hHeld => ?_)
              clear hK K
              try simp only [Act.put, ssA, ssZ, ssS]
              have kb := (Below.refl z.heap.size z).alloc (Nat.le_refl _) (.cells #[.bool false] 4)
              have lS := Lib.hid HB.out.size
              have bS := Lib.hid (Blk.alloc (w := z) (T := 4) [.bool false])
              (try have nES := Lib.hid (Nat.ne_of_lt bE.out.lt))
              (try have nTS := Lib.hid (Nat.ne_of_lt bT.out.lt))
              (try have nVS := Lib.hid (Nat.ne_of_lt bV.out.lt))
              replace HB := Lib.hid (HB.out.alloc HB.out.size (.cells #[.bool false] 4))
              (try replace bE := Lib.hid (bE.out.later kb bE.out.lt))
              (try replace bT := Lib.hid (bT.out.later kb bT.out.lt))
              (try replace bV := Lib.hid (bV.out.later kb bV.out.lt))
              clear kb
              generalize hg : z.heap.size = gS at *
              clear hg
              generalize hz : z.alloc (.cells #[.bool false] 4) = z at *
              clear hz
            case' o7n6 =>
              have s0 := bV.out.cell 0 _ rfl
              go_simp
              clear s0
              refine hK.out _ _ (KS.out _ HB.out) (fun hHeld => ?_)
              clear hK K
              try simp only [Act.put, ssA, ssZ, ssS]
              refine wpAnyH_ready (rs := [2, 8]) (by kernel_rfl) (by simp) ?_
              refine AllReadyH.cons rfl (fun K hK => ?o2n7) (AllReadyH.cons rfl (fun K hK => ?o8n7) AllReadyH.nil)
              case' o2n7 =>
                have s0 := bE.out.cell 5 _ rfl
                go_simp
                clear s0
                refine hK.out _ _ (KS.out _ HB.out) (fun hHeld => ?_)
                clear hK K
                try simp only [Act.put, ssA, ssZ, ssS]
                refine wpAnyH_ready (rs := [8]) (by kernel_rfl) (by simp) ?_
                refine AllReadyH.cons rfl (fun K hK => ?_) AllReadyH.nil
                go_simp
                go_at_call 28
                (with_reducible refine ((show Calls Tryz.prog 28 #[.pointer (some ⟨g, 0, none⟩), .int .i64 2] z (Told (.bool false) z) from follows_child (E := ⟨⟨aa, an, ac, (some ⟨rb, ro, none⟩), 1, rc, ca, cn, cc, la, ln, lc, st⟩, (some ⟨gT, 0, none⟩), 1, 2, root, ua, un, uc, xa, xn, xc, ka, kn, kc, ha, 2, hc⟩) bE.out (HUA.out z HB.out) (by show (1 : Nat) ≤ 1000000; omega))).mono ?_)
                rintro e z ⟨rfl, hb⟩
                replace HB := Lib.hid (HB.out.trans (hb.mono HB.out.size))
                (try replace bE := Lib.hid (bE.out.later hb bE.out.lt))
                (try replace bT := Lib.hid (bT.out.later hb bT.out.lt))
                (try replace bV := Lib.hid (bV.out.later hb bV.out.lt))
                (try replace bS := Lib.hid (bS.out.later hb bS.out.lt))
                clear hb
                go_wp2_with fail
                refine hK.out _ _ (KS.out _ HB.out) (fun hHeld => ?_)
                clear hK K
                try simp only [Act.put, ssA, ssZ, ssS]
                refine tkH 9 (v := ?_) rfl (Or.inl ⟨by kernel_rfl, ?_⟩) ?_
                rotate_left
                · (intro wq hSw; (try dsimp only at hSw); go_simp; try with_reducible rfl)
                try simp only [Act.put, ssA, ssZ, ssS]
                refine tkH 10 (v := ?_) rfl (Or.inl ⟨by kernel_rfl, ?_⟩) ?_
                rotate_left
                · (intro wq hSw; (try dsimp only at hSw); go_simp; try with_reducible rfl)
                try simp only [Act.put, ssA, ssZ, ssS]
                refine tkH 11 (v := undef) rfl (Or.inr ⟨by kernel_rfl, rfl⟩) ?_
                try simp only [Act.put, ssA, ssZ, ssS]
                refine tkH 12 (v := undef) rfl (Or.inr ⟨by kernel_rfl, rfl⟩) ?_
                try simp only [Act.put, ssA, ssZ, ssS]
                refine tkH 13 (v := undef) rfl (Or.inr ⟨by kernel_rfl, rfl⟩) ?_
                try simp only [Act.put, ssA, ssZ, ssS]
                refine tkH 14 (v := ?_) rfl (Or.inl ⟨by kernel_rfl, ?_⟩) ?_
                rotate_left
                · (intro wq hSw; (try dsimp only at hSw); go_simp; try with_reducible rfl)
                try simp only [Act.put, ssA, ssZ, ssS]
                refine wpAnyH_ready (rs := [15]) (by kernel_rfl) (by simp) ?_
                refine AllReadyH.cons rfl (fun K hK => ?_) AllReadyH.nil
                go_simp
                refine hK.out _ _ (KS.out _ (HB.out.alloc HB.out.size _)) (fun hHeld => ?_)
                clear hK K
                try simp only [Act.put, ssA, ssZ, ssS]
                have kb := (Below.refl z.heap.size z).alloc (Nat.le_refl _) (.cells #[.bool false] 4)
                have lS := Lib.hid HB.out.size
                have bS := Lib.hid (Blk.alloc (w := z) (T := 4) [.bool false])
                (try have nES := Lib.hid (Nat.ne_of_lt bE.out.lt))
                (try have nTS := Lib.hid (Nat.ne_of_lt bT.out.lt))
                (try have nVS := Lib.hid (Nat.ne_of_lt bV.out.lt))
                replace HB := Lib.hid (HB.out.alloc HB.out.size (.cells #[.bool false] 4))
                (try replace bE := Lib.hid (bE.out.later kb bE.out.lt))
                (try replace bT := Lib.hid (bT.out.later kb bT.out.lt))
                (try replace bV := Lib.hid (bV.out.later kb bV.out.lt))
                clear kb
                generalize hg : z.heap.size = gS at *
                clear hg
                generalize hz : z.alloc (.cells #[.bool false] 4) = z at *
                clear hz
              case' o8n7 =>
                go_simp
                go_at_call 28
                (with_reducible refine ((show Calls Tryz.prog 28 #[.pointer (some ⟨g, 0, none⟩), .int .i64 2] z (Told (.bool false) z) from follows_child (E := ⟨⟨aa, an, ac, (some ⟨rb, ro, none⟩), 1, rc, ca, cn, cc, la, ln, lc, st⟩, (some ⟨gT, 0, none⟩), 1, 2, root, ua, un, uc, xa, xn, xc, ka, kn, kc, ha, 2, hc⟩) bE.out (HUA.out z HB.out) (by show (1 : Nat) ≤ 1000000; omega))).mono ?_)
                rintro e z ⟨rfl, hb⟩
                replace HB := Lib.hid (HB.out.trans (hb.mono HB.out.size))
                (try replace bE := Lib.hid (bE.out.later hb bE.out.lt))
                (try replace bT := Lib.hid (bT.out.later hb bT.out.lt))
                (try replace bV := Lib.hid (bV.out.later hb bV.out.lt))
                (try replace bS := Lib.hid (bS.out.later hb bS.out.lt))
                clear hb
                go_wp2_with fail
                refine hK.out _ _ (KS.out _ HB.out) (fun hHeld => ?_)
                clear hK K
                try simp only [Act.put, ssA, ssZ, ssS]
                refine tkH 9 (v := ?_) rfl (Or.inl ⟨by kernel_rfl, ?_⟩) ?_
                rotate_left
                · (intro wq hSw; (try dsimp only at hSw); go_simp; try with_reducible rfl)
                try simp only [Act.put, ssA, ssZ, ssS]
                refine tkH 10 (v := ?_) rfl (Or.inl ⟨by kernel_rfl, ?_⟩) ?_
                rotate_left
                · (intro wq hSw; (try dsimp only at hSw); go_simp; try with_reducible rfl)
                try simp only [Act.put, ssA, ssZ, ssS]
                refine tkH 11 (v := undef) rfl (Or.inr ⟨by kernel_rfl, rfl⟩) ?_
                try simp only [Act.put, ssA, ssZ, ssS]
                refine tkH 12 (v := undef) rfl (Or.inr ⟨by kernel_rfl, rfl⟩) ?_
                try simp only [Act.put, ssA, ssZ, ssS]
                refine tkH 13 (v := undef) rfl (Or.inr ⟨by kernel_rfl, rfl⟩) ?_
                try simp only [Act.put, ssA, ssZ, ssS]
                refine tkH 14 (v := ?_) rfl (Or.inl ⟨by kernel_rfl, ?_⟩) ?_
                rotate_left
                · (intro wq hSw; (try dsimp only at hSw); go_simp; try with_reducible rfl)
                try simp only [Act.put, ssA, ssZ, ssS]
                refine wpAnyH_ready (rs := [2, 15]) (by kernel_rfl) (by simp) ?_
                refine AllReadyH.cons rfl (fun K hK => ?o2n8) (AllReadyH.cons rfl (fun K hK => ?o15n8) AllReadyH.nil)
                case' o2n8 =>
                  have s0 := bE.out.cell 5 _ rfl
                  go_simp
                  clear s0
                  refine hK.out _ _ (KS.out _ HB.out) (fun hHeld => ?_)
                  clear hK K
                  try simp only [Act.put, ssA, ssZ, ssS]
                  refine wpAnyH_ready (rs := [15]) (by kernel_rfl) (by simp) ?_
                  refine AllReadyH.cons rfl (fun K hK => ?_) AllReadyH.nil
                  go_simp
                  refine hK.out _ _ (KS.out _ (HB.out.alloc HB.out.size _)) (fun hHeld => ?_)
                  clear hK K
                  try simp only [Act.put, ssA, ssZ, ssS]
                  have kb := (Below.refl z.heap.size z).alloc (Nat.le_refl _) (.cells #[.bool false] 4)
                  have lS := Lib.hid HB.out.size
                  have bS := Lib.hid (Blk.alloc (w := z) (T := 4) [.bool false])
                  (try have nES := Lib.hid (Nat.ne_of_lt bE.out.lt))
                  (try have nTS := Lib.hid (Nat.ne_of_lt bT.out.lt))
                  (try have nVS := Lib.hid (Nat.ne_of_lt bV.out.lt))
                  replace HB := Lib.hid (HB.out.alloc HB.out.size (.cells #[.bool false] 4))
                  (try replace bE := Lib.hid (bE.out.later kb bE.out.lt))
                  (try replace bT := Lib.hid (bT.out.later kb bT.out.lt))
                  (try replace bV := Lib.hid (bV.out.later kb bV.out.lt))
                  clear kb
                  generalize hg : z.heap.size = gS at *
                  clear hg
                  generalize hz : z.alloc (.cells #[.bool false] 4) = z at *
                  clear hz
                case' o15n8 =>
                  go_simp
                  refine hK.out _ _ (KS.out _ (HB.out.alloc HB.out.size _)) (fun hHeld => ?_)
                  clear hK K
                  try simp only [Act.put, ssA, ssZ, ssS]
                  have kb := (Below.refl z.heap.size z).alloc (Nat.le_refl _) (.cells #[.bool false] 4)
                  have lS := Lib.hid HB.out.size
                  have bS := Lib.hid (Blk.alloc (w := z) (T := 4) [.bool false])
                  (try have nES := Lib.hid (Nat.ne_of_lt bE.out.lt))
                  (try have nTS := Lib.hid (Nat.ne_of_lt bT.out.lt))
                  (try have nVS := Lib.hid (Nat.ne_of_lt bV.out.lt))
                  replace HB := Lib.hid (HB.out.alloc HB.out.size (.cells #[.bool false] 4))
                  (try replace bE := Lib.hid (bE.out.later kb bE.out.lt))
                  (try replace bT := Lib.hid (bT.out.later kb bT.out.lt))
                  (try replace bV := Lib.hid (bV.out.later kb bV.out.lt))
                  clear kb
                  generalize hg : z.heap.size = gS at *
                  clear hg
                  generalize hz : z.alloc (.cells #[.bool false] 4) = z at *
                  clear hz
                  refine wpAnyH_ready (rs := [2]) (by kernel_rfl) (by simp) ?_
                  refine AllReadyH.cons rfl (fun K hK => ?_) AllReadyH.nil
                  have s0 := bE.out.cell 5 _ rfl
                  go_simp
                  clear s0
                  refine hK.out _ _ (KS.out _ HB.out) (fun hHeld => ?_)
                  clear hK K
                  try simp only [Act.put, ssA, ssZ, ssS]
            all_goals
              refine wpAnyH_ready (rs := [16]) (by kernel_rfl) (by simp) ?_
              refine AllReadyH.cons rfl (fun K hK => ?_) AllReadyH.nil
              refine step_append_room rfl _ _ 26 rfl 4 iB 1 Tryz.underlying26 HIB.out.1 HIB.out.2 gT 0 1 2 rfl ⟨gS, 0, none⟩ 1 1 [.bool false] rfl rfl (fun j u hj => by match j, hj with | 0, hj => (obtain rfl := Option.some.inj hj; exact bS.out.cell 0 _ rfl) | j + 1, hj => simp at hj) (fun u hu => by rw [List.mem_singleton.1 hu]; rfl) (by omega) (fun j hj => by obtain rfl : j = 0 := (by have h1 : j < 1 := hj; omega); exact ⟨by rw [show (⟨gT, 0 + 1 * 1 + 0, none⟩ : Addr) = ⟨gT, 1, none⟩ from rfl, bT.out.cell 1 _ rfl]; rfl, bT.out.frozen 1⟩) ?_
              have HQ := Lib.hid (show Blk (z.setCells gT (0 + 1 * 1) [.bool false]) gT [.bool x, .bool false] 4 ∧ z.grownBy (z.setCells gT (0 + 1 * 1) [.bool false]) (some gT) ∧ Below w0.heap.size w0 (z.setCells gT (0 + 1 * 1) [.bool false]) from ⟨bT.out.setCell 1 _, grown_write (World.grownBy.refl _ _) 1 _, HB.out.setCell (p := ⟨gT, 1, none⟩) HGL.out.2 _⟩)
              refine hK.out _ _ (KS.out _ HQ.out.2.2) (fun hHeld => ?_)
              clear hK K
              try simp only [Act.put, ssA, ssZ, ssS]
              replace HB := Lib.hid HQ.out.2.2
              replace bT := Lib.hid HQ.out.1
              (try replace bE := Lib.hid (bE.out.kept HQ.out.2.1 (fun e => nET.out (Option.some.inj e).symm)))
              (try replace bV := Lib.hid (bV.out.kept HQ.out.2.1 (fun e => nTV.out (Option.some.inj e))))
              (try replace bS := Lib.hid (bS.out.kept HQ.out.2.1 (fun e => nTS.out (Option.some.inj e))))
              clear HQ
              generalize hz : (z.setCells gT (0 + 1 * 1) [.bool false]) = z at *
              clear hz
              refine tkH 17 (v := ?_) rfl (Or.inl ⟨by kernel_rfl, ?_⟩) ?_
              rotate_left
              · (intro wq hSw; (try dsimp only at hSw); go_simp; try with_reducible rfl)
              try simp only [Act.put, ssA, ssZ, ssS]
              refine tkH 18 (v := ?_) rfl (Or.inl ⟨by kernel_rfl, ?_⟩) ?_
              rotate_left
              · (intro wq hSw; (try dsimp only at hSw); go_simp; try with_reducible rfl)
              try simp only [Act.put, ssA, ssZ, ssS]
              refine wpAnyH_ready (rs := [19]) (by kernel_rfl) (by simp) ?_
              refine AllReadyH.cons rfl (fun K hK => ?_) AllReadyH.nil
              have s0 := bE.out.cell 5 _ rfl
              have t0 := bE.out.frozen 5
              go_simp
              clear s0 t0
              have HQ := Lib.hid (show Blk (z.setCell ⟨g, 5, none⟩ (.slice (some ⟨gT, 0, none⟩) 2 2)) g [.slice aa an ac, .slice (some ⟨rb, ro, none⟩) 1 rc, .slice ca cn cc, .slice la ln lc, .int .i64 st, .slice (some ⟨gT, 0, none⟩) 2 2, .bool root, .slice ua un uc, .slice xa xn xc, .slice ka kn kc, .slice ha 2 hc] 75 ∧ z.grownBy (z.setCell ⟨g, 5, none⟩ (.slice (some ⟨gT, 0, none⟩) 2 2)) (some g) ∧ Below w0.heap.size w0 (z.setCell ⟨g, 5, none⟩ (.slice (some ⟨gT, 0, none⟩) 2 2)) from ⟨bE.out.setCell 5 _, grown_write (World.grownBy.refl _ _) 5 _, HB.out.setCell (p := ⟨g, 5, none⟩) HGL.out.1 _⟩)
              refine hK.out _ _ (KS.out _ HQ.out.2.2) (fun hHeld => ?_)
              clear hK K
              try simp only [Act.put, ssA, ssZ, ssS]
              replace HB := Lib.hid HQ.out.2.2
              replace bE := Lib.hid HQ.out.1
              (try replace bT := Lib.hid (bT.out.kept HQ.out.2.1 (fun e => nET.out (Option.some.inj e))))
              (try replace bV := Lib.hid (bV.out.kept HQ.out.2.1 (fun e => nEV.out (Option.some.inj e))))
              (try replace bS := Lib.hid (bS.out.kept HQ.out.2.1 (fun e => nES.out (Option.some.inj e))))
              clear HQ
              generalize hz : (z.setCell ⟨g, 5, none⟩ (.slice (some ⟨gT, 0, none⟩) 2 2)) = z at *
              clear hz
              refine wpAnyH_done (by kernel_rfl) ?_ _
              go_wp2
              go_roundw
              case rel => exact ⟨2, by omega, by go_num, bE, bT, HB⟩
              case measure => simp [intOf]
          · go_wp2
            go_roundw
            case rel => exact .inr ⟨by go_num, HEk, HTk, HBk⟩
            case measure => simp [intOf]
      · have e5 := HE2.out.cell 5 _ rfl
        go_wp2
        go_ret
        exact ⟨some ⟨gT, 0, none⟩, 2, rfl, ⟨rfl, Nat.le_refl _, ⟨by unfold maxLen; omega, by omega⟩, .inr ⟨gT, 0, rfl, ⟨Nat.le_trans HBW.out.size HGL.out.2, HT2.out.lt⟩, fun i u hu => by
          rw [Nat.mul_one, Nat.zero_add]
          match i, hu with
          | 0, hu => obtain rfl := Option.some.inj hu; exact HT2.out.cell 0 _ rfl
          | 1, hu => obtain rfl := Option.some.inj hu; exact HT2.out.cell 1 _ rfl
          | i + 2, hu => simp at hu⟩⟩, HBW.out.trans (HB2.out.mono HBW.out.size)⟩
end
end Go.Proofs.YtcfhggdiccilaaaGreat
