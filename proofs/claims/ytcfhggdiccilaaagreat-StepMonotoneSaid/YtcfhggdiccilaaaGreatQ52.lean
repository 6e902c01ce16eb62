/- Texts of mine in one: Spk. -/
import Derived.Deep.RegionHeld3
import Derived.Deep.DeepCutAuto
import Derived.Test.YtcfhggdiccilaaaGreatQ51
import Derived.Test.YtcfhggdiccilaaaGreatQ08
import Derived.Test.YtcfhggdiccilaaaGreatQ29
import Derived.Test.YtcfhggdiccilaaaGreatQ47
import Derived.Test.YtcfhggdiccilaaaGreatQ38
import Derived.Test.YtcfhggdiccilaaaGreatQ43
import Derived.Test.YtcfhggdiccilaaaGreatQ01
namespace Go.Proofs.YtcfhggdiccilaaaGreat
section
open Go.RowKit
set_option linter.unusedVariables false
set_option linter.unusedSimpArgs false
def lxAB : Lx 1 := listAB
theorem chk_ab : checkE nm0 1 lxAB = 0 := by kernel_rfl
theorem rows_ab : (mkSt nm0 1 [lxAB]).rows = rowsAB := by kernel_rfl
theorem ctrs_ab : (mkSt nm0 1 [lxAB]).ctrs = [] := by kernel_rfl
theorem cnt_ab : ([lxAB].map (cntL 1)).sum ≤ 1000000 := by decide
theorem make_ab {w : World} {la : Option Addr} {lc : Nat} (hx : ListsAt 1 (· < w.heap.size) w la 1 lc [lxAB]) :
    Calls Tryz.prog 13 #[.slice la 1 lc, .agg #[.bool false, .string ⟨#[]⟩, .slice none 0 0, .slice none 0 0]] w (fun e w' => Below w.heap.size w w' ∧ ∃ P : PlV, e = .returned (.tuple #[P.val, .int .i64 (-1)]) ∧ PlOk w' P rowsAB []) := by
  have h := pmake_any (nm := nm0) (N := nmv0) (d := 1) (by omega) nm0_ok (fun l a n c w' h1 h2 => rightT l a n c w' h1 h2) (nm0_at w _) hx cnt_ab (by decide)
  refine Calls.mono (R' := fun e w' => Below w.heap.size w w' ∧ ∃ P : PlV, e = .returned (.tuple #[P.val, .int .i64 (-1)]) ∧ PlOk w' P rowsAB []) h ?_
  rintro e w' ⟨hb, hc⟩
  rcases hc with ⟨i, l, hl, hne, rfl⟩ | ⟨h1, P, rfl, h2⟩
  · exfalso
    match i, hl with
    | 0, hl => obtain rfl := Option.some.inj hl; exact hne chk_ab
    | i + 1, hl => simp at hl
  · refine ⟨hb, P, rfl, ?_⟩
    have h3 := plOk_of (base := w.heap.size) h2 h1 cnt_ab
    rw [rows_ab, ctrs_ab] at h3
    exact h3
theorem sel_ab {w : World} {ba : Option Addr} {bc : Nat} (hz : Reads w .u8 ba bc [97, 32, 62, 32, 98]) :
    Calls Tryz.prog 12 #[.slice ba 5 bc, .agg #[.bool false, .string ⟨#[]⟩, .slice none 0 0, .slice none 0 0]] w (fun e w' => ∃ a c, e = .returned (.tuple #[.slice a 1 c, .int .i64 0, .int .i64 0]) ∧ RdL (· < w'.heap.size) 1 w' a 1 c lxAB ∧ Below w.heap.size w w') := by
  refine Calls.mono (R' := fun e w' => ∃ a c, e = .returned (.tuple #[.slice a 1 c, .int .i64 0, .int .i64 0]) ∧ RdL (· < w'.heap.size) 1 w' a 1 c lxAB ∧ Below w.heap.size w w') (esel_ab hz) ?_
  rintro e w' ⟨a, c, rfl, hl, hb⟩
  exact ⟨a, c, rfl, RdL.move (fun b hb' => ⟨hb'.2, rfl⟩) hl, hb⟩
theorem lists_one {w : World} {a : Option Addr} {c : Nat} (h : RdL (· < w.heap.size) 1 w a 1 c lxAB) (T : TypeId) : ListsAt 1 (· < (w.alloc (.cells #[.slice a 1 c] T)).heap.size) (w.alloc (.cells #[.slice a 1 c] T)) (some ⟨w.heap.size, 0, none⟩) 1 1 [lxAB] :=
  ⟨rfl, Nat.le_refl _, ⟨by unfold maxLen; omega, by omega⟩, .inr ⟨w.heap.size, 0, rfl, by simp, fun i x hx => by
    match i, hx with
    | 0, hx =>
      obtain rfl := Option.some.inj hx
      exact ⟨a, 1, c, (Blk.alloc (w := w) (T := T) [.slice a 1 c]).cell 0 _ rfl, RdL.move (fun b hb => ⟨Nat.lt_of_lt_of_le hb (by simp), ((Below.refl w.heap.size w).alloc (Nat.le_refl _) _).block b hb⟩) h⟩
    | i + 1, hx => simp at hx⟩⟩
theorem bytes_ab (w : World) : Reads (w.alloc (.cells #[.int .u8 97, .int .u8 32, .int .u8 62, .int .u8 32, .int .u8 98] 5 (5, 6))) .u8 (some ⟨w.heap.size, 0, none⟩) 5 [97, 32, 62, 32, 98] :=
  reads_marked w .u8 [97, 32, 62, 32, 98] 5 (5, 6) 5 rfl (by unfold maxLen; decide)
theorem start_ab {w : World} {P : PlV} (h : PlOk w P rowsAB []) : Calls Tryz.prog 14 #[P.val] w (NewCtx true 2 0 [false, false] [false, false] [] w) := stepStart_any h
theorem down_ab {w : World} {P : PlV} {X : CxV} {left : List Bool} {cnt : List Int} {ta : Option Addr} {tc : Nat} (x : Bool) (h : PlOk w P rowsAB []) (hx : CxRd (· < w.heap.size) w X [false, false] left cnt) (ht : BoolsAt (· < w.heap.size) w ta 2 tc [x, false]) :
    Calls Tryz.prog 8 #[P.val, X.val, .slice ta 2 tc] w (NewCtx false 2 0 [x, false] [false, false] [] w) := by
  have h1 := down_any h hx ht
  rw [show tellF 1 2 (keptF rowsAB) [false, false] [x, false] (List.replicate (stepsN rowsAB) false) = [x, false] from by cases x <;> kernel_rfl] at h1
  exact h1
theorem two_at {w : World} {g : Nat} {a b : Bool} (h : Blk w g [.bool a, .bool b] 4) : BoolsAt (· < w.heap.size) w (some ⟨g, 0, none⟩) 2 2 [a, b] :=
  ⟨rfl, Nat.le_refl _, ⟨by unfold maxLen; omega, by omega⟩, .inr ⟨g, 0, rfl, h.lt, fun i u hu => by
    rw [Nat.mul_one, Nat.zero_add]
    match i, hu with
    | 0, hu => obtain rfl := Option.some.inj hu; exact h.cell 0 _ rfl
    | 1, hu => obtain rfl := Option.some.inj hu; exact h.cell 1 _ rfl
    | i + 2, hu => simp at hu⟩⟩
set_option maxRecDepth 100000 in
set_option maxHeartbeats 8000000 in
theorem speaks15_any (w : World) : Calls Tryz.prog 4 #[] w (Told (.bool true) w) := by
  have FS := sel_ab (bytes_ab w)
  have cv := conv_bytes w #[.int .u8 97, .int .u8 32, .int .u8 62, .int .u8 32, .int .u8 98] 5 5
  simp at cv
  have HB1 := Lib.hid ((Below.refl w.heap.size w).alloc (Nat.le_refl _) (.cells #[.int .u8 97, .int .u8 32, .int .u8 62, .int .u8 32, .int .u8 98] 5 (5, 6)))
  go_enter Tryz.func4, Tryz.ntmps4
  go_upto_region 6 with (first
    | (go_at_call 12; (with_reducible refine FS.mono ?_); rintro e w2 ⟨a, c, rfl, hl, hb⟩; have HB2 := Lib.hid (HB1.out.trans (hb.mono HB1.out.size)); have HLS := Lib.hid (lists_one hl 45); have HB3 := Lib.hid (HB2.out.alloc HB2.out.size (.cells #[.slice a 1 c] 45)); clear hl hb)
    | (go_at_call 13; (with_reducible refine (make_ab HLS.out).mono ?_); rintro e w3 ⟨hb, P, rfl, hP⟩; obtain ⟨aa, an, ac, ra, rn, rc, ca, cn, cc, pa, pn, pc, st⟩ := P; unfold PlV.val; dsimp only; have kb := (Below.refl w3.heap.size w3).alloc (Nat.le_refl _) (.cells #[.slice aa an ac, .slice ra rn rc, .slice ca cn cc, .slice pa pn pc, .int .i64 st] 37); have HB4 := Lib.hid ((HB3.out.trans (hb.mono HB3.out.size)).alloc (HB3.out.trans (hb.mono HB3.out.size)).size (.cells #[.slice aa an ac, .slice ra rn rc, .slice ca cn cc, .slice pa pn pc, .int .i64 st] 37)); have DP4 := Lib.hid (Blk.alloc (w := w3) (T := 37) [.slice aa an ac, .slice ra rn rc, .slice ca cn cc, .slice pa pn pc, .int .i64 st]); have HP4 := Lib.hid (hP.later kb); have FST := start_ab HP4.out; unfold PlV.val at FST; dsimp only at FST; have b0 := DP4.out.cell 0 _ rfl; have b1 := DP4.out.cell 1 _ rfl; have b2 := DP4.out.cell 2 _ rfl; have b3 := DP4.out.cell 3 _ rfl; have b4 := DP4.out.cell 4 _ rfl; clear hb hP kb)
    | (go_at_call 14; (with_reducible refine FST.mono ?_); rintro e w4 ⟨u0, l0, k0, rfl, hC, hb⟩; unfold ctxV; have kb := hb.alloc (Nat.le_trans (Nat.le_refl _) hb.size) (.cells #[.bool true, .slice (some ⟨u0, 0, none⟩) 2 2, .slice (some ⟨l0, 0, none⟩) 2 2, .slice (some ⟨k0, 0, none⟩) 0 0] 29); have HB5 := Lib.hid (HB4.out.trans (kb.mono HB4.out.size)); have DP5 := Lib.hid (DP4.out.later kb DP4.out.lt); have DC5 := Lib.hid (Blk.alloc (w := w4) (T := 29) [.bool true, .slice (some ⟨u0, 0, none⟩) 2 2, .slice (some ⟨l0, 0, none⟩) 2 2, .slice (some ⟨k0, 0, none⟩) 0 0]); have HP5 := Lib.hid (HP4.out.later kb); have C5 := Lib.hid (hC.later ((Below.refl w4.heap.size w4).alloc (Nat.le_refl _) (.cells #[.bool true, .slice (some ⟨u0, 0, none⟩) 2 2, .slice (some ⟨l0, 0, none⟩) 2 2, .slice (some ⟨k0, 0, none⟩) 0 0] 29))); clear hC hb kb b0 b1 b2 b3 b4))
  generalize hw5 : w4.alloc (.cells #[.bool true, .slice (some ⟨u0, 0, none⟩) 2 2, .slice (some ⟨l0, 0, none⟩) 2 2, .slice (some ⟨k0, 0, none⟩) 0 0] 29) = w5 at HB5 DP5 DC5 HP5 C5 ⊢
  generalize hgC : w4.heap.size = gC at DC5 ⊢
  generalize hgP : w3.heap.size = gP at DP5 ⊢
  clear hw5 hgC hgP FST HP4 DP4 HB4 HB3 HLS HB2 HB1 FS
  have HX5 := Lib.hid (show CxRd (· < w5.heap.size) w5 ⟨true, some ⟨u0, 0, none⟩, 2, 2, some ⟨l0, 0, none⟩, 2, 2, some ⟨k0, 0, none⟩, 0, 0⟩ [false, false] [false, false] [] from ⟨ctx_ups C5.out rfl (show (2 : Nat) ≤ 1000000 by omega), ctx_lefts C5.out rfl (show (2 : Nat) ≤ 1000000 by omega), ⟨rfl, Nat.le_refl _, ⟨Nat.zero_le _, Nat.zero_le _⟩, .inl rfl⟩⟩)
  have HD5 := Lib.hid (show Below w5.heap.size w5 w5.drew from (Below.refl _ _).drew)
  have KS := Lib.hid (fun (wx : World) (hb : Below w5.heap.size w5 wx) => show wx.cell? ⟨gP, 0, none⟩ = some (.slice aa an ac) ∧ wx.cell? ⟨gP, 1, none⟩ = some (.slice ra rn rc) ∧ wx.cell? ⟨gP, 2, none⟩ = some (.slice ca cn cc) ∧ wx.cell? ⟨gP, 3, none⟩ = some (.slice pa pn pc) ∧ wx.cell? ⟨gP, 4, none⟩ = some (.int .i64 st) ∧ wx.cell? ⟨gC, 0, none⟩ = some (.bool true) ∧ wx.cell? ⟨gC, 1, none⟩ = some (.slice (some ⟨u0, 0, none⟩) 2 2) ∧ wx.cell? ⟨gC, 2, none⟩ = some (.slice (some ⟨l0, 0, none⟩) 2 2) ∧ wx.cell? ⟨gC, 3, none⟩ = some (.slice (some ⟨k0, 0, none⟩) 0 0) ∧ Below w5.heap.size w5 wx from ⟨(DP5.out.later hb DP5.out.lt).cell 0 _ rfl, (DP5.out.later hb DP5.out.lt).cell 1 _ rfl, (DP5.out.later hb DP5.out.lt).cell 2 _ rfl, (DP5.out.later hb DP5.out.lt).cell 3 _ rfl, (DP5.out.later hb DP5.out.lt).cell 4 _ rfl, (DC5.out.later hb DC5.out.lt).cell 0 _ rfl, (DC5.out.later hb DC5.out.lt).cell 1 _ rfl, (DC5.out.later hb DC5.out.lt).cell 2 _ rfl, (DC5.out.later hb DC5.out.lt).cell 3 _ rfl, hb⟩)
  have FT := Lib.hid (fun (wx : World) (hb : Below w5.heap.size w5 wx) (g : Nat) (hg : Blk wx g [.bool true, .bool false] 4) => show Calls Tryz.prog 15 #[.agg #[.slice aa an ac, .slice ra rn rc, .slice ca cn cc, .slice pa pn pc, .int .i64 st], .agg #[.bool true, .slice (some ⟨u0, 0, none⟩) 2 2, .slice (some ⟨l0, 0, none⟩) 2 2, .slice (some ⟨k0, 0, none⟩) 0 0], .slice (some ⟨g, 0, none⟩) 2 2] wx (TrP true wx) from truths_ab (P := ⟨aa, an, ac, ra, rn, rc, ca, cn, cc, pa, pn, pc, st⟩) (X := ⟨true, some ⟨u0, 0, none⟩, 2, 2, some ⟨l0, 0, none⟩, 2, 2, some ⟨k0, 0, none⟩, 0, 0⟩) (HP5.out.later hb).rd (HX5.out.move (fun b h => ⟨Nat.lt_of_lt_of_le h hb.size, hb.block b h⟩)) (two_at hg))
  have FD := Lib.hid (fun (wx : World) (hb : Below w5.heap.size w5 wx) (ta : Option Addr) (tc : Nat) (ht : BoolsAt (· < wx.heap.size) wx ta 2 tc [true, false]) => show Calls Tryz.prog 8 #[.agg #[.slice aa an ac, .slice ra rn rc, .slice ca cn cc, .slice pa pn pc, .int .i64 st], .agg #[.bool true, .slice (some ⟨u0, 0, none⟩) 2 2, .slice (some ⟨l0, 0, none⟩) 2 2, .slice (some ⟨k0, 0, none⟩) 0 0], .slice ta 2 tc] wx (NewCtx false 2 0 [true, false] [false, false] [] wx) from down_ab (P := ⟨aa, an, ac, ra, rn, rc, ca, cn, cc, pa, pn, pc, st⟩) (X := ⟨true, some ⟨u0, 0, none⟩, 2, 2, some ⟨l0, 0, none⟩, 2, 2, some ⟨k0, 0, none⟩, 0, 0⟩) true (HP5.out.later hb) (HX5.out.move (fun b h => ⟨Nat.lt_of_lt_of_le h hb.size, hb.block b h⟩)) ht)
  go_cut [7] from 32 to 38 (fun s7 wx => ∃ (wy : World) (g7 u7 l7 k7 : Nat), wy = wx ∧ s7 = .pointer (some ⟨g7, 0, none⟩) ∧ Hid (Blk wx g7 (ctxL u7 l7 k7 2 0) 29) ∧ Hid (CtxAt wx w5.heap.size u7 l7 k7 [true, false] [false, false] []) ∧ Hid (Below w5.heap.size w5 wx))
  case first =>
    refine wp_region_held_drew (S := fun wx => wx.cell? ⟨gP, 0, none⟩ = some (.slice aa an ac) ∧ wx.cell? ⟨gP, 1, none⟩ = some (.slice ra rn rc) ∧ wx.cell? ⟨gP, 2, none⟩ = some (.slice ca cn cc) ∧ wx.cell? ⟨gP, 3, none⟩ = some (.slice pa pn pc) ∧ wx.cell? ⟨gP, 4, none⟩ = some (.int .i64 st) ∧ wx.cell? ⟨gC, 0, none⟩ = some (.bool true) ∧ wx.cell? ⟨gC, 1, none⟩ = some (.slice (some ⟨u0, 0, none⟩) 2 2) ∧ wx.cell? ⟨gC, 2, none⟩ = some (.slice (some ⟨l0, 0, none⟩) 2 2) ∧ wx.cell? ⟨gC, 3, none⟩ = some (.slice (some ⟨k0, 0, none⟩) 0 0) ∧ Below w5.heap.size w5 wx) (by kernel_rfl) (KS.out _ HD5.out) (fun hHeld => ?_)
    have HB := Lib.hid HD5.out
    generalize hz : w5.drew = z at HB hHeld ⊢
    clear hz HD5
    refine tkH 0 (v := ?_) rfl (Or.inl ⟨by kernel_rfl, ?_⟩) ?_
    rotate_left
    · (intro wq hSw; (try dsimp only at hSw); go_simp; try with_reducible rfl)
    try simp only [Act.put, ssA, ssZ, ssS]
    refine tkH 1 (v := ?_) rfl (Or.inl ⟨by kernel_rfl, ?_⟩) ?_
    rotate_left
    · (intro wq hSw; (try dsimp only at hSw); go_simp; try with_reducible rfl)
    try simp only [Act.put, ssA, ssZ, ssS]
    refine tkH 2 (v := ?_) rfl (Or.inl ⟨by kernel_rfl, ?_⟩) ?_
    rotate_left
    · (intro wq hSw; (try dsimp only at hSw); go_simp; try with_reducible rfl)
    try simp only [Act.put, ssA, ssZ, ssS]
    refine tkH 3 (v := ?_) rfl (Or.inl ⟨by kernel_rfl, ?_⟩) ?_
    rotate_left
    · (intro wq hSw; (try dsimp only at hSw); go_simp; try with_reducible rfl)
    try simp only [Act.put, ssA, ssZ, ssS]
    refine wpAnyH_ready (rs := [4, 7]) (by kernel_rfl) (by simp) ?_
    refine AllReadyH.cons rfl (fun K hK => ?o4n9) (AllReadyH.cons rfl (fun K hK => ?o7n9) AllReadyH.nil)
    case' o4n9 =>
      go_simp
      refine hK.out _ _ (KS.out _ (HB.out.alloc HB.out.size _)) (fun hHeld => ?_)
      clear hK K
      try simp only [Act.put, ssA, ssZ, ssS]
      have kb := (Below.refl z.heap.size z).alloc (Nat.le_refl _) (.cells #[.bool true, .bool false] 4)
      have lL := Lib.hid HB.out.size
      have bL := Lib.hid (Blk.alloc (w := z) (T := 4) [.bool true, .bool false])
      (try have nDL := Lib.hid (Nat.ne_of_lt bD.out.lt))
      replace HB := Lib.hid (HB.out.alloc HB.out.size (.cells #[.bool true, .bool false] 4))
      (try replace bD := Lib.hid (bD.out.later kb bD.out.lt))
      (try replace HT := Lib.hid (HT.out.move (ok' := (· < (z.alloc (.cells #[.bool true, .bool false] 4)).heap.size)) (fun b h => ⟨Nat.lt_of_lt_of_le h kb.size, kb.block b h⟩)))
      clear kb
      generalize hg : z.heap.size = gL at *
      clear hg
      generalize hz : z.alloc (.cells #[.bool true, .bool false] 4) = z at *
      clear hz
      refine wpAnyH_ready (rs := [5, 7]) (by kernel_rfl) (by simp) ?_
      refine AllReadyH.cons rfl (fun K hK => ?o5n10) (AllReadyH.cons rfl (fun K hK => ?o7n10) AllReadyH.nil)
      case' o5n10 =>
        go_simp
        go_at_call 15
        (with_reducible refine (FT.out z HB.out gL bL.out).mono ?_)
        rintro e z ⟨ta, tc, rfl, ht, hb⟩
        replace HB := Lib.hid (HB.out.trans (hb.mono HB.out.size))
        (try replace bD := Lib.hid (bD.out.later hb bD.out.lt))
        (try replace bL := Lib.hid (bL.out.later hb bL.out.lt))
        have HT := Lib.hid (ht.move (ok' := (· < z.heap.size)) (fun b h => ⟨h.2, rfl⟩))
        clear ht hb
        go_wp2_with fail
        refine hK.out _ _ (KS.out _ HB.out) (fun hHeld => ?_)
        clear hK K
        try simp only [Act.put, ssA, ssZ, ssS]
        refine wpAnyH_ready (rs := [6, 7]) (by kernel_rfl) (by simp) ?_
        refine AllReadyH.cons rfl (fun K hK => ?o6n11) (AllReadyH.cons rfl (fun K hK => ?o7n11) AllReadyH.nil)
        case' o6n11 =>
          go_simp
          go_at_call 8
          (with_reducible refine (FD.out z HB.out ta tc HT.out).mono ?_)
          rintro e z ⟨ux, lx, kx, rfl, hC, hb⟩
          unfold ctxV
          have c7 := Lib.hid (hC.onto HB.out.size)
          (try have mD7 := Lib.hid (hC.older bD.out.lt))
          replace HB := Lib.hid (HB.out.trans (hb.mono HB.out.size))
          (try replace bD := Lib.hid (bD.out.later hb bD.out.lt))
          (try replace bL := Lib.hid (bL.out.later hb bL.out.lt))
          clear hC hb HT
          go_wp2_with fail
          refine hK.out _ _ (KS.out _ HB.out) (fun hHeld => ?_)
          clear hK K
          try simp only [Act.put, ssA, ssZ, ssS]
          refine wpAnyH_ready (rs := [7]) (by kernel_rfl) (by simp) ?_
          refine AllReadyH.cons rfl (fun K hK => ?_) AllReadyH.nil
          go_simp
          refine hK.out _ _ (KS.out _ (HB.out.alloc HB.out.size _)) (fun hHeld => ?_)
          clear hK K
          try simp only [Act.put, ssA, ssZ, ssS]
          have kb := (Below.refl z.heap.size z).alloc (Nat.le_refl _) (.cells #[.bool false, .slice none 0 0, .slice none 0 0, .slice none 0 0] 29)
          have lD := Lib.hid HB.out.size
          have bD := Lib.hid (Blk.alloc (w := z) (T := 29) [.bool false, .slice none 0 0, .slice none 0 0, .slice none 0 0])
          (try have nDL := Lib.hid (Nat.ne_of_gt bL.out.lt))
          replace HB := Lib.hid (HB.out.alloc HB.out.size (.cells #[.bool false, .slice none 0 0, .slice none 0 0, .slice none 0 0] 29))
          (try replace bL := Lib.hid (bL.out.later kb bL.out.lt))
          (try replace HT := Lib.hid (HT.out.move (ok' := (· < (z.alloc (.cells #[.bool false, .slice none 0 0, .slice none 0 0, .slice none 0 0] 29)).heap.size)) (fun b h => ⟨Nat.lt_of_lt_of_le h kb.size, kb.block b h⟩)))
          (try have mD7 := Lib.hid c7.out.newer)
          (try replace c7 := Lib.hid (c7.out.later kb))
          clear kb
          generalize hg : z.heap.size = gD at *
          clear hg
          generalize hz : z.alloc (.cells #[.bool false, .slice none 0 0, .slice none 0 0, .slice none 0 0] 29) = z at *
          clear hz
        case' o7n11 =>
          go_simp
          refine hK.out _ _ (KS.out _ (HB.out.alloc HB.out.size _)) (fun hHeld => ?_)
          clear hK K
          try simp only [Act.put, ssA, ssZ, ssS]
          have kb := (Below.refl z.heap.size z).alloc (Nat.le_refl _) (.cells #[.bool false, .slice none 0 0, .slice none 0 0, .slice none 0 0] 29)
          have lD := Lib.hid HB.out.size
          have bD := Lib.hid (Blk.alloc (w := z) (T := 29) [.bool false, .slice none 0 0, .slice none 0 0, .slice none 0 0])
          (try have nDL := Lib.hid (Nat.ne_of_gt bL.out.lt))
          replace HB := Lib.hid (HB.out.alloc HB.out.size (.cells #[.bool false, .slice none 0 0, .slice none 0 0, .slice none 0 0] 29))
          (try replace bL := Lib.hid (bL.out.later kb bL.out.lt))
          (try replace HT := Lib.hid (HT.out.move (ok' := (· < (z.alloc (.cells #[.bool false, .slice none 0 0, .slice none 0 0, .slice none 0 0] 29)).heap.size)) (fun b h => ⟨Nat.lt_of_lt_of_le h kb.size, kb.block b h⟩)))
          (try have mD7 := Lib.hid c7.out.newer)
          (try replace c7 := Lib.hid (c7.out.later kb))
          clear kb
          generalize hg : z.heap.size = gD at *
          clear hg
          generalize hz : z.alloc (.cells #[.bool false, .slice none 0 0, .slice none 0 0, .slice none 0 0] 29) = z at *
          clear hz
          refine wpAnyH_ready (rs := [6]) (by kernel_rfl) (by simp) ?_
          refine AllReadyH.cons rfl (fun K hK => ?_) AllReadyH.nil
          go_simp
          go_at_call 8
          (with_reducible refine (FD.out z HB.out ta tc HT.out).mono ?_)
          rintro e z ⟨ux, lx, kx, rfl, hC, hb⟩
          unfold ctxV
          have c7 := Lib.hid (hC.onto HB.out.size)
          (try have mD7 := Lib.hid (hC.older bD.out.lt))
          replace HB := Lib.hid (HB.out.trans (hb.mono HB.out.size))
          (try replace bD := Lib.hid (bD.out.later hb bD.out.lt))
          (try replace bL := Lib.hid (bL.out.later hb bL.out.lt))
          clear hC hb HT
          go_wp2_with fail
          refine hK.out _ _ (KS.out _ HB.out) (fun hHeld => ?_)
          clear hK K
          try simp only [Act.put, ssA, ssZ, ssS]
      case' o7n10 =>
        go_simp
        refine hK.out _ _ (KS.out _ (HB.out.alloc HB.out.size _)) (fun hHeld => ?_)
        clear hK K
        try simp only [Act.put, ssA, ssZ, ssS]
        have kb := (Below.refl z.heap.size z).alloc (Nat.le_refl _) (.cells #[.bool false, .slice none 0 0, .slice none 0 0, .slice none 0 0] 29)
        have lD := Lib.hid HB.out.size
        have bD := Lib.hid (Blk.alloc (w := z) (T := 29) [.bool false, .slice none 0 0, .slice none 0 0, .slice none 0 0])
        (try have nDL := Lib.hid (Nat.ne_of_gt bL.out.lt))
        replace HB := Lib.hid (HB.out.alloc HB.out.size (.cells #[.bool false, .slice none 0 0, .slice none 0 0, .slice none 0 0] 29))
        (try replace bL := Lib.hid (bL.out.later kb bL.out.lt))
        (try replace HT := Lib.hid (HT.out.move (ok' := (· < (z.alloc (.cells #[.bool false, .slice none 0 0, .slice none 0 0, .slice none 0 0] 29)).heap.size)) (fun b h => ⟨Nat.lt_of_lt_of_le h kb.size, kb.block b h⟩)))
        (try have mD7 := Lib.hid c7.out.newer)
        (try replace c7 := Lib.hid (c7.out.later kb))
        clear kb
        generalize hg : z.heap.size = gD at *
        clear hg
        generalize hz : z.alloc (.cells #[.bool false, .slice none 0 0, .slice none 0 0, .slice none 0 0] 29) = z at *
        clear hz
        refine wpAnyH_ready (rs := [5]) (by kernel_rfl) (by simp) ?_
        refine AllReadyH.cons rfl (fun K hK => ?_) AllReadyH.nil
        go_simp
        go_at_call 15
        (with_reducible refine (FT.out z HB.out gL bL.out).mono ?_)
        rintro e z ⟨ta, tc, rfl, ht, hb⟩
        replace HB := Lib.hid (HB.out.trans (hb.mono HB.out.size))
        (try replace bD := Lib.hid (bD.out.later hb bD.out.lt))
        (try replace bL := Lib.hid (bL.out.later hb bL.out.lt))
        have HT := Lib.hid (ht.move (ok' := (· < z.heap.size)) (fun b h => ⟨h.2, rfl⟩))
        clear ht hb
        go_wp2_with fail
        refine hK.out _ _ (KS.out _ HB.out) (fun hHeld => ?_)
        clear hK K
        try simp only [Act.put, ssA, ssZ, ssS]
        refine wpAnyH_ready (rs := [6]) (by kernel_rfl) (by simp) ?_
        refine AllReadyH.cons rfl (fun K hK => ?_) AllReadyH.nil
        go_simp
        go_at_call 8
        (with_reducible refine (FD.out z HB.out ta tc HT.out).mono ?_)
        rintro e z ⟨ux, lx, kx, rfl, hC, hb⟩
        unfold ctxV
        have c7 := Lib.hid (hC.onto HB.out.size)
        (try have mD7 := Lib.hid (hC.older bD.out.lt))
        replace HB := Lib.hid (HB.out.trans (hb.mono HB.out.size))
        (try replace bD := Lib.hid (bD.out.later hb bD.out.lt))
        (try replace bL := Lib.hid (bL.out.later hb bL.out.lt))
        clear hC hb HT
        go_wp2_with fail
        refine hK.out _ _ (KS.out _ HB.out) (fun hHeld => ?_)
        clear hK K
        try simp only [Act.put, ssA, ssZ, ssS]
    case' o7n9 =>
      go_simp
      refine hK.out _ _ (KS.out _ (HB.out.alloc HB.out.size _)) (fun hHeld => ?_)
      clear hK K
      try simp only [Act.put, ssA, ssZ, ssS]
      have kb := (Below.refl z.heap.size z).alloc (Nat.le_refl _) (.cells #[.bool false, .slice none 0 0, .slice none 0 0, .slice none 0 0] 29)
      have lD := Lib.hid HB.out.size
      have bD := Lib.hid (Blk.alloc (w := z) (T := 29) [.bool false, .slice none 0 0, .slice none 0 0, .slice none 0 0])
      (try have nDL := Lib.hid (Nat.ne_of_gt bL.out.lt))
      replace HB := Lib.hid (HB.out.alloc HB.out.size (.cells #[.bool false, .slice none 0 0, .slice none 0 0, .slice none 0 0] 29))
      (try replace bL := Lib.hid (bL.out.later kb bL.out.lt))
      (try replace HT := Lib.hid (HT.out.move (ok' := (· < (z.alloc (.cells #[.bool false, .slice none 0 0, .slice none 0 0, .slice none 0 0] 29)).heap.size)) (fun b h => ⟨Nat.lt_of_lt_of_le h kb.size, kb.block b h⟩)))
      (try have mD7 := Lib.hid c7.out.newer)
      (try replace c7 := Lib.hid (c7.out.later kb))
      clear kb
      generalize hg : z.heap.size = gD at *
      clear hg
      generalize hz : z.alloc (.cells #[.bool false, .slice none 0 0, .slice none 0 0, .slice none 0 0] 29) = z at *
      clear hz
      refine wpAnyH_ready (rs := [4]) (by kernel_rfl) (by simp) ?_
      refine AllReadyH.cons rfl (fun K hK => ?_) AllReadyH.nil
      go_simp
      refine hK.out _ _ (KS.out _ (HB.out.alloc HB.out.size _)) (fun hHeld => ?_)
      clear hK K
      try simp only [Act.put, ssA, ssZ, ssS]
      have kb := (Below.refl z.heap.size z).alloc (Nat.le_refl _) (.cells #[.bool true, .bool false] 4)
      have lL := Lib.hid HB.out.size
      have bL := Lib.hid (Blk.alloc (w := z) (T := 4) [.bool true, .bool false])
      (try have nDL := Lib.hid (Nat.ne_of_lt bD.out.lt))
      replace HB := Lib.hid (HB.out.alloc HB.out.size (.cells #[.bool true, .bool false] 4))
      (try replace bD := Lib.hid (bD.out.later kb bD.out.lt))
      (try replace HT := Lib.hid (HT.out.move (ok' := (· < (z.alloc (.cells #[.bool true, .bool false] 4)).heap.size)) (fun b h => ⟨Nat.lt_of_lt_of_le h kb.size, kb.block b h⟩)))
      clear kb
      generalize hg : z.heap.size = gL at *
      clear hg
      generalize hz : z.alloc (.cells #[.bool true, .bool false] 4) = z at *
      clear hz
      refine wpAnyH_ready (rs := [5]) (by kernel_rfl) (by simp) ?_
      refine AllReadyH.cons rfl (fun K hK => ?_) AllReadyH.nil
      go_simp
      go_at_call 15
      (with_reducible refine (FT.out z HB.out gL bL.out).mono ?_)
      rintro e z ⟨ta, tc, rfl, ht, hb⟩
      replace HB := Lib.hid (HB.out.trans (hb.mono HB.out.size))
      (try replace bD := Lib.hid (bD.out.later hb bD.out.lt))
      (try replace bL := Lib.hid (bL.out.later hb bL.out.lt))
      have HT := Lib.hid (ht.move (ok' := (· < z.heap.size)) (fun b h => ⟨h.2, rfl⟩))
      clear ht hb
      go_wp2_with fail
      refine hK.out _ _ (KS.out _ HB.out) (fun hHeld => ?_)
      clear hK K
      try simp only [Act.put, ssA, ssZ, ssS]
      refine wpAnyH_ready (rs := [6]) (by kernel_rfl) (by simp) ?_
      refine AllReadyH.cons rfl (fun K hK => ?_) AllReadyH.nil
      go_simp
      go_at_call 8
      (with_reducible refine (FD.out z HB.out ta tc HT.out).mono ?_)
      rintro e z ⟨ux, lx, kx, rfl, hC, hb⟩
      unfold ctxV
      have c7 := Lib.hid (hC.onto HB.out.size)
      (try have mD7 := Lib.hid (hC.older bD.out.lt))
      replace HB := Lib.hid (HB.out.trans (hb.mono HB.out.size))
      (try replace bD := Lib.hid (bD.out.later hb bD.out.lt))
      (try replace bL := Lib.hid (bL.out.later hb bL.out.lt))
      clear hC hb HT
      go_wp2_with fail
      refine hK.out _ _ (KS.out _ HB.out) (fun hHeld => ?_)
      clear hK K
      try simp only [Act.put, ssA, ssZ, ssS]
    all_goals
      refine wpAnyH_ready (rs := [8]) (by kernel_rfl) (by simp) ?_
      refine AllReadyH.cons rfl (fun K hK => ?_) AllReadyH.nil
      have s0 := bD.out.cell 0 _ rfl
      have t0 := bD.out.frozen 0
      have s1 := bD.out.cell 1 _ rfl
      have t1 := bD.out.frozen 1
      have s2 := bD.out.cell 2 _ rfl
      have t2 := bD.out.frozen 2
      have s3 := bD.out.cell 3 _ rfl
      have t3 := bD.out.frozen 3
      go_simp
      clear s0 s1 s2 s3 t0 t1 t2 t3
      have HQ := Lib.hid (store4 (v0 := .bool false) (v1 := .slice (some ⟨ux, 0, none⟩) 2 2) (v2 := .slice (some ⟨lx, 0, none⟩) 2 2) (v3 := .slice (some ⟨kx, 0, none⟩) 0 0) bD.out HB.out lD.out)
      refine hK.out _ _ (KS.out _ HQ.out.2.2) (fun hHeld => ?_)
      clear hK K
      try simp only [Act.put, ssA, ssZ, ssS]
      replace HB := Lib.hid HQ.out.2.2
      replace bD := Lib.hid HQ.out.1
      replace c7 := Lib.hid (c7.out.kept HQ.out.2.1 mD7.out)
      clear HQ
      generalize hz : ((((z.setCell ⟨gD, 0, none⟩ (.bool false)).setCell ⟨gD, 1, none⟩ (.slice (some ⟨ux, 0, none⟩) 2 2)).setCell ⟨gD, 2, none⟩ (.slice (some ⟨lx, 0, none⟩) 2 2)).setCell ⟨gD, 3, none⟩ (.slice (some ⟨kx, 0, none⟩) 0 0)) = z at *
      clear hz
      refine wpAnyH_done (by kernel_rfl) ?_ _
      go_wp2_with fail
      go_meet
      exact ⟨z, gD, ux, lx, kx, rfl, rfl, bD, c7, HB⟩
  case rest =>
    obtain ⟨w7, g7, u7, l7, k7, rfl, rfl, D7, C7, HB7⟩ := hcut
    clear FT FD KS HD5
    have DP7 := Lib.hid (DP5.out.later HB7.out DP5.out.lt)
    have DC7 := Lib.hid (DC5.out.later HB7.out DC5.out.lt)
    have HD7 := Lib.hid (show Below w7.heap.size w7 w7.drew from (Below.refl _ _).drew)
    have KS := Lib.hid (fun (wx : World) (hb : Below w7.heap.size w7 wx) => show wx.cell? ⟨gP, 0, none⟩ = some (.slice aa an ac) ∧ wx.cell? ⟨gP, 1, none⟩ = some (.slice ra rn rc) ∧ wx.cell? ⟨gP, 2, none⟩ = some (.slice ca cn cc) ∧ wx.cell? ⟨gP, 3, none⟩ = some (.slice pa pn pc) ∧ wx.cell? ⟨gP, 4, none⟩ = some (.int .i64 st) ∧ wx.cell? ⟨gC, 0, none⟩ = some (.bool true) ∧ wx.cell? ⟨gC, 1, none⟩ = some (.slice (some ⟨u0, 0, none⟩) 2 2) ∧ wx.cell? ⟨gC, 2, none⟩ = some (.slice (some ⟨l0, 0, none⟩) 2 2) ∧ wx.cell? ⟨gC, 3, none⟩ = some (.slice (some ⟨k0, 0, none⟩) 0 0) ∧ Below w7.heap.size w7 wx from ⟨(DP7.out.later hb DP7.out.lt).cell 0 _ rfl, (DP7.out.later hb DP7.out.lt).cell 1 _ rfl, (DP7.out.later hb DP7.out.lt).cell 2 _ rfl, (DP7.out.later hb DP7.out.lt).cell 3 _ rfl, (DP7.out.later hb DP7.out.lt).cell 4 _ rfl, (DC7.out.later hb DC7.out.lt).cell 0 _ rfl, (DC7.out.later hb DC7.out.lt).cell 1 _ rfl, (DC7.out.later hb DC7.out.lt).cell 2 _ rfl, (DC7.out.later hb DC7.out.lt).cell 3 _ rfl, hb⟩)
    have FT := Lib.hid (fun (wx : World) (hb : Below w7.heap.size w7 wx) (g : Nat) (hg : Blk wx g [.bool false, .bool true] 4) => show Calls Tryz.prog 15 #[.agg #[.slice aa an ac, .slice ra rn rc, .slice ca cn cc, .slice pa pn pc, .int .i64 st], .agg #[.bool true, .slice (some ⟨u0, 0, none⟩) 2 2, .slice (some ⟨l0, 0, none⟩) 2 2, .slice (some ⟨k0, 0, none⟩) 0 0], .slice (some ⟨g, 0, none⟩) 2 2] wx (TrP false wx) from truths_ab (P := ⟨aa, an, ac, ra, rn, rc, ca, cn, cc, pa, pn, pc, st⟩) (X := ⟨true, some ⟨u0, 0, none⟩, 2, 2, some ⟨l0, 0, none⟩, 2, 2, some ⟨k0, 0, none⟩, 0, 0⟩) (HP5.out.later (below_trans HB7.out hb)).rd (HX5.out.move (fun b h => ⟨Nat.lt_of_lt_of_le h (below_trans HB7.out hb).size, (below_trans HB7.out hb).block b h⟩)) (two_at hg))
    have FD := Lib.hid (fun (wx : World) (hb : Below w7.heap.size w7 wx) (ta : Option Addr) (tc : Nat) (ht : BoolsAt (· < wx.heap.size) wx ta 2 tc [false, false]) => show Calls Tryz.prog 8 #[.agg #[.slice aa an ac, .slice ra rn rc, .slice ca cn cc, .slice pa pn pc, .int .i64 st], .agg #[.bool true, .slice (some ⟨u0, 0, none⟩) 2 2, .slice (some ⟨l0, 0, none⟩) 2 2, .slice (some ⟨k0, 0, none⟩) 0 0], .slice ta 2 tc] wx (NewCtx false 2 0 [false, false] [false, false] [] wx) from down_ab (P := ⟨aa, an, ac, ra, rn, rc, ca, cn, cc, pa, pn, pc, st⟩) (X := ⟨true, some ⟨u0, 0, none⟩, 2, 2, some ⟨l0, 0, none⟩, 2, 2, some ⟨k0, 0, none⟩, 0, 0⟩) false (HP5.out.later (below_trans HB7.out hb)) (HX5.out.move (fun b h => ⟨Nat.lt_of_lt_of_le h (below_trans HB7.out hb).size, (below_trans HB7.out hb).block b h⟩)) ht)
    go_wp2_with fail
    go_cut [8] from 39 to 45 (fun s8 wx => ∃ (wy : World) (g8 u8 l8 k8 : Nat), wy = wx ∧ s8 = .pointer (some ⟨g8, 0, none⟩) ∧ Hid (Blk wx g8 (ctxL u8 l8 k8 2 0) 29) ∧ Hid (CtxAt wx w7.heap.size u8 l8 k8 [false, false] [false, false] []) ∧ Hid (Below w7.heap.size w7 wx))
    case first =>
      refine wp_region_held_drew (S := fun wx => wx.cell? ⟨gP, 0, none⟩ = some (.slice aa an ac) ∧ wx.cell? ⟨gP, 1, none⟩ = some (.slice ra rn rc) ∧ wx.cell? ⟨gP, 2, none⟩ = some (.slice ca cn cc) ∧ wx.cell? ⟨gP, 3, none⟩ = some (.slice pa pn pc) ∧ wx.cell? ⟨gP, 4, none⟩ = some (.int .i64 st) ∧ wx.cell? ⟨gC, 0, none⟩ = some (.bool true) ∧ wx.cell? ⟨gC, 1, none⟩ = some (.slice (some ⟨u0, 0, none⟩) 2 2) ∧ wx.cell? ⟨gC, 2, none⟩ = some (.slice (some ⟨l0, 0, none⟩) 2 2) ∧ wx.cell? ⟨gC, 3, none⟩ = some (.slice (some ⟨k0, 0, none⟩) 0 0) ∧ Below w7.heap.size w7 wx) (by kernel_rfl) (KS.out _ HD7.out) (fun hHeld => ?_)
      have HB := Lib.hid HD7.out
      generalize hz : w7.drew = z at HB hHeld ⊢
      clear hz HD7
      refine tkH 0 (v := ?_) rfl (Or.inl ⟨by kernel_rfl, ?_⟩) ?_
      rotate_left
      · (intro wq hSw; (try dsimp only at hSw); go_simp; try with_reducible rfl)
      try simp only [Act.put, ssA, ssZ, ssS]
      refine tkH 1 (v := ?_) rfl (Or.inl ⟨by kernel_rfl, ?_⟩) ?_
      rotate_left
      · (intro wq hSw; (try dsimp only at hSw); go_simp; try with_reducible rfl)
      try simp only [Act.put, ssA, ssZ, ssS]
      refine tkH 2 (v := ?_) rfl (Or.inl ⟨by kernel_rfl, ?_⟩) ?_
      rotate_left
      · (intro wq hSw; (try dsimp only at hSw); go_simp; try with_reducible rfl)
      try simp only [Act.put, ssA, ssZ, ssS]
      refine tkH 3 (v := ?_) rfl (Or.inl ⟨by kernel_rfl, ?_⟩) ?_
      rotate_left
      · (intro wq hSw; (try dsimp only at hSw); go_simp; try with_reducible rfl)
      try simp only [Act.put, ssA, ssZ, ssS]
      refine wpAnyH_ready (rs := [4, 7]) (by kernel_rfl) (by simp) ?_
      refine AllReadyH.cons rfl (fun K hK => ?o4n12) (AllReadyH.cons rfl (fun K hK => ?o7n12) AllReadyH.nil)
      case' o4n12 =>
        go_simp
        refine hK.out _ _ (KS.out _ (HB.out.alloc HB.out.size _)) (fun hHeld => ?_)
        clear hK K
        try simp only [Act.put, ssA, ssZ, ssS]
        have kb := (Below.refl z.heap.size z).alloc (Nat.le_refl _) (.cells #[.bool false, .bool true] 4)
        have lL := Lib.hid HB.out.size
        have bL := Lib.hid (Blk.alloc (w := z) (T := 4) [.bool false, .bool true])
        (try have nDL := Lib.hid (Nat.ne_of_lt bD.out.lt))
        replace HB := Lib.hid (HB.out.alloc HB.out.size (.cells #[.bool false, .bool true] 4))
        (try replace bD := Lib.hid (bD.out.later kb bD.out.lt))
        (try replace HT := Lib.hid (HT.out.move (ok' := (· < (z.alloc (.cells #[.bool false, .bool true] 4)).heap.size)) (fun b h => ⟨Nat.lt_of_lt_of_le h kb.size, kb.block b h⟩)))
        clear kb
        generalize hg : z.heap.size = gL at *
        clear hg
        generalize hz : z.alloc (.cells #[.bool false, .bool true] 4) = z at *
        clear hz
        refine wpAnyH_ready (rs := [5, 7]) (by kernel_rfl) (by simp) ?_
        refine AllReadyH.cons rfl (fun K hK => ?o5n13) (AllReadyH.cons rfl (fun K hK => ?o7n13) AllReadyH.nil)
        case' o5n13 =>
          go_simp
          go_at_call 15
          (with_reducible refine (FT.out z HB.out gL bL.out).mono ?_)
          rintro e z ⟨ta, tc, rfl, ht, hb⟩
          replace HB := Lib.hid (HB.out.trans (hb.mono HB.out.size))
          (try replace bD := Lib.hid (bD.out.later hb bD.out.lt))
          (try replace bL := Lib.hid (bL.out.later hb bL.out.lt))
          have HT := Lib.hid (ht.move (ok' := (· < z.heap.size)) (fun b h => ⟨h.2, rfl⟩))
          clear ht hb
          go_wp2_with fail
          refine hK.out _ _ (KS.out _ HB.out) (fun hHeld => ?_)
          clear hK K
          try simp only [Act.put, ssA, ssZ, ssS]
          refine wpAnyH_ready (rs := [6, 7]) (by kernel_rfl) (by simp) ?_
          refine AllReadyH.cons rfl (fun K hK => ?o6n14) (AllReadyH.cons rfl (fun K hK => ?o7n14) AllReadyH.nil)
          case' o6n14 =>
            go_simp
            go_at_call 8
            (with_reducible refine (FD.out z HB.out ta tc HT.out).mono ?_)
            rintro e z ⟨ux, lx, kx, rfl, hC, hb⟩
            unfold ctxV
            have c7 := Lib.hid (hC.onto HB.out.size)
            (try have mD7 := Lib.hid (hC.older bD.out.lt))
            replace HB := Lib.hid (HB.out.trans (hb.mono HB.out.size))
            (try replace bD := Lib.hid (bD.out.later hb bD.out.lt))
            (try replace bL := Lib.hid (bL.out.later hb bL.out.lt))
            clear hC hb HT
            go_wp2_with fail
            refine hK.out _ _ (KS.out _ HB.out) (fun hHeld => ?_)
            clear hK K
            try simp only [Act.put, ssA, ssZ, ssS]
            refine wpAnyH_ready (rs := [7]) (by kernel_rfl) (by simp) ?_
            refine AllReadyH.cons rfl (fun K hK => ?_) AllReadyH.nil
            go_simp
            refine hK.out _ _ (KS.out _ (HB.out.alloc HB.out.size _)) (fun hHeld => ?_)
            clear hK K
            try simp only [Act.put, ssA, ssZ, ssS]
            have kb := (Below.refl z.heap.size z).alloc (Nat.le_refl _) (.cells #[.bool false, .slice none 0 0, .slice none 0 0, .slice none 0 0] 29)
            have lD := Lib.hid HB.out.size
            have bD := Lib.hid (Blk.alloc (w := z) (T := 29) [.bool false, .slice none 0 0, .slice none 0 0, .slice none 0 0])
            (try have nDL := Lib.hid (Nat.ne_of_gt bL.out.lt))
            replace HB := Lib.hid (HB.out.alloc HB.out.size (.cells #[.bool false, .slice none 0 0, .slice none 0 0, .slice none 0 0] 29))
            (try replace bL := Lib.hid (bL.out.later kb bL.out.lt))
            (try replace HT := Lib.hid (HT.out.move (ok' := (· < (z.alloc (.cells #[.bool false, .slice none 0 0, .slice none 0 0, .slice none 0 0] 29)).heap.size)) (fun b h => ⟨Nat.lt_of_lt_of_le h kb.size, kb.block b h⟩)))
            (try have mD7 := Lib.hid c7.out.newer)
            (try replace c7 := Lib.hid (c7.out.later kb))
            clear kb
            generalize hg : z.heap.size = gD at *
            clear hg
            generalize hz : z.alloc (.cells #[.bool false, .slice none 0 0, .slice none 0 0, .slice none 0 0] 29) = z at *
            clear hz
          case' o7n14 =>
            go_simp
            refine hK.out _ _ (KS.out _ (HB.out.alloc HB.out.size _)) (fun hHeld => ?_)
            clear hK K
            try simp only [Act.put, ssA, ssZ, ssS]
            have kb := (Below.refl z.heap.size z).alloc (Nat.le_refl _) (.cells #[.bool false, .slice none 0 0, .slice none 0 0, .slice none 0 0] 29)
            have lD := Lib.hid HB.out.size
            have bD := Lib.hid (Blk.alloc (w := z) (T := 29) [.bool false, .slice none 0 0, .slice none 0 0, .slice none 0 0])
            (try have nDL := Lib.hid (Nat.ne_of_gt bL.out.lt))
            replace HB := Lib.hid (HB.out.alloc HB.out.size (.cells #[.bool false, .slice none 0 0, .slice none 0 0, .slice none 0 0] 29))
            (try replace bL := Lib.hid (bL.out.later kb bL.out.lt))
            (try replace HT := Lib.hid (HT.out.move (ok' := (· < (z.alloc (.cells #[.bool false, .slice none 0 0, .slice none 0 0, .slice none 0 0] 29)).heap.size)) (fun b h => ⟨Nat.lt_of_lt_of_le h kb.size, kb.block b h⟩)))
            (try have mD7 := Lib.hid c7.out.newer)
            (try replace c7 := Lib.hid (c7.out.later kb))
            clear kb
            generalize hg : z.heap.size = gD at *
            clear hg
            generalize hz : z.alloc (.cells #[.bool false, .slice none 0 0, .slice none 0 0, .slice none 0 0] 29) = z at *
            clear hz
            refine wpAnyH_ready (rs := [6]) (by kernel_rfl) (by simp) ?_
            refine AllReadyH.cons rfl (fun K hK => ?_) AllReadyH.nil
            go_simp
            go_at_call 8
            (with_reducible refine (FD.out z HB.out ta tc HT.out).mono ?_)
            rintro e z ⟨ux, lx, kx, rfl, hC, hb⟩
            unfold ctxV
            have c7 := Lib.hid (hC.onto HB.out.size)
            (try have mD7 := Lib.hid (hC.older bD.out.lt))
            replace HB := Lib.hid (HB.out.trans (hb.mono HB.out.size))
            (try replace bD := Lib.hid (bD.out.later hb bD.out.lt))
            (try replace bL := Lib.hid (bL.out.later hb bL.out.lt))
            clear hC hb HT
            go_wp2_with fail
            refine hK.out _ _ (KS.out _ HB.out) (fun hHeld => ?_)
            clear hK K
            try simp only [Act.put, ssA, ssZ, ssS]
        case' o7n13 =>
          go_simp
          refine hK.out _ _ (KS.out _ (HB.out.alloc HB.out.size _)) (fun hHeld => ?_)
          clear hK K
          try simp only [Act.put, ssA, ssZ, ssS]
          have kb := (Below.refl z.heap.size z).alloc (Nat.le_refl _) (.cells #[.bool false, .slice none 0 0, .slice none 0 0, .slice none 0 0] 29)
          have lD := Lib.hid HB.out.size
          have bD := Lib.hid (Blk.alloc (w := z) (T := 29) [.bool false, .slice none 0 0, .slice none 0 0, .slice none 0 0])
          (try have nDL := Lib.hid (Nat.ne_of_gt bL.out.lt))
          replace HB := Lib.hid (HB.out.alloc HB.out.size (.cells #[.bool false, .slice none 0 0, .slice none 0 0, .slice none 0 0] 29))
          (try replace bL := Lib.hid (bL.out.later kb bL.out.lt))
          (try replace HT := Lib.hid (HT.out.move (ok' := (· < (z.alloc (.cells #[.bool false, .slice none 0 0, .slice none 0 0, .slice none 0 0] 29)).heap.size)) (fun b h => ⟨Nat.lt_of_lt_of_le h kb.size, kb.block b h⟩)))
          (try have mD7 := Lib.hid c7.out.newer)
          (try replace c7 := Lib.hid (c7.out.later kb))
          clear kb
          generalize hg : z.heap.size = gD at *
          clear hg
          generalize hz : z.alloc (.cells #[.bool false, .slice none 0 0, .slice none 0 0, .slice none 0 0] 29) = z at *
          clear hz
          refine wpAnyH_ready (rs := [5]) (by kernel_rfl) (by simp) ?_
          refine AllReadyH.cons rfl (fun K hK => ?_) AllReadyH.nil
          go_simp
          go_at_call 15
          (with_reducible refine (FT.out z HB.out gL bL.out).mono ?_)
          rintro e z ⟨ta, tc, rfl, ht, hb⟩
          replace HB := Lib.hid (HB.out.trans (hb.mono HB.out.size))
          (try replace bD := Lib.hid (bD.out.later hb bD.out.lt))
          (try replace bL := Lib.hid (bL.out.later hb bL.out.lt))
          have HT := Lib.hid (ht.move (ok' := (· < z.heap.size)) (fun b h => ⟨h.2, rfl⟩))
          clear ht hb
          go_wp2_with fail
          refine hK.out _ _ (KS.out _ HB.out) (fun hHeld => ?_)
          clear hK K
          try simp only [Act.put, ssA, ssZ, ssS]
          refine wpAnyH_ready (rs := [6]) (by kernel_rfl) (by simp) ?_
          refine AllReadyH.cons rfl (fun K hK => ?_) AllReadyH.nil
          go_simp
          go_at_call 8
          (with_reducible refine (FD.out z HB.out ta tc HT.out).mono ?_)
          rintro e z ⟨ux, lx, kx, rfl, hC, hb⟩
          unfold ctxV
          have c7 := Lib.hid (hC.onto HB.out.size)
          (try have mD7 := Lib.hid (hC.older bD.out.lt))
          replace HB := Lib.hid (HB.out.trans (hb.mono HB.out.size))
          (try replace bD := Lib.hid (bD.out.later hb bD.out.lt))
          (try replace bL := Lib.hid (bL.out.later hb bL.out.lt))
          clear hC hb HT
          go_wp2_with fail
          refine hK.out _ _ (KS.out _ HB.out) (fun hHeld => ?_)
          clear hK K
          try simp only [Act.put, ssA, ssZ, ssS]
      case' o7n12 =>
        go_simp
        refine hK.out _ _ (KS.out _ (HB.out.alloc HB.out.size _)) (fun hHeld => ?_)
        clear hK K
        try simp only [Act.put, ssA, ssZ, ssS]
        have kb := (Below.refl z.heap.size z).alloc (Nat.le_refl _) (.cells #[.bool false, .slice none 0 0, .slice none 0 0, .slice none 0 0] 29)
        have lD := Lib.hid HB.out.size
        have bD := Lib.hid (Blk.alloc (w := z) (T := 29) [.bool false, .slice none 0 0, .slice none 0 0, .slice none 0 0])
        (try have nDL := Lib.hid (Nat.ne_of_gt bL.out.lt))
        replace HB := Lib.hid (HB.out.alloc HB.out.size (.cells #[.bool false, .slice none 0 0, .slice none 0 0, .slice none 0 0] 29))
        (try replace bL := Lib.hid (bL.out.later kb bL.out.lt))
        (try replace HT := Lib.hid (HT.out.move (ok' := (· < (z.alloc (.cells #[.bool false, .slice none 0 0, .slice none 0 0, .slice none 0 0] 29)).heap.size)) (fun b h => ⟨Nat.lt_of_lt_of_le h kb.size, kb.block b h⟩)))
        (try have mD7 := Lib.hid c7.out.newer)
        (try replace c7 := Lib.hid (c7.out.later kb))
        clear kb
        generalize hg : z.heap.size = gD at *
        clear hg
        generalize hz : z.alloc (.cells #[.bool false, .slice none 0 0, .slice none 0 0, .slice none 0 0] 29) = z at *
        clear hz
        refine wpAnyH_ready (rs := [4]) (by kernel_rfl) (by simp) ?_
        refine AllReadyH.cons rfl (fun K hK => ?_) AllReadyH.nil
        go_simp
        refine hK.out _ _ (KS.out _ (HB.out.alloc HB.out.size _)) (fun hHeld => ?_)
        clear hK K
        try simp only [Act.put, ssA, ssZ, ssS]
        have kb := (Below.refl z.heap.size z).alloc (Nat.le_refl _) (.cells #[.bool false, .bool true] 4)
        have lL := Lib.hid HB.out.size
        have bL := Lib.hid (Blk.alloc (w := z) (T := 4) [.bool false, .bool true])
        (try have nDL := Lib.hid (Nat.ne_of_lt bD.out.lt))
        replace HB := Lib.hid (HB.out.alloc HB.out.size (.cells #[.bool false, .bool true] 4))
        (try replace bD := Lib.hid (bD.out.later kb bD.out.lt))
        (try replace HT := Lib.hid (HT.out.move (ok' := (· < (z.alloc (.cells #[.bool false, .bool true] 4)).heap.size)) (fun b h => ⟨Nat.lt_of_lt_of_le h kb.size, kb.block b h⟩)))
        clear kb
        generalize hg : z.heap.size = gL at *
        clear hg
        generalize hz : z.alloc (.cells #[.bool false, .bool true] 4) = z at *
        clear hz
        refine wpAnyH_ready (rs := [5]) (by kernel_rfl) (by simp) ?_
        refine AllReadyH.cons rfl (fun K hK => ?_) AllReadyH.nil
        go_simp
        go_at_call 15
        (with_reducible refine (FT.out z HB.out gL bL.out).mono ?_)
        rintro e z ⟨ta, tc, rfl, ht, hb⟩
        replace HB := Lib.hid (HB.out.trans (hb.mono HB.out.size))
        (try replace bD := Lib.hid (bD.out.later hb bD.out.lt))
        (try replace bL := Lib.hid (bL.out.later hb bL.out.lt))
        have HT := Lib.hid (ht.move (ok' := (· < z.heap.size)) (fun b h => ⟨h.2, rfl⟩))
        clear ht hb
        go_wp2_with fail
        refine hK.out _ _ (KS.out _ HB.out) (fun hHeld => ?_)
        clear hK K
        try simp only [Act.put, ssA, ssZ, ssS]
        refine wpAnyH_ready (rs := [6]) (by kernel_rfl) (by simp) ?_
        refine AllReadyH.cons rfl (fun K hK => ?_) AllReadyH.nil
        go_simp
        go_at_call 8
        (with_reducible refine (FD.out z HB.out ta tc HT.out).mono ?_)
        rintro e z ⟨ux, lx, kx, rfl, hC, hb⟩
        unfold ctxV
        have c7 := Lib.hid (hC.onto HB.out.size)
        (try have mD7 := Lib.hid (hC.older bD.out.lt))
        replace HB := Lib.hid (HB.out.trans (hb.mono HB.out.size))
        (try replace bD := Lib.hid (bD.out.later hb bD.out.lt))
        (try replace bL := Lib.hid (bL.out.later hb bL.out.lt))
        clear hC hb HT
        go_wp2_with fail
        refine hK.out _ _ (KS.out _ HB.out) (fun hHeld => ?_)
        clear hK K
        try simp only [Act.put, ssA, ssZ, ssS]
      all_goals
        refine wpAnyH_ready (rs := [8]) (by kernel_rfl) (by simp) ?_
        refine AllReadyH.cons rfl (fun K hK => ?_) AllReadyH.nil
        have s0 := bD.out.cell 0 _ rfl
        have t0 := bD.out.frozen 0
        have s1 := bD.out.cell 1 _ rfl
        have t1 := bD.out.frozen 1
        have s2 := bD.out.cell 2 _ rfl
        have t2 := bD.out.frozen 2
        have s3 := bD.out.cell 3 _ rfl
        have t3 := bD.out.frozen 3
        go_simp
        clear s0 s1 s2 s3 t0 t1 t2 t3
        have HQ := Lib.hid (store4 (v0 := .bool false) (v1 := .slice (some ⟨ux, 0, none⟩) 2 2) (v2 := .slice (some ⟨lx, 0, none⟩) 2 2) (v3 := .slice (some ⟨kx, 0, none⟩) 0 0) bD.out HB.out lD.out)
        refine hK.out _ _ (KS.out _ HQ.out.2.2) (fun hHeld => ?_)
        clear hK K
        try simp only [Act.put, ssA, ssZ, ssS]
        replace HB := Lib.hid HQ.out.2.2
        replace bD := Lib.hid HQ.out.1
        replace c7 := Lib.hid (c7.out.kept HQ.out.2.1 mD7.out)
        clear HQ
        generalize hz : ((((z.setCell ⟨gD, 0, none⟩ (.bool false)).setCell ⟨gD, 1, none⟩ (.slice (some ⟨ux, 0, none⟩) 2 2)).setCell ⟨gD, 2, none⟩ (.slice (some ⟨lx, 0, none⟩) 2 2)).setCell ⟨gD, 3, none⟩ (.slice (some ⟨kx, 0, none⟩) 0 0)) = z at *
        clear hz
        refine wpAnyH_done (by kernel_rfl) ?_ _
        go_wp2_with fail
        go_meet
        exact ⟨z, gD, ux, lx, kx, rfl, rfl, bD, c7, HB⟩
    case rest =>
      obtain ⟨w9, g8, u8, l8, k8, rfl, rfl, D8, C8, HB9⟩ := hcut
      have a1 := (D7.out.later HB9.out D7.out.lt).cell 1 _ rfl
      have b1 := D8.out.cell 1 _ rfl
      have a2 : w9.cell? ⟨u7, 0, none⟩ = some (.bool true) := Blk.cell (C7.out.later HB9.out).up 0 _ rfl
      have b2 : w9.cell? ⟨u8, 0, none⟩ = some (.bool false) := Blk.cell C8.out.up 0 _ rfl
      have HZ := Lib.hid (HB5.out.trans ((below_trans HB7.out HB9.out).mono HB5.out.size))
      clear FT FD KS HD7
      go_wp2
      go_ret
      exact ⟨rfl, HZ.out⟩
end
end Go.Proofs.YtcfhggdiccilaaaGreat
