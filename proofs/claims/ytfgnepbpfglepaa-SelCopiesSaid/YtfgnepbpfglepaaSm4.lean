/- Lists of selectors copied, by the program: compounds, selectors, lists: walks. -/
import Derived.Test.YtfgnepbpfglepaaSm3
namespace Go.Proofs.Ytfgnepbpfglepaa
open Go.RowKit
set_option linter.unusedVariables false
set_option linter.unusedSimpArgs false

set_option maxRecDepth 100000 in
set_option maxHeartbeats 8000000 in
theorem copyCompound_any (d : Nat) (x : Int × List (Flat × Lx d)) (IH : ∀ (j : Nat) (s : Flat × Lx d), x.2[j]? = some s → CopyV d s.2) (a : Option Addr) (n c : Nat) (w : World) (hx : RdOf (· < w.heap.size) 11 (SimpleAt (RdL (· < w.heap.size) d w) w) a n c x.2) (hn : n ≤ 1000000) :
    Calls Try.prog 78 #[.agg #[.int .i64 x.1, .slice a n c]] w fun e w' => ∃ b, e = .returned (.agg #[.int .i64 x.1, whole b x.2.length]) ∧ OwnRow 11 86 (OwnS (OwnL d w')) w' w.heap.size w'.heap.size b x.2 ∧ Below w.heap.size w w' := by
  obtain ⟨w0, hw0⟩ : ∃ w0, (w.alloc (.cells #[.int .i64 x.1, .slice a n c] 95)).alloc (.cells #[.int .i64 0, .slice none 0 0] 95) = w0 := ⟨_, rfl⟩
  have B1 : Blk w0 w.heap.size [.int .i64 x.1, .slice a n c] 95 := by rw [← hw0]; exact (Blk.alloc [.int .i64 x.1, .slice a n c] _).alloc_old _
  have B2 : Blk w0 (w.heap.size + 1) [.int .i64 0, .slice none 0 0] 95 := by
    rw [← hw0]
    have := Blk.alloc (w := w.alloc (.cells #[.int .i64 x.1, .slice a n c] 95)) [.int .i64 0, .slice none 0 0] 95
    rwa [World.size_alloc] at this
  have hb0 : Below w.heap.size w w0 := by
    rw [← hw0]
    have := (Below.refl w.heap.size w).alloc (Nat.le_refl _) (.cells #[.int .i64 x.1, .slice a n c] 95)
    exact this.alloc this.size _
  have hsz : w0.heap.size = w.heap.size + 1 + 1 := by rw [← hw0]; simp
  have HB0 := Lib.hid hb0.drew
  have HB1 := Lib.hid (B1.drewN 1)
  have HB2 := Lib.hid (B2.drewN 1)
  have HN := Lib.hid hx.1
  have HSZ := Lib.hid hsz
  have fC := copiedS_any d x.2 IH a n c w0.drew (RdSm.later hb0.drew (Nat.le_refl _) hx) hn
  have d0 := (B1.drewN 1).cell 0 _ rfl
  have d1 := (B1.drewN 1).cell 1 _ rfl
  have HW0 := Lib.hid hw0
  clear hb0 B1 B2 hx hsz
  go_enter Try.func78, Try.ntmps78
  go_wp2
  go_region_held3 (fun w' => w'.cell? ⟨w.heap.size, 0, none⟩ = some (.int .i64 x.1) ∧ w'.cell? ⟨w.heap.size, 1, none⟩ = some (.slice a n c)) (first | exact ⟨d0, d1⟩ | exact a3 | exact a4 | exact a5) (first
    | ((go_at_call 94); (with_reducible refine fC.mono ?_); rintro e w3 ⟨bN, rfl, hO, hb3⟩; unfold whole; have C3 := Blk.later HB1.out hb3 HB1.out.lt; have a3 : w3.cell? ⟨w.heap.size, 0, none⟩ = some (.int .i64 x.1) ∧ w3.cell? ⟨w.heap.size, 1, none⟩ = some (.slice a n c) := ⟨C3.cell 0 _ rfl, C3.cell 1 _ rfl⟩; have Y3 := Blk.later HB2.out hb3 HB2.out.lt; have y0 := Y3.cell 0 _ rfl; have z0 := Y3.frozen 0; have y1 := Y3.cell 1 _ rfl; have z1 := Y3.frozen 1; have C4 := C3.kept (grown_setCell w3 (w.heap.size + 1) 0 (.int .i64 x.1)) (by simp); have a4 : (w3.setCell ⟨w.heap.size + 1, 0, none⟩ (.int .i64 x.1)).cell? ⟨w.heap.size, 0, none⟩ = some (.int .i64 x.1) ∧ (w3.setCell ⟨w.heap.size + 1, 0, none⟩ (.int .i64 x.1)).cell? ⟨w.heap.size, 1, none⟩ = some (.slice a n c) := ⟨C4.cell 0 _ rfl, C4.cell 1 _ rfl⟩; have C5 := C4.kept (grown_setCell _ (w.heap.size + 1) 1 (.slice (some ⟨bN, 0, none⟩) n n)) (by simp); have a5 : ((w3.setCell ⟨w.heap.size + 1, 0, none⟩ (.int .i64 x.1)).setCell ⟨w.heap.size + 1, 1, none⟩ (.slice (some ⟨bN, 0, none⟩) n n)).cell? ⟨w.heap.size, 0, none⟩ = some (.int .i64 x.1) ∧ ((w3.setCell ⟨w.heap.size + 1, 0, none⟩ (.int .i64 x.1)).setCell ⟨w.heap.size + 1, 1, none⟩ (.slice (some ⟨bN, 0, none⟩) n n)).cell? ⟨w.heap.size, 1, none⟩ = some (.slice a n c) := ⟨C5.cell 0 _ rfl, C5.cell 1 _ rfl⟩))
  have F9 := setAll_blk [.int .i64 x.1, .slice (some ⟨bN, 0, none⟩) n n] 0 _ _ Y3
  have hbT := HB0.out.trans (hb3.mono HB0.out.size)
  have hbF := setAll_below (g := w.heap.size + 1) (Nat.le_succ w.heap.size) [.int .i64 x.1, .slice (some ⟨bN, 0, none⟩) n n] 0 _ hbT
  have q0 := F9.cell 0 _ rfl
  have q1 := F9.cell 1 _ rfl
  go_wp2
  change bodyPost _ _ _ _ _ (setAll w3 (w.heap.size + 1) 0 [.int .i64 x.1, .slice (some ⟨bN, 0, none⟩) n n])
  refine bodyPost_ret (v := .agg #[.int .i64 x.1, .slice (some ⟨bN, 0, none⟩) n n]) (by simp [results, Try.results78, go_sem, q0, q1]) rfl ⟨bN, by rw [HN.out]; rfl, ?_, hbF⟩
  have HMV : ∀ bl, w0.heap.size ≤ bl → bl < w3.heap.size → (setAll w3 (w.heap.size + 1) 0 [.int .i64 x.1, .slice (some ⟨bN, 0, none⟩) n n]).heap[bl]? = w3.heap[bl]? := fun bl h1 _ => setAll_old (by have := HSZ.out; omega) _ _ _
  refine (OwnRow.imp hO HMV (fun _ _ _ _ _ h1 h2 ⟨s1, s2, b, n, s3, s4⟩ => ⟨s1, s2, b, n, s3, s4.move (fun bl h3 h4 => HMV bl (Nat.le_trans h1 h3) (Nat.lt_of_lt_of_le h4 h2))⟩)).mono (show w.heap.size ≤ w0.heap.size by have := HSZ.out; omega) (by rw [setAll_size]; exact Nat.le_refl _)

set_option maxRecDepth 100000 in
set_option maxHeartbeats 8000000 in
theorem copiedK_any (d : Nat) (xs : List (Int × List (Flat × Lx d))) (IH : ∀ (k : Nat) (x : Int × List (Flat × Lx d)), xs[k]? = some x → ∀ (j : Nat) (s : Flat × Lx d), x.2[j]? = some s → CopyV d s.2) (hln : ∀ (k : Nat) (x : Int × List (Flat × Lx d)), xs[k]? = some x → x.2.length ≤ 1000000) (a : Option Addr) (n c : Nat) (w : World) (hx : RdX (· < w.heap.size) (RdL (· < w.heap.size) d w) w a n c xs) (hn : n ≤ 1000000) :
    Calls Try.prog 77 #[.slice a n c, .func (.func 78) #[] #[]] w fun e w' => ∃ b, e = .returned (whole b n) ∧ OwnRow 2 95 ((fun w => OwnK (OwnL d w) w) w') w' w.heap.size w'.heap.size b xs ∧ Below w.heap.size w w' := by
  have hmk := make_any 77 95 _ 2 32 Try.underlying77 TryinfoCompound n (by omega) (by omega)
  obtain ⟨cs0, hl0, hB0⟩ := made_blk w (Value.agg #[.int .i64 0, .slice none 0 0]).cells (n * 2) 95
  have hb0 := (Below.refl w.heap.size w).alloc (Nat.le_refl _) (.cells (madeCells (Value.agg #[.int .i64 0, .slice none 0 0]).cells (n * 2)) 95)
  have hm : n ≤ 9223372036854775807 := by omega
  have HN := Lib.hid hx.1
  have HX := Lib.hid hx
  have HIH := Lib.hid IH
  have HLN := Lib.hid hln
  clear hln
  have HM := Lib.hid hmk
  have HP0 := Lib.hid (show PartRow 2 95 (fun w => OwnK (OwnL d w) w) (w.alloc (.cells (madeCells (Value.agg #[.int .i64 0, .slice none 0 0]).cells (n * 2)) 95)) w.heap.size 0 cs0 (fun _ => w.heap.size + 1) xs from ⟨hB0, by rw [hl0, hx.1], Nat.lt_succ_self _, fun i hi => by omega, by simp, fun i x hi => by omega⟩)
  have Hb0 := Lib.hid hb0
  clear hx hmk hl0 hB0 hb0 IH
  have hmk := HM.out w
  go_enter Try.func77, Try.ntmps77
  go_wp2_with fail
  clear hmk
  go_loopw [13] (fun i wr => ∃ (k : Nat) (cs : List Value) (h : Nat → Nat), k ≤ n ∧ i = .int .i64 k ∧ Hid (PartRow 2 95 (fun w => OwnK (OwnL d w) w) wr w.heap.size k cs h xs) ∧ Hid (Below w.heap.size w wr)) (fun i _ => n - (intOf i).toNat)
  case atStart => exact ⟨0, cs0, _, Nat.zero_le _, rfl, HP0, Hb0⟩
  case round =>
    obtain ⟨k, cs, h, hk, rfl, HP, HW⟩ := hrel
    by_cases hlt : k < n
    · obtain ⟨x, hxk⟩ : ∃ x, xs[k]? = some x := ⟨_, List.getElem?_eq_getElem (by rw [← HN.out]; exact hlt)⟩
      obtain ⟨g, off, rfl, hg, x0, a1, n1, c1, x1, hL⟩ := HX.out.at k x hxk
      rw [← cell_same (HW.out.block g hg)] at x0 x1
      have hbX := HW.out.alloc HW.out.size (.cells #[.int .i64 x.1, .slice a1 n1 c1] 95)
      have fC := copyCompound_any d x (HIH.out k x hxk) a1 n1 c1 _ (RdSm.later hbX (Nat.le_refl _) hL) (by rw [hL.1]; exact HLN.out k x hxk)
      
      have hkI : (0 : Int) ≤ (k : Int) := by omega
      have hkI2 : (k : Int) < (n : Int) := by omega
      have hcl : Hid (cs.length = n * 2) := Lib.hid (by rw [HP.out.2.1, HN.out])
      have HXK := Lib.hid hxk
      have HBX := Lib.hid hbX
      have HBB := Lib.hid (HP.out.1.alloc_old (.cells #[.int .i64 x.1, .slice a1 n1 c1] 95))
      obtain ⟨o0, ho0⟩ : ∃ o, cs[k * 2]? = some o := ⟨_, List.getElem?_eq_getElem (by rw [hcl.out]; omega)⟩
      have HO0 := Lib.hid ho0
      obtain ⟨o1, ho1⟩ : ∃ o, cs[k * 2 + 1]? = some o := ⟨_, List.getElem?_eq_getElem (by rw [hcl.out]; omega)⟩
      have HO1 := Lib.hid ho1
      clear hxk hbX hL ho0 ho1
      go_wp2_with (go_at_call 78; (with_reducible refine fC.mono ?_); rintro e w2 ⟨bE, rfl, hO, hb2⟩; unfold whole; have B2 := HBB.out.later hb2 HBB.out.lt; have d0 := B2.cell (k * 2) _ HO0.out; have g0 := B2.frozen (k * 2); have d1 := B2.cell (k * 2 + 1) _ HO1.out; have g1 := B2.frozen (k * 2 + 1))
      have hwr : Below wr.heap.size wr w2 := ((Below.refl _ _).alloc (Nat.le_refl _) (.cells #[.int .i64 x.1, .slice a1 n1 c1] 95)).trans (hb2.mono (by simp))
      have hbS := setAll_below (g := w.heap.size) (Nat.le_refl _) [.int .i64 x.1, .slice (some ⟨bE, 0, none⟩) x.2.length x.2.length] (k * 2) w2 (HW.out.trans (hwr.mono HW.out.size))
      have HMV : ∀ bl, (wr.alloc (.cells #[.int .i64 x.1, .slice a1 n1 c1] 95)).heap.size ≤ bl → bl < w2.heap.size → (setAll w2 w.heap.size (k * 2) [.int .i64 x.1, .slice (some ⟨bE, 0, none⟩) x.2.length x.2.length]).heap[bl]? = w2.heap[bl]? := fun bl h1 _ => setAll_old (by have h2 := HP.out.1.lt; rw [World.size_alloc] at h1; omega) _ _ _
      have HLO : h k ≤ (wr.alloc (.cells #[.int .i64 x.1, .slice a1 n1 c1] 95)).heap.size := Nat.le_trans HP.out.2.2.2.2.1 (by rw [World.size_alloc]; omega)
      have HO := Lib.hid hO
      have HSE : ∀ (i : Nat) (u : Value), [.int .i64 x.1, .slice (some ⟨bE, 0, none⟩) x.2.length x.2.length][i]? = some u → (setsAll cs (k * 2) [.int .i64 x.1, .slice (some ⟨bE, 0, none⟩) x.2.length x.2.length])[k * 2 + i]? = some u := fun i u hu => setsAll_self _ _ _ (by rw [hcl.out]; simp; omega) hu
      have HPN := Lib.hid (PartRow.step (stableK d) (vs := [.int .i64 x.1, .slice (some ⟨bE, 0, none⟩) x.2.length x.2.length]) HP.out hwr rfl HXK.out (by
        refine ⟨by have := HSE 0 _ rfl; exact this, bE, HSE 1 _ rfl, HLN.out k x HXK.out, ?_⟩
        exact (OwnRow.imp HO.out HMV (fun _ _ _ _ _ h1 h2 ⟨s1, s2, b, n, s3, s4⟩ => ⟨s1, s2, b, n, s3, s4.move (fun bl h3 h4 => HMV bl (by omega) (by omega))⟩)).mono HLO (Nat.le_refl _)
        ))
      have HBS := Lib.hid hbS
      clear hbS HMV HLO HSE hwr hO B2 d0 g0 d1 g1
      go_wp2
      go_roundw
      case rel => exact ⟨k + 1, _, _, by omega, by go_num, HPN, HBS⟩
      case measure => simp [intOf]; omega
    · have hkI : ¬ (k : Int) < (n : Int) := by omega
      obtain rfl : k = n := by omega
      go_wp2
      go_ret
      refine ⟨w.heap.size, rfl, ?_, HW.out⟩
      have := HP.out
      rw [HN.out] at this
      exact this.done (Nat.le_refl _)

set_option maxRecDepth 100000 in
set_option maxHeartbeats 8000000 in
theorem copyComplex_any (d : Nat) (x : List (Int × List (Flat × Lx d))) (IH : ∀ (i : Nat) (y : Int × List (Flat × Lx d)), x[i]? = some y → ∀ (j : Nat) (s : Flat × Lx d), y.2[j]? = some s → CopyV d s.2) (hln : ∀ (i : Nat) (y : Int × List (Flat × Lx d)), x[i]? = some y → y.2.length ≤ 1000000) (a : Option Addr) (n c : Nat) (w : World) (hx : RdX (· < w.heap.size) (RdL (· < w.heap.size) d w) w a n c x) (hn : n ≤ 1000000) :
    Calls Try.prog 56 #[.agg #[.slice a n c]] w fun e w' => ∃ b, e = .returned (.agg #[whole b x.length]) ∧ OwnRow 2 95 (OwnK (OwnL d w') w') w' w.heap.size w'.heap.size b x ∧ Below w.heap.size w w' := by
  obtain ⟨w0, hw0⟩ : ∃ w0, (w.alloc (.cells #[.slice a n c] 79)).alloc (.cells #[.slice none 0 0] 79) = w0 := ⟨_, rfl⟩
  have B1 : Blk w0 w.heap.size [.slice a n c] 79 := by rw [← hw0]; exact (Blk.alloc [.slice a n c] _).alloc_old _
  have B2 : Blk w0 (w.heap.size + 1) [.slice none 0 0] 79 := by
    rw [← hw0]
    have := Blk.alloc (w := w.alloc (.cells #[.slice a n c] 79)) [.slice none 0 0] 79
    rwa [World.size_alloc] at this
  have hb0 : Below w.heap.size w w0 := by
    rw [← hw0]
    have := (Below.refl w.heap.size w).alloc (Nat.le_refl _) (.cells #[.slice a n c] 79)
    exact this.alloc this.size _
  have hsz : w0.heap.size = w.heap.size + 1 + 1 := by rw [← hw0]; simp
  have HB0 := Lib.hid hb0
  have HB1 := Lib.hid B1
  have HB2 := Lib.hid B2
  have HN := Lib.hid hx.1
  have HSZ := Lib.hid hsz
  have fC := copiedK_any d x IH hln a n c w0 (RdX.later hb0 (Nat.le_refl _) hx) hn
  have d0 := B1.cell 0 _ rfl
  
  have HW0 := Lib.hid hw0
  clear hb0 B1 B2 hx hsz
  go_enter Try.func56, Try.ntmps56
  go_wp2_with (go_at_call 77; (with_reducible refine fC.mono ?_); rintro e w3 ⟨bN, rfl, hO, hb3⟩; unfold whole; have C3 := Blk.later HB1.out hb3 HB1.out.lt; have a3 : w3.cell? ⟨w.heap.size, 0, none⟩ = some (.slice a n c) := C3.cell 0 _ rfl; have Y3 := Blk.later HB2.out hb3 HB2.out.lt; have y0 := Y3.cell 0 _ rfl; have z0 := Y3.frozen 0)
  have F9 := setAll_blk [.slice (some ⟨bN, 0, none⟩) n n] 0 _ _ Y3
  have hbT := HB0.out.trans (hb3.mono HB0.out.size)
  have hbF := setAll_below (g := w.heap.size + 1) (Nat.le_succ w.heap.size) [.slice (some ⟨bN, 0, none⟩) n n] 0 _ hbT
  have q0 := F9.cell 0 _ rfl
  go_wp2
  change bodyPost _ _ _ _ _ (setAll w3 (w.heap.size + 1) 0 [.slice (some ⟨bN, 0, none⟩) n n])
  refine bodyPost_ret (v := .agg #[.slice (some ⟨bN, 0, none⟩) n n]) (by simp [results, Try.results56, go_sem, q0]) rfl ⟨bN, by rw [HN.out]; rfl, ?_, hbF⟩
  have HMV : ∀ bl, w0.heap.size ≤ bl → bl < w3.heap.size → (setAll w3 (w.heap.size + 1) 0 [.slice (some ⟨bN, 0, none⟩) n n]).heap[bl]? = w3.heap[bl]? := fun bl h1 _ => setAll_old (by have := HSZ.out; omega) _ _ _
  refine (OwnRow.imp hO HMV (fun _ _ _ _ _ h1 h2 hx => hx.move (fun bl h3 h4 => HMV bl (Nat.le_trans h1 h3) (Nat.lt_of_lt_of_le h4 h2)) (fun _ _ _ _ _ h5 h6 h => h.move (fun bl h3 h4 => HMV bl (Nat.le_trans h1 (Nat.le_trans h5 h3)) (Nat.lt_of_lt_of_le h4 (Nat.le_trans h6 h2)))))).mono (show w.heap.size ≤ w0.heap.size by have := HSZ.out; omega) (by rw [setAll_size]; exact Nat.le_refl _)

set_option maxRecDepth 100000 in
set_option maxHeartbeats 8000000 in
theorem copiedX_any (d : Nat) (xs : List (List (Int × List (Flat × Lx d)))) (IH : ∀ (k : Nat) (x : List (Int × List (Flat × Lx d))), xs[k]? = some x → ∀ (i : Nat) (y : Int × List (Flat × Lx d)), x[i]? = some y → ∀ (j : Nat) (s : Flat × Lx d), y.2[j]? = some s → CopyV d s.2) (hln : ∀ (k : Nat) (x : List (Int × List (Flat × Lx d))), xs[k]? = some x → x.length ≤ 1000000) (hln2 : ∀ (k : Nat) (x : List (Int × List (Flat × Lx d))), xs[k]? = some x → ∀ (i : Nat) (y : Int × List (Flat × Lx d)), x[i]? = some y → y.2.length ≤ 1000000) (a : Option Addr) (n c : Nat) (w : World) (hx : RdOf (· < w.heap.size) 1 (ComplexAt (· < w.heap.size) (RdL (· < w.heap.size) d w) w) a n c xs) (hn : n ≤ 1000000) :
    Calls Try.prog 55 #[.slice a n c, .func (.func 56) #[] #[]] w fun e w' => ∃ b, e = .returned (whole b n) ∧ OwnRow 1 79 ((fun w => OwnX (OwnL d w) w) w') w' w.heap.size w'.heap.size b xs ∧ Below w.heap.size w w' := by
  have hmk := make_any 50 79 _ 1 24 Try.underlying50 TryinfoComplex n (by omega) (by omega)
  obtain ⟨cs0, hl0, hB0⟩ := made_blk w (Value.agg #[.slice none 0 0]).cells (n * 1) 79
  have hb0 := (Below.refl w.heap.size w).alloc (Nat.le_refl _) (.cells (madeCells (Value.agg #[.slice none 0 0]).cells (n * 1)) 79)
  have hm : n ≤ 9223372036854775807 := by omega
  have HN := Lib.hid hx.1
  have HX := Lib.hid hx
  have HIH := Lib.hid IH
  have HLN := Lib.hid hln
  have HLN2 := Lib.hid hln2
  clear hln hln2
  have HM := Lib.hid hmk
  have HP0 := Lib.hid (show PartRow 1 79 (fun w => OwnX (OwnL d w) w) (w.alloc (.cells (madeCells (Value.agg #[.slice none 0 0]).cells (n * 1)) 79)) w.heap.size 0 cs0 (fun _ => w.heap.size + 1) xs from ⟨hB0, by rw [hl0, hx.1], Nat.lt_succ_self _, fun i hi => by omega, by simp, fun i x hi => by omega⟩)
  have Hb0 := Lib.hid hb0
  clear hx hmk hl0 hB0 hb0 IH
  have hmk := HM.out w
  go_enter Try.func55, Try.ntmps55
  go_wp2_with fail
  clear hmk
  go_loopw [13] (fun i wr => ∃ (k : Nat) (cs : List Value) (h : Nat → Nat), k ≤ n ∧ i = .int .i64 k ∧ Hid (PartRow 1 79 (fun w => OwnX (OwnL d w) w) wr w.heap.size k cs h xs) ∧ Hid (Below w.heap.size w wr)) (fun i _ => n - (intOf i).toNat)
  case atStart => exact ⟨0, cs0, _, Nat.zero_le _, rfl, Lib.hid (by have := HP0.out; rw [Nat.mul_one] at this; exact this), Lib.hid (by have := Hb0.out; rw [Nat.mul_one] at this; exact this)⟩
  case round =>
    obtain ⟨k, cs, h, hk, rfl, HP, HW⟩ := hrel
    by_cases hlt : k < n
    · obtain ⟨x, hxk⟩ : ∃ x, xs[k]? = some x := ⟨_, List.getElem?_eq_getElem (by rw [← HN.out]; exact hlt)⟩
      obtain ⟨g, off, rfl, hg, a1, n1, c1, x0, hL⟩ := HX.out.at k x hxk
      rw [Nat.mul_one] at x0
      rw [← cell_same (HW.out.block g hg)] at x0
      have hbX := HW.out.alloc HW.out.size (.cells #[.slice a1 n1 c1] 79)
      have fC := copyComplex_any d x (HIH.out k x hxk) (fun k' x' h => HLN2.out k x hxk k' x' h) a1 n1 c1 _ (RdX.later hbX (Nat.le_refl _) hL) (by rw [hL.1]; exact HLN.out k x hxk)
      
      have hkI : (0 : Int) ≤ (k : Int) := by omega
      have hkI2 : (k : Int) < (n : Int) := by omega
      have hcl : Hid (cs.length = n * 1) := Lib.hid (by rw [HP.out.2.1, HN.out])
      have HXK := Lib.hid hxk
      have HBX := Lib.hid hbX
      have HBB := Lib.hid (HP.out.1.alloc_old (.cells #[.slice a1 n1 c1] 79))
      obtain ⟨o0, ho0⟩ : ∃ o, cs[k]? = some o := ⟨_, List.getElem?_eq_getElem (by rw [hcl.out]; omega)⟩
      have HO0 := Lib.hid ho0
      clear hxk hbX hL ho0
      go_wp2_with (go_at_call 56; (with_reducible refine fC.mono ?_); rintro e w2 ⟨bE, rfl, hO, hb2⟩; unfold whole; have B2 := HBB.out.later hb2 HBB.out.lt; have d0 := B2.cell (k) _ HO0.out; have g0 := B2.frozen (k))
      have hwr : Below wr.heap.size wr w2 := ((Below.refl _ _).alloc (Nat.le_refl _) (.cells #[.slice a1 n1 c1] 79)).trans (hb2.mono (by simp))
      have hbS := setAll_below (g := w.heap.size) (Nat.le_refl _) [.slice (some ⟨bE, 0, none⟩) x.length x.length] (k * 1) w2 (HW.out.trans (hwr.mono HW.out.size))
      have HMV : ∀ bl, (wr.alloc (.cells #[.slice a1 n1 c1] 79)).heap.size ≤ bl → bl < w2.heap.size → (setAll w2 w.heap.size (k * 1) [.slice (some ⟨bE, 0, none⟩) x.length x.length]).heap[bl]? = w2.heap[bl]? := fun bl h1 _ => setAll_old (by have h2 := HP.out.1.lt; rw [World.size_alloc] at h1; omega) _ _ _
      have HLO : h k ≤ (wr.alloc (.cells #[.slice a1 n1 c1] 79)).heap.size := Nat.le_trans HP.out.2.2.2.2.1 (by rw [World.size_alloc]; omega)
      have HO := Lib.hid hO
      have HSE : ∀ (i : Nat) (u : Value), [.slice (some ⟨bE, 0, none⟩) x.length x.length][i]? = some u → (setsAll cs (k * 1) [.slice (some ⟨bE, 0, none⟩) x.length x.length])[k * 1 + i]? = some u := fun i u hu => setsAll_self _ _ _ (by rw [hcl.out]; simp; omega) hu
      have HPN := Lib.hid (PartRow.step (stableX d) (vs := [.slice (some ⟨bE, 0, none⟩) x.length x.length]) HP.out hwr rfl HXK.out (by
        refine ⟨bE, by have := HSE 0 _ rfl; exact this, HLN.out k x HXK.out, ?_⟩
        exact (OwnRow.imp HO.out HMV (fun _ _ _ _ _ h1 h2 hx => hx.move (fun bl h3 h4 => HMV bl (by omega) (by omega)) (fun _ _ _ _ _ h5 h6 h => h.move (fun bl h3 h4 => HMV bl (by omega) (by omega))))).mono HLO (Nat.le_refl _)
        ))
      have HBS := Lib.hid hbS
      clear hbS HMV HLO HSE hwr hO B2 d0 g0
      go_wp2
      go_roundw
      case rel => exact ⟨k + 1, _, _, by omega, by go_num, Lib.hid (by have := HPN.out; simp only [Nat.mul_one] at this; exact this), Lib.hid (by have := HBS.out; simp only [Nat.mul_one] at this; exact this)⟩
      case measure => simp [intOf]; omega
    · have hkI : ¬ (k : Int) < (n : Int) := by omega
      obtain rfl : k = n := by omega
      go_wp2
      go_ret
      refine ⟨w.heap.size, rfl, ?_, HW.out⟩
      have := HP.out
      rw [HN.out] at this
      exact this.done (Nat.le_refl _)

theorem SmL.parts {most d : Nat} {xs : List (List (Int × List (Flat × Lx d)))} (h : SmL most (d + 1) xs) : xs.length ≤ most ∧ ∀ x ∈ xs, x.length ≤ most ∧ ∀ y ∈ x, y.2.length ≤ most ∧ ∀ s ∈ y.2, SmL most d s.2 :=
  ⟨h.1, fun x hx => ⟨(h.2 x hx).1, fun y hy => ⟨((h.2 x hx).2 y hy).1, fun s hs => (((h.2 x hx).2 y hy).2 s hs).2⟩⟩⟩
set_option maxRecDepth 100000 in
set_option maxHeartbeats 4000000 in
theorem copy_step (d : Nat) (xs : List (List (Int × List (Flat × Lx d)))) (IH : ∀ (k : Nat) (x : List (Int × List (Flat × Lx d))), xs[k]? = some x → ∀ (i : Nat) (y : Int × List (Flat × Lx d)), x[i]? = some y → ∀ (j : Nat) (s : Flat × Lx d), y.2[j]? = some s → CopyV d s.2) (hS : xs.length ≤ 1000000 ∧ ∀ x ∈ xs, x.length ≤ 1000000 ∧ ∀ y ∈ x, y.2.length ≤ 1000000) (a : Option Addr) (n c : Nat) (w : World) (hx : RdL (· < w.heap.size) (d + 1) w a n c xs) :
    Calls Try.prog 28 #[.slice a n c] w (CopyPost (d + 1) xs n w) := by
  have hx : RdOf (· < w.heap.size) 1 (ComplexAt (· < w.heap.size) (RdL (· < w.heap.size) d w) w) a n c xs := hx
  have hn : n ≤ 1000000 := by rw [hx.1]; exact hS.1
  have hN := hx.1
  have fC := copiedX_any d xs IH (fun k x hk => (hS.2 x (List.mem_of_getElem? hk)).1) (fun k x hk i y hy => (hS.2 x (List.mem_of_getElem? hk)).2 y (List.mem_of_getElem? hy)) a n c w hx hn
  have HN := Lib.hid (And.intro hN hn)
  clear hx hS IH hN hn
  go_enter Try.func28, Try.ntmps28
  go_wp2_with fail
  refine fC.mono ?_
  rintro e w1 ⟨b, rfl, hO, hb⟩
  unfold whole
  go_wp2
  go_ret
  exact ⟨b, rfl, ⟨HN.out.1, HN.out.2, hO⟩, hb⟩
theorem copy_any {most : Nat} (hm : most ≤ 1000000) : ∀ (d : Nat) (x : Lx d), SmL most d x → CopyV d x
  | 0, x, _ => fun a n c w hx => by
    obtain ⟨rfl, hc⟩ := hx
    have h := copy_step 0 [] (fun k x h => by simp at h) ⟨by simp, fun c hc => by cases hc⟩ a 0 c w ⟨rfl, Nat.zero_le _, ⟨hc, Nat.zero_le _⟩, .inl rfl⟩
    refine h.mono ?_
    rintro e w' ⟨b, rfl, hO, hb⟩
    have h1 := hO.len
    obtain ⟨cs, f, h2, h3, h4, _⟩ := hO.2.2
    exact ⟨b, rfl, ⟨rfl, h4, h1⟩, hb⟩
  | d + 1, x, hS => fun a n c w hx => copy_step d x (fun k y hk i z hz j s hs => copy_any hm d s.2 (((hS.parts.2 y (List.mem_of_getElem? hk)).2 z (List.mem_of_getElem? hz)).2 s (List.mem_of_getElem? hs))) ⟨Nat.le_trans hS.parts.1 hm, fun y hy => ⟨Nat.le_trans (hS.parts.2 y hy).1 hm, fun z hz => Nat.le_trans ((hS.parts.2 y hy).2 z hz).1 hm⟩⟩ a n c w hx
end Go.Proofs.Ytfgnepbpfglepaa
