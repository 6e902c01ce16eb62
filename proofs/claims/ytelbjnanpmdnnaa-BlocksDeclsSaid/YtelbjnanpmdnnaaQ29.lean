/- Texts of mine in one: Bb4. -/
import Derived.Test.YtelbjnanpmdnnaaQ28
namespace Go.Proofs.Ytelbjnanpmdnnaa
section
open Go.RowKit
set_option linter.unusedVariables false
set_option linter.unusedSimpArgs false
theorem trimF_empty (ts : List Tk) (E j : Nat) (h : E ≤ j) : trimF ts E j = (j, j) := by
  unfold trimF
  have : overF ts (isK 13) E j = j := by rw [overF_step, if_neg (by omega)]
  rw [this, if_neg (by omega)]
def NoEnd (ts : List Tk) (j E : Nat) : Prop := ∀ i m, j ≤ i → i ≤ m → m ≤ E → endF ts m i = m
theorem noEnd_of (ts : List Tk) (e a j m : Nat) (h : a ≤ j) (hm : m ≤ endF ts e a) : NoEnd ts j m := fun i q h1 h2 h3 => endF_sub ts e a i q (by omega) h2 (by omega)
theorem trimF_end {ts : List Tk} {j E a b : Nat} (h : NoEnd ts j E) (hja : j ≤ a) (hab : a ≤ b) (hb : b ≤ E) : trimF ts (endF ts (b - 1) a) a = trimF ts (b - 1) a := by
  rcases Nat.lt_or_ge a b with h1 | h1
  · rw [h a (b - 1) hja (by omega) (by omega)]
  · have h2 : endF ts (b - 1) a = a := by rw [endF_step, if_neg (by omega)]
    rw [h2, trimF_empty _ _ _ (Nat.le_refl _), trimF_empty _ _ _ (by omega)]
theorem trimF_lt (ts : List Tk) (E j : Nat) : j < (trimF ts E j).2 → (trimF ts E j).1 < (trimF ts E j).2 := by
  obtain ⟨h1, h2, h3⟩ := overF_bounds ts (isK 13) E _ j (Nat.le_refl _)
  unfold trimF
  split
  · rename_i hh
    intro _
    refine backF_first ts _ _ hh fun h13 => ?_
    rw [isK_yes h13] at h3
    exact absurd (h3 hh) (by simp)
  · intro h; dsimp only at h; omega
def DlPost (x : Dl) (ok : Bool) (w : World) (e : Ending) (w' : World) : Prop := e = .returned (.tuple #[.agg (dlCells x).toArray, .bool ok]) ∧ Below w.heap.size w w'
def rdeclB (ts : List Tk) (E j : Nat) : Bool := decide (colonF ts E j < E) && decide (kdA ts (colonF ts E j) = 16)
theorem declB_of (ts : List Tk) (E j : Nat) : declB ts E j = (decide (kdA ts j = 1) && rdeclB ts E j) := rfl
set_option maxRecDepth 100000 in
set_option maxHeartbeats 8000000 in
theorem rkdecl_any {ts : List Tk} {b n cap E : Nat} {w : World} (j : Nat) (hT : TkRow w b n ts) (hcap : n ≤ cap) (hc2 : cap ≤ maxLen) (hn : n ≤ 1000000) (hE : E ≤ n) (hj : j < E) (hs : ∀ j, (txA ts j).size ≤ 1000000) (hNE : NoEnd ts j E) :
    Calls Try.prog 31 #[.slice (some ⟨b, 0, none⟩) n cap, .int .i64 j, .int .i64 E] w (DlPost (if rdeclB ts E j = true then declF ts E j else ⟨⟨#[]⟩, 0, 0, false⟩) (rdeclB ts E j) w) := by
  have cT := fun (w' : World) (f a e0 E' : Nat) (h : TkRow w' b n ts) (h1 : a = f) (h2 : a ≤ n) (h3 : e0 ≤ n) (h4 : endF ts e0 a = E') => rktrim_any (w := w') (f : Int) (e0 : Int) a e0 E' h hcap hc2 hn (by omega) (by omega) (by omega) h4
  have cL := fun (w' : World) j => rlower_any (txA ts j) w' (hs j)
  have B0 : Blk (w.alloc (.cells [.string ⟨#[]⟩, .int .i64 0, .int .i64 0, .bool false].toArray 41)) w.heap.size [.string ⟨#[]⟩, .int .i64 0, .int .i64 0, .bool false] 41 := Blk.alloc _ _
  have hb1 := (Below.refl w.heap.size w).alloc (Nat.le_refl _) (.cells [.string ⟨#[]⟩, .int .i64 0, .int .i64 0, .bool false].toArray 41)
  have hT1 := hT.later hb1 hT.lt
  have hz1' : (w.alloc (.cells [.string ⟨#[]⟩, .int .i64 0, .int .i64 0, .bool false].toArray 41)).heap.size = w.heap.size + 1 := by simp
  have hbw := hT.lt
  unfold maxLen at hc2
  obtain ⟨i0, hi, hz0, hz1, hz2⟩ := info_parts Try.infoDecl
  obtain ⟨ho1, ho2, ho3⟩ := overF_bounds ts (isK 13) E _ (j + 1) (Nat.le_refl _)
  have HD : Hid (rdeclB ts E j = (decide (overF ts (isK 13) E (j + 1) < E) && decide (kdA ts (overF ts (isK 13) E (j + 1)) = 16))) := Lib.hid rfl
  generalize hX : (if rdeclB ts E j = true then declF ts E j else ⟨⟨#[]⟩, 0, 0, false⟩) = X at *
  generalize hD : rdeclB ts E j = D at *
  generalize hS : overF ts (isK 13) E (j + 1) = S at *
  have HS := Lib.hid hS
  have HX := Lib.hid hX
  have HDD := Lib.hid hD
  have H3 := Lib.hid ho3
  have HT1 := Lib.hid hT1
  have hjn : (j : Int) < (n : Int) := by omega
  have ct := hT1.tx j (by omega)
  clear hS hX hD hT hT1 ho3
  go_enter Try.func31, Try.ntmps31
  go_wp2_with fail
  go_loopw [8] (fun v wr => ∃ i : Nat, v = .int .i64 i ∧ j + 1 ≤ i ∧ i ≤ E ∧ Hid (overF ts (isK 13) E i = S) ∧ wr = w.alloc (.cells [.string ⟨#[]⟩, .int .i64 0, .int .i64 0, .bool false].toArray 41)) (fun v _ => E - (intOf v).toNat)
  case atStart => exact ⟨j + 1, by go_num, by omega, by omega, HS, rfl⟩
  case round =>
    obtain ⟨i, rfl, hai, hiE, hR, rfl⟩ := hrel
    by_cases hi : i < E
    · have hi1 : (i : Int) < (E : Int) := by omega
      have hi2 : (i : Int) < (n : Int) := by omega
      have c1 := HT1.out.kd i (by omega)
      by_cases hk : kdA ts i = 13
      · have HN : Hid (overF ts (isK 13) E (i + 1) = S) := Lib.hid (by
          rw [← hR.out]; conv => rhs; rw [overF_step, if_pos ⟨hi, isK_yes hk⟩])
        rw [hk] at c1
        clear hk hR
        go_wp2
        go_roundw
        case rel => exact ⟨i + 1, by go_num, by omega, by omega, HN, by first | rfl | trivial⟩
        case measure => simp [intOf]; omega
      · have hSi : S = i := by rw [← hR.out, overF_step, if_neg (by rw [isK_no hk]; simp)]
        subst hSi
        have nk : (kdA ts S == 13) = false := beq_eq_false_iff_ne.2 hk
        by_cases h16 : kdA ts S = 16
        · have hDv : D = true := by rw [HD.out, decide_eq_true hi, decide_eq_true h16]; rfl
          subst hDv
          have hXv : X = declF ts E j := by rw [← HX.out, if_pos rfl]
          have HXv := Lib.hid hXv
          have hcol : colonF ts E j = S := HS.out
          have HCol := Lib.hid hcol
          rw [h16] at c1
          clear hR HD HX HDD hXv hk nk h16 hcol
          have hL := fun w' => cL w' j
          generalize hLo : lowS (txA ts j) = L at *
          generalize htx : txA ts j = tx at *
          have HLo := Lib.hid hLo
          have Htx := Lib.hid htx
          clear hLo htx
          go_wp2_with fail
          refine (hL _).mono ?_
          rintro e w2 ⟨rfl, hb2⟩
          rw [hz1'] at hb2
          generalize hW1 : w.alloc (.cells [.string ⟨#[]⟩, .int .i64 0, .int .i64 0, .bool false].toArray 41) = w1 at *
          have hT2 := Lib.hid (HT1.out.later hb2 (by omega))
          have B2 := B0.later hb2 (by omega)
          have hbw2 := hb1.trans (hb2.mono (by omega))
          have hz2' := hb2.size
          clear hb2 HT1 ct c1 B0 hb1 hW1 hL
          go_upto_region 7 with (fail)
          have B3 : Blk (w2.alloc (.cells [.string L, .int .i64 0, .int .i64 0, .bool false].toArray 41)) w2.heap.size [.string L, .int .i64 0, .int .i64 0, .bool false] 41 := Blk.alloc _ _
          have R3 := B2.alloc_old (.cells [.string L, .int .i64 0, .int .i64 0, .bool false].toArray 41)
          have hT3 := hT2.out.later ((Below.refl w2.heap.size w2).alloc (Nat.le_refl _) (.cells [.string L, .int .i64 0, .int .i64 0, .bool false].toArray 41)) (by omega)
          have hbw3 := hbw2.alloc hbw2.size (.cells [.string L, .int .i64 0, .int .i64 0, .bool false].toArray 41)
          generalize hW3 : w2.alloc (.cells [.string L, .int .i64 0, .int .i64 0, .bool false].toArray 41) = w3 at *
          have hpq : w.heap.size < w2.heap.size := by omega
          generalize w2.heap.size = p at *
          clear hW3 hT2 B2 hbw2 hz2' hz1'
          have ct := hT3.tx j (by omega)
          rw [Htx.out] at ct
          have hbp : b < p := by omega
          by_cases ht2 : 2 ≤ tx.size
          · have ht3 : (1 : Int) < (tx.size : Int) := by omega
            have ht4 : (2 : Int) ≤ (tx.size : Int) := by omega
            cases hda : ((tx.extract 0 2).toList == [45, 45]) with
            | true =>
              have hNM : propF tx = tx := by unfold propF dashB; rw [decide_eq_true ht2, hda]; rfl
              have c0 := B3.cell 0 _ rfl
              have c1 := B3.cell 1 _ rfl
              have c2 := B3.cell 2 _ rfl
              have c3 := B3.cell 3 _ rfl
              have f0 := B3.frozen 0
              have f1 := B3.frozen 1
              have f2 := B3.frozen 2
              have f3 := B3.frozen 3
              have HNMv := Lib.hid hNM
              clear hNM
              go_wp2_with fail
              have B4 := B3.setCell 0 (.string tx)
              have hbw4 := hbw3.setCell (p := ⟨p, 0, none⟩) (Nat.le_of_lt hpq) (.string tx)
              have R4 := R3.later ((Below.refl p w3).setCell (p := ⟨p, 0, none⟩) (Nat.le_refl _) (.string tx)) hpq
              have hT4 := hT3.set (i := 0) (v := .string tx) hbp
              generalize w3.setCell ⟨p, 0, none⟩ (.string tx) = w4 at *
              clear c0 c1 c2 c3 f0 f1 f2 f3 B3 hbw3 R3 hT3 ct hda ht2 ht3 ht4
              have hE1 := hNE (S + 1) E (by omega) (by omega) (Nat.le_refl _)
              have cT1 := cT _ (S + 1) (S + 1) E E hT4 rfl (by omega) hE hE1
              rw [show ((S + 1 : Nat) : Int) = (S : Int) + 1 from by omega] at cT1
              have htb := trimF_bounds ts E (S + 1) (by omega)
              refine cT1.mono ?_
              rintro e wq ⟨rfl, hwq⟩; replace hwq := hwq.symm; subst hwq
              clear cT1 hE1
              generalize hT1v : trimF ts E (S + 1) = V1 at *
              obtain ⟨a1, b1⟩ := V1
              dsimp only at htb ⊢
              have HT1v := Lib.hid hT1v
              clear hT1v
              have c0 := B4.cell 0 _ rfl
              have c1 := B4.cell 1 _ rfl
              have c2 := B4.cell 2 _ rfl
              have c3 := B4.cell 3 _ rfl
              have f0 := B4.frozen 0
              have f1 := B4.frozen 1
              have f2 := B4.frozen 2
              have f3 := B4.frozen 3
              go_upto_region 10 with (fail)
              have B5 := (B4.setCell 1 (.int .i64 a1)).setCell 2 (.int .i64 b1)
              have hbw5 := (hbw4.setCell (p := ⟨p, 1, none⟩) (Nat.le_of_lt hpq) (.int .i64 a1)).setCell (p := ⟨p, 2, none⟩) (Nat.le_of_lt hpq) (.int .i64 b1)
              have R5 := R4.later (((Below.refl p w4).setCell (p := ⟨p, 1, none⟩) (Nat.le_refl _) (.int .i64 a1)).setCell (p := ⟨p, 2, none⟩) (Nat.le_refl _) (.int .i64 b1)) hpq
              have hT5 := (hT4.set (i := 1) (v := .int .i64 a1) hbp).set (i := 2) (v := .int .i64 b1) hbp
              generalize ((w4.setCell ⟨p, 1, none⟩ (.int .i64 a1)).setCell ⟨p, 2, none⟩ (.int .i64 b1)) = w5 at *
              clear c0 c1 c2 c3 f0 f1 f2 f3 B4 hbw4 R4 hT4
              obtain ⟨q1, rfl⟩ : ∃ q1, b1 = q1 + 1 := ⟨b1 - 1, by omega⟩
              have hte := trimF_end hNE (show j ≤ a1 by omega) htb.2.1 htb.2.2
              have cT2 := cT _ a1 a1 (q1 + 1 - 1) (endF ts (q1 + 1 - 1) a1) hT5 rfl (by omega) (by omega) rfl
              rw [hte] at cT2
              have htb2 : a1 ≤ (trimF ts (q1 + 1 - 1) a1).1 ∧ (trimF ts (q1 + 1 - 1) a1).1 ≤ (trimF ts (q1 + 1 - 1) a1).2 ∧ (trimF ts (q1 + 1 - 1) a1).2 ≤ E := by
                rw [← hte]
                have h1 := endF_ge ts (q1 + 1 - 1) a1
                have h2 := endF_le ts (q1 + 1 - 1) a1
                have h3 := trimF_bounds ts (endF ts (q1 + 1 - 1) a1) a1 h1
                omega
              have hlt2 : a1 < (trimF ts (q1 + 1 - 1) a1).2 → (trimF ts (q1 + 1 - 1) a1).1 < (trimF ts (q1 + 1 - 1) a1).2 := trimF_lt ts _ _
              have HMk : Hid (markF ts a1 (q1 + 1) = (trimF ts (q1 + 1 - 1) a1).2) := Lib.hid rfl
              rw [show q1 + 1 - 1 = q1 from rfl] at *
              generalize trimF ts q1 a1 = V2 at *
              obtain ⟨a2, b2⟩ := V2
              dsimp only at htb2 hlt2 HMk cT2
              have hq1 : ((q1 + 1 : Nat) : Int) = (q1 : Int) + 1 := by omega
              rw [hq1] at B5
              have c0 := B5.cell 0 _ rfl
              have c1 := B5.cell 1 _ rfl
              have c2 := B5.cell 2 _ rfl
              have c3 := B5.cell 3 _ rfl
              have f0 := B5.frozen 0
              have f1 := B5.frozen 1
              have f2 := B5.frozen 2
              have f3 := B5.frozen 3
              clear hte
              go_wp2_with fail
              refine cT2.mono ?_
              rintro e wq ⟨rfl, hwq⟩; replace hwq := hwq.symm; subst hwq
              clear cT2
              by_cases hab : a1 < q1 + 1
              · have hab1 : (a1 : Int) < (q1 : Int) + 1 := by omega
                have hq1n : (q1 : Int) < (n : Int) := by omega
                have ck := hT5.kd q1 (by omega)
                have cx := hT5.tx q1 (by omega)
                by_cases hk1 : kdA ts q1 = 1
                · rw [hk1] at ck
                  have hL5 := fun w' => cL w' q1
                  cases hii : ((lowS (txA ts q1)).toList == [105, 109, 112, 111, 114, 116, 97, 110, 116]) with
                  | true =>
                    by_cases hab2 : a1 < b2
                    · obtain ⟨q2, rfl⟩ : ∃ q2, b2 = q2 + 1 := ⟨b2 - 1, by omega⟩
                      have hq2 : ((q2 + 1 : Nat) : Int) = (q2 : Int) + 1 := by omega
                      have hab3 : (a2 : Int) < (q2 : Int) + 1 := by have := hlt2 hab2; omega
                      have hq2n : (q2 : Int) < (n : Int) := by omega
                      by_cases hk9 : kdA ts q2 = 9
                      · cases hx33 : ((txA ts q2).toList == [33]) with
                        | true =>
                          have himp : impB ts a1 (q1 + 1) = true := by unfold impB; rw [HMk.out, show q2 + 1 - 1 = q2 from rfl, show q1 + 1 - 1 = q1 from rfl, hx33, hii, decide_eq_true hab, decide_eq_true hk1, decide_eq_true hab2, decide_eq_true hk9]; rfl
                          have hXv : X = ⟨tx, (trimF ts q2 a1).1, (trimF ts q2 a1).2, true⟩ := by rw [HXv.out]; unfold declF declAt; rw [HCol.out, HT1v.out]; dsimp only; rw [himp, if_pos rfl, HMk.out, Htx.out, HNMv.out]; rfl
                          subst hXv
                          clear himp HXv
                          have hE3 := hNE a1 q2 (by omega) (by omega) (by omega)
                          have cT3 := fun w' h => cT w' a1 a1 q2 q2 h rfl (by omega) (by omega) hE3
                          generalize trimF ts q2 a1 = V3 at *
                          obtain ⟨a3, b3⟩ := V3
                          dsimp only at cT3
                          have HC3 := Lib.hid cT3
                          clear hE3 cT3 cL hlt2 HMk
                          rw [hq2]
                          generalize hlx : lowS (txA ts q1) = lx at *
                          generalize htq : txA ts q1 = tq at *
                          have hlt5 := B5.lt
                          have HT5 := Lib.hid hT5; have HB5 := Lib.hid B5; have HR5 := Lib.hid R5; have HW5 := Lib.hid hbw5
                          clear hlx htq hT5 B5 R5 hbw5
                          go_wp2_with (first | (go_at_call 37; ((with_reducible refine (hL5 _).mono ?_)); rintro e w6 ⟨rfl, hb6⟩; have B6 := HB5.out.later hb6 (by omega); have R6 := HR5.out.later hb6 (by omega); have hT6 := HT5.out.later hb6 (by omega); have hbw6 := HW5.out.trans (hb6.mono HW5.out.size); have e0 := B6.cell 0 _ rfl; have e1 := B6.cell 1 _ rfl; have e2 := B6.cell 2 _ rfl; have e3 := B6.cell 3 _ rfl; have g0 := B6.frozen 0; have g1 := B6.frozen 1; have g2 := B6.frozen 2; have g3 := B6.frozen 3; have r0 := R6.cell 0 _ rfl; have r1 := R6.cell 1 _ rfl; have r2 := R6.cell 2 _ rfl; have r3 := R6.cell 3 _ rfl; have z0 := R6.frozen 0; have z1 := R6.frozen 1; have z2 := R6.frozen 2; have z3 := R6.frozen 3; have ck2 := hT6.kd q2 (by omega); have cx2 := hT6.tx q2 (by omega); rw [hk9] at ck2))
                          have B7 := B6.setCell 3 (.bool true)
                          have hbw7 := hbw6.setCell (p := ⟨p, 3, none⟩) (Nat.le_of_lt hpq) (.bool true)
                          have R7 := R6.later ((Below.refl p w6).setCell (p := ⟨p, 3, none⟩) (Nat.le_refl _) (.bool true)) hpq
                          have hT7 := hT6.set (i := 3) (v := .bool true) hbp
                          generalize w6.setCell ⟨p, 3, none⟩ (.bool true) = w7 at *
                          clear e0 e1 e2 e3 g0 g1 g2 g3 r0 r1 r2 r3 z0 z1 z2 z3 ck2 cx2 B6 hbw6 R6 hT6
                          refine (HC3.out _ hT7).mono ?_
                          rintro e wq ⟨rfl, hwq⟩; replace hwq := hwq.symm; subst hwq
                          have c0 := B7.cell 0 _ rfl
                          have c1 := B7.cell 1 _ rfl
                          have c2 := B7.cell 2 _ rfl
                          have c3 := B7.cell 3 _ rfl
                          have f0 := B7.frozen 0
                          have f1 := B7.frozen 1
                          have f2 := B7.frozen 2
                          have f3 := B7.frozen 3
                          go_upto_region 14 with (fail)
                          have B8 := (B7.setCell 1 (.int .i64 a3)).setCell 2 (.int .i64 b3)
                          have hbw8 := (hbw7.setCell (p := ⟨p, 1, none⟩) (Nat.le_of_lt hpq) (.int .i64 a3)).setCell (p := ⟨p, 2, none⟩) (Nat.le_of_lt hpq) (.int .i64 b3)
                          have R8 := R7.later (((Below.refl p w7).setCell (p := ⟨p, 1, none⟩) (Nat.le_refl _) (.int .i64 a3)).setCell (p := ⟨p, 2, none⟩) (Nat.le_refl _) (.int .i64 b3)) hpq
                          generalize ((w7.setCell ⟨p, 1, none⟩ (.int .i64 a3)).setCell ⟨p, 2, none⟩ (.int .i64 b3)) = w8 at *
                          clear c0 c1 c2 c3 f0 f1 f2 f3 B7 hbw7 R7 hT7
                          have c0 := B8.cell 0 _ rfl
                          have c1 := B8.cell 1 _ rfl
                          have c2 := B8.cell 2 _ rfl
                          have c3 := B8.cell 3 _ rfl
                          have f0 := B8.frozen 0
                          have f1 := B8.frozen 1
                          have f2 := B8.frozen 2
                          have f3 := B8.frozen 3
                          have r0 := R8.cell 0 _ rfl
                          have r1 := R8.cell 1 _ rfl
                          have r2 := R8.cell 2 _ rfl
                          have r3 := R8.cell 3 _ rfl
                          have z0 := R8.frozen 0
                          have z1 := R8.frozen 1
                          have z2 := R8.frozen 2
                          have z3 := R8.frozen 3
                          have HBW := Lib.hid hbw8; clear hbw8
                          go_wp2
                          refine bodyPost_ret (v := .tuple #[.agg #[.string tx, .int .i64 a3, .int .i64 b3, .bool true], .bool true]) (by simp [results, Try.results31, go_sem, r0, r1, r2, r3]) rfl ⟨rfl, ?_⟩
                          exact (((HBW.out.setCell (p := ⟨w.heap.size, 0, none⟩) (Nat.le_refl _) _).setCell (p := ⟨w.heap.size, 1, none⟩) (Nat.le_refl _) _).setCell (p := ⟨w.heap.size, 2, none⟩) (Nat.le_refl _) _).setCell (p := ⟨w.heap.size, 3, none⟩) (Nat.le_refl _) _
                        | false =>
                          have himp : impB ts a1 (q1 + 1) = false := by unfold impB; rw [HMk.out, show q2 + 1 - 1 = q2 from rfl, hx33]; simp
                          have hXv : X = ⟨tx, a1, q1 + 1, false⟩ := by rw [HXv.out]; unfold declF declAt; rw [HCol.out, HT1v.out]; dsimp only; rw [himp, if_neg (by simp), Htx.out, HNMv.out]
                          subst hXv
                          clear himp HXv
                          clear cL hlt2 HMk
                          rw [hq2]
                          generalize hlx : lowS (txA ts q1) = lx at *
                          generalize htq : txA ts q1 = tq at *
                          have hlt5 := B5.lt
                          have HT5 := Lib.hid hT5; have HB5 := Lib.hid B5; have HR5 := Lib.hid R5; have HW5 := Lib.hid hbw5
                          clear hlx htq hT5 B5 R5 hbw5
                          go_wp2_with (first | (go_at_call 37; ((with_reducible refine (hL5 _).mono ?_)); rintro e w6 ⟨rfl, hb6⟩; have B6 := HB5.out.later hb6 (by omega); have R6 := HR5.out.later hb6 (by omega); have hT6 := HT5.out.later hb6 (by omega); have hbw6 := HW5.out.trans (hb6.mono HW5.out.size); have e0 := B6.cell 0 _ rfl; have e1 := B6.cell 1 _ rfl; have e2 := B6.cell 2 _ rfl; have e3 := B6.cell 3 _ rfl; have g0 := B6.frozen 0; have g1 := B6.frozen 1; have g2 := B6.frozen 2; have g3 := B6.frozen 3; have r0 := R6.cell 0 _ rfl; have r1 := R6.cell 1 _ rfl; have r2 := R6.cell 2 _ rfl; have r3 := R6.cell 3 _ rfl; have z0 := R6.frozen 0; have z1 := R6.frozen 1; have z2 := R6.frozen 2; have z3 := R6.frozen 3; have ck2 := hT6.kd q2 (by omega); have cx2 := hT6.tx q2 (by omega); rw [hk9] at ck2))
                          refine bodyPost_ret (v := .tuple #[.agg #[.string tx, .int .i64 a1, .int .i64 ((q1 : Int) + 1), .bool false], .bool true]) (by simp [results, Try.results31, go_sem, r0, r1, r2, r3]) rfl ⟨rfl, ?_⟩
                          exact (((hbw6.setCell (p := ⟨w.heap.size, 0, none⟩) (Nat.le_refl _) _).setCell (p := ⟨w.heap.size, 1, none⟩) (Nat.le_refl _) _).setCell (p := ⟨w.heap.size, 2, none⟩) (Nat.le_refl _) _).setCell (p := ⟨w.heap.size, 3, none⟩) (Nat.le_refl _) _
                      · have himp : impB ts a1 (q1 + 1) = false := by unfold impB; rw [HMk.out, show q2 + 1 - 1 = q2 from rfl, decide_eq_false hk9]; simp
                        have nk9 : (kdA ts q2 == 9) = false := beq_eq_false_iff_ne.2 hk9
                        have hXv : X = ⟨tx, a1, q1 + 1, false⟩ := by rw [HXv.out]; unfold declF declAt; rw [HCol.out, HT1v.out]; dsimp only; rw [himp, if_neg (by simp), Htx.out, HNMv.out]
                        subst hXv
                        clear himp HXv
                        clear cL hlt2 HMk
                        rw [hq2]
                        generalize hlx : lowS (txA ts q1) = lx at *
                        generalize htq : txA ts q1 = tq at *
                        have hlt5 := B5.lt
                        have HT5 := Lib.hid hT5; have HB5 := Lib.hid B5; have HR5 := Lib.hid R5; have HW5 := Lib.hid hbw5
                        clear hlx htq hT5 B5 R5 hbw5
                        go_wp2_with (first | (go_at_call 37; ((with_reducible refine (hL5 _).mono ?_)); rintro e w6 ⟨rfl, hb6⟩; have B6 := HB5.out.later hb6 (by omega); have R6 := HR5.out.later hb6 (by omega); have hT6 := HT5.out.later hb6 (by omega); have hbw6 := HW5.out.trans (hb6.mono HW5.out.size); have e0 := B6.cell 0 _ rfl; have e1 := B6.cell 1 _ rfl; have e2 := B6.cell 2 _ rfl; have e3 := B6.cell 3 _ rfl; have g0 := B6.frozen 0; have g1 := B6.frozen 1; have g2 := B6.frozen 2; have g3 := B6.frozen 3; have r0 := R6.cell 0 _ rfl; have r1 := R6.cell 1 _ rfl; have r2 := R6.cell 2 _ rfl; have r3 := R6.cell 3 _ rfl; have z0 := R6.frozen 0; have z1 := R6.frozen 1; have z2 := R6.frozen 2; have z3 := R6.frozen 3; have ck2 := hT6.kd q2 (by omega)))
                        refine bodyPost_ret (v := .tuple #[.agg #[.string tx, .int .i64 a1, .int .i64 ((q1 : Int) + 1), .bool false], .bool true]) (by simp [results, Try.results31, go_sem, r0, r1, r2, r3]) rfl ⟨rfl, ?_⟩
                        exact (((hbw6.setCell (p := ⟨w.heap.size, 0, none⟩) (Nat.le_refl _) _).setCell (p := ⟨w.heap.size, 1, none⟩) (Nat.le_refl _) _).setCell (p := ⟨w.heap.size, 2, none⟩) (Nat.le_refl _) _).setCell (p := ⟨w.heap.size, 3, none⟩) (Nat.le_refl _) _
                    · have himp : impB ts a1 (q1 + 1) = false := by unfold impB; rw [HMk.out, decide_eq_false hab2]; simp
                      have hab3 : ¬ (a2 : Int) < (b2 : Int) := by omega
                      have hXv : X = ⟨tx, a1, q1 + 1, false⟩ := by rw [HXv.out]; unfold declF declAt; rw [HCol.out, HT1v.out]; dsimp only; rw [himp, if_neg (by simp), Htx.out, HNMv.out]
                      subst hXv
                      clear himp HXv
                      clear cL hlt2 HMk
                      generalize hlx : lowS (txA ts q1) = lx at *
                      generalize htq : txA ts q1 = tq at *
                      have hlt5 := B5.lt
                      have HT5 := Lib.hid hT5; have HB5 := Lib.hid B5; have HR5 := Lib.hid R5; have HW5 := Lib.hid hbw5
                      clear hlx htq hT5 B5 R5 hbw5
                      go_wp2_with (first | (go_at_call 37; ((with_reducible refine (hL5 _).mono ?_)); rintro e w6 ⟨rfl, hb6⟩; have B6 := HB5.out.later hb6 (by omega); have R6 := HR5.out.later hb6 (by omega); have hT6 := HT5.out.later hb6 (by omega); have hbw6 := HW5.out.trans (hb6.mono HW5.out.size); have e0 := B6.cell 0 _ rfl; have e1 := B6.cell 1 _ rfl; have e2 := B6.cell 2 _ rfl; have e3 := B6.cell 3 _ rfl; have g0 := B6.frozen 0; have g1 := B6.frozen 1; have g2 := B6.frozen 2; have g3 := B6.frozen 3; have r0 := R6.cell 0 _ rfl; have r1 := R6.cell 1 _ rfl; have r2 := R6.cell 2 _ rfl; have r3 := R6.cell 3 _ rfl; have z0 := R6.frozen 0; have z1 := R6.frozen 1; have z2 := R6.frozen 2; have z3 := R6.frozen 3))
                      refine bodyPost_ret (v := .tuple #[.agg #[.string tx, .int .i64 a1, .int .i64 ((q1 : Int) + 1), .bool false], .bool true]) (by simp [results, Try.results31, go_sem, r0, r1, r2, r3]) rfl ⟨rfl, ?_⟩
                      exact (((hbw6.setCell (p := ⟨w.heap.size, 0, none⟩) (Nat.le_refl _) _).setCell (p := ⟨w.heap.size, 1, none⟩) (Nat.le_refl _) _).setCell (p := ⟨w.heap.size, 2, none⟩) (Nat.le_refl _) _).setCell (p := ⟨w.heap.size, 3, none⟩) (Nat.le_refl _) _
                  | false =>
                    have himp : impB ts a1 (q1 + 1) = false := by unfold impB; rw [show q1 + 1 - 1 = q1 from rfl, hii]; simp
                    have hXv : X = ⟨tx, a1, q1 + 1, false⟩ := by rw [HXv.out]; unfold declF declAt; rw [HCol.out, HT1v.out]; dsimp only; rw [himp, if_neg (by simp), Htx.out, HNMv.out]
                    subst hXv
                    clear himp HXv
                    clear cL hlt2 HMk
                    generalize hlx : lowS (txA ts q1) = lx at *
                    generalize htq : txA ts q1 = tq at *
                    have hlt5 := B5.lt
                    have HT5 := Lib.hid hT5; have HB5 := Lib.hid B5; have HR5 := Lib.hid R5; have HW5 := Lib.hid hbw5
                    clear hlx htq hT5 B5 R5 hbw5
                    go_wp2_with (first | (go_at_call 37; ((with_reducible refine (hL5 _).mono ?_)); rintro e w6 ⟨rfl, hb6⟩; have B6 := HB5.out.later hb6 (by omega); have R6 := HR5.out.later hb6 (by omega); have hT6 := HT5.out.later hb6 (by omega); have hbw6 := HW5.out.trans (hb6.mono HW5.out.size); have e0 := B6.cell 0 _ rfl; have e1 := B6.cell 1 _ rfl; have e2 := B6.cell 2 _ rfl; have e3 := B6.cell 3 _ rfl; have g0 := B6.frozen 0; have g1 := B6.frozen 1; have g2 := B6.frozen 2; have g3 := B6.frozen 3; have r0 := R6.cell 0 _ rfl; have r1 := R6.cell 1 _ rfl; have r2 := R6.cell 2 _ rfl; have r3 := R6.cell 3 _ rfl; have z0 := R6.frozen 0; have z1 := R6.frozen 1; have z2 := R6.frozen 2; have z3 := R6.frozen 3))
                    refine bodyPost_ret (v := .tuple #[.agg #[.string tx, .int .i64 a1, .int .i64 ((q1 : Int) + 1), .bool false], .bool true]) (by simp [results, Try.results31, go_sem, r0, r1, r2, r3]) rfl ⟨rfl, ?_⟩
                    exact (((hbw6.setCell (p := ⟨w.heap.size, 0, none⟩) (Nat.le_refl _) _).setCell (p := ⟨w.heap.size, 1, none⟩) (Nat.le_refl _) _).setCell (p := ⟨w.heap.size, 2, none⟩) (Nat.le_refl _) _).setCell (p := ⟨w.heap.size, 3, none⟩) (Nat.le_refl _) _
                · have himp : impB ts a1 (q1 + 1) = false := by unfold impB; rw [show q1 + 1 - 1 = q1 from rfl, decide_eq_false hk1]; simp
                  have nk1 : (kdA ts q1 == 1) = false := beq_eq_false_iff_ne.2 hk1
                  have hXv : X = ⟨tx, a1, q1 + 1, false⟩ := by rw [HXv.out]; unfold declF declAt; rw [HCol.out, HT1v.out]; dsimp only; rw [himp, if_neg (by simp), Htx.out, HNMv.out]
                  subst hXv
                  clear himp HXv
                  clear cL hlt2 HMk hk1 cx
                  generalize kdA ts q1 = qq at *
                  have r0 := R5.cell 0 _ rfl
                  have r1 := R5.cell 1 _ rfl
                  have r2 := R5.cell 2 _ rfl
                  have r3 := R5.cell 3 _ rfl
                  have z0 := R5.frozen 0
                  have z1 := R5.frozen 1
                  have z2 := R5.frozen 2
                  have z3 := R5.frozen 3
                  have HBW := Lib.hid hbw5; clear hbw5
                  go_wp2
                  refine bodyPost_ret (v := .tuple #[.agg #[.string tx, .int .i64 a1, .int .i64 ((q1 : Int) + 1), .bool false], .bool true]) (by simp [results, Try.results31, go_sem, r0, r1, r2, r3]) rfl ⟨rfl, ?_⟩
                  exact (((HBW.out.setCell (p := ⟨w.heap.size, 0, none⟩) (Nat.le_refl _) _).setCell (p := ⟨w.heap.size, 1, none⟩) (Nat.le_refl _) _).setCell (p := ⟨w.heap.size, 2, none⟩) (Nat.le_refl _) _).setCell (p := ⟨w.heap.size, 3, none⟩) (Nat.le_refl _) _
              · have himp : impB ts a1 (q1 + 1) = false := by unfold impB; rw [decide_eq_false hab]; simp
                have hab1 : ¬ (a1 : Int) < (q1 : Int) + 1 := by omega
                have hXv : X = ⟨tx, a1, q1 + 1, false⟩ := by rw [HXv.out]; unfold declF declAt; rw [HCol.out, HT1v.out]; dsimp only; rw [himp, if_neg (by simp), Htx.out, HNMv.out]
                subst hXv
                clear himp HXv
                clear cL hlt2 HMk 
                have r0 := R5.cell 0 _ rfl
                have r1 := R5.cell 1 _ rfl
                have r2 := R5.cell 2 _ rfl
                have r3 := R5.cell 3 _ rfl
                have z0 := R5.frozen 0
                have z1 := R5.frozen 1
                have z2 := R5.frozen 2
                have z3 := R5.frozen 3
                have HBW := Lib.hid hbw5; clear hbw5
                go_wp2
                refine bodyPost_ret (v := .tuple #[.agg #[.string tx, .int .i64 a1, .int .i64 ((q1 : Int) + 1), .bool false], .bool true]) (by simp [results, Try.results31, go_sem, r0, r1, r2, r3]) rfl ⟨rfl, ?_⟩
                exact (((HBW.out.setCell (p := ⟨w.heap.size, 0, none⟩) (Nat.le_refl _) _).setCell (p := ⟨w.heap.size, 1, none⟩) (Nat.le_refl _) _).setCell (p := ⟨w.heap.size, 2, none⟩) (Nat.le_refl _) _).setCell (p := ⟨w.heap.size, 3, none⟩) (Nat.le_refl _) _
            | false =>
              have hNM : propF tx = L := by rw [← HLo.out]; unfold propF dashB; rw [hda, Bool.and_false, if_neg (by simp)]
              have HNMv := Lib.hid hNM
              clear hNM
              go_wp2_with fail
              have B4 := B3; have hbw4 := hbw3; have R4 := R3; have hT4 := hT3
              clear B3 hbw3 R3 hT3 ct hda ht2 ht3 ht4
              have hE1 := hNE (S + 1) E (by omega) (by omega) (Nat.le_refl _)
              have cT1 := cT _ (S + 1) (S + 1) E E hT4 rfl (by omega) hE hE1
              rw [show ((S + 1 : Nat) : Int) = (S : Int) + 1 from by omega] at cT1
              have htb := trimF_bounds ts E (S + 1) (by omega)
              refine cT1.mono ?_
              rintro e wq ⟨rfl, hwq⟩; replace hwq := hwq.symm; subst hwq
              clear cT1 hE1
              generalize hT1v : trimF ts E (S + 1) = V1 at *
              obtain ⟨a1, b1⟩ := V1
              dsimp only at htb ⊢
              have HT1v := Lib.hid hT1v
              clear hT1v
              have c0 := B4.cell 0 _ rfl
              have c1 := B4.cell 1 _ rfl
              have c2 := B4.cell 2 _ rfl
              have c3 := B4.cell 3 _ rfl
              have f0 := B4.frozen 0
              have f1 := B4.frozen 1
              have f2 := B4.frozen 2
              have f3 := B4.frozen 3
              go_upto_region 10 with (fail)
              have B5 := (B4.setCell 1 (.int .i64 a1)).setCell 2 (.int .i64 b1)
              have hbw5 := (hbw4.setCell (p := ⟨p, 1, none⟩) (Nat.le_of_lt hpq) (.int .i64 a1)).setCell (p := ⟨p, 2, none⟩) (Nat.le_of_lt hpq) (.int .i64 b1)
              have R5 := R4.later (((Below.refl p w3).setCell (p := ⟨p, 1, none⟩) (Nat.le_refl _) (.int .i64 a1)).setCell (p := ⟨p, 2, none⟩) (Nat.le_refl _) (.int .i64 b1)) hpq
              have hT5 := (hT4.set (i := 1) (v := .int .i64 a1) hbp).set (i := 2) (v := .int .i64 b1) hbp
              generalize ((w3.setCell ⟨p, 1, none⟩ (.int .i64 a1)).setCell ⟨p, 2, none⟩ (.int .i64 b1)) = w5 at *
              clear c0 c1 c2 c3 f0 f1 f2 f3 B4 hbw4 R4 hT4
              obtain ⟨q1, rfl⟩ : ∃ q1, b1 = q1 + 1 := ⟨b1 - 1, by omega⟩
              have hte := trimF_end hNE (show j ≤ a1 by omega) htb.2.1 htb.2.2
              have cT2 := cT _ a1 a1 (q1 + 1 - 1) (endF ts (q1 + 1 - 1) a1) hT5 rfl (by omega) (by omega) rfl
              rw [hte] at cT2
              have htb2 : a1 ≤ (trimF ts (q1 + 1 - 1) a1).1 ∧ (trimF ts (q1 + 1 - 1) a1).1 ≤ (trimF ts (q1 + 1 - 1) a1).2 ∧ (trimF ts (q1 + 1 - 1) a1).2 ≤ E := by
                rw [← hte]
                have h1 := endF_ge ts (q1 + 1 - 1) a1
                have h2 := endF_le ts (q1 + 1 - 1) a1
                have h3 := trimF_bounds ts (endF ts (q1 + 1 - 1) a1) a1 h1
                omega
              have hlt2 : a1 < (trimF ts (q1 + 1 - 1) a1).2 → (trimF ts (q1 + 1 - 1) a1).1 < (trimF ts (q1 + 1 - 1) a1).2 := trimF_lt ts _ _
              have HMk : Hid (markF ts a1 (q1 + 1) = (trimF ts (q1 + 1 - 1) a1).2) := Lib.hid rfl
              rw [show q1 + 1 - 1 = q1 from rfl] at *
              generalize trimF ts q1 a1 = V2 at *
              obtain ⟨a2, b2⟩ := V2
              dsimp only at htb2 hlt2 HMk cT2
              have hq1 : ((q1 + 1 : Nat) : Int) = (q1 : Int) + 1 := by omega
              rw [hq1] at B5
              have c0 := B5.cell 0 _ rfl
              have c1 := B5.cell 1 _ rfl
              have c2 := B5.cell 2 _ rfl
              have c3 := B5.cell 3 _ rfl
              have f0 := B5.frozen 0
              have f1 := B5.frozen 1
              have f2 := B5.frozen 2
              have f3 := B5.frozen 3
              clear hte
              go_wp2_with fail
              refine cT2.mono ?_
              rintro e wq ⟨rfl, hwq⟩; replace hwq := hwq.symm; subst hwq
              clear cT2
              by_cases hab : a1 < q1 + 1
              · have hab1 : (a1 : Int) < (q1 : Int) + 1 := by omega
                have hq1n : (q1 : Int) < (n : Int) := by omega
                have ck := hT5.kd q1 (by omega)
                have cx := hT5.tx q1 (by omega)
                by_cases hk1 : kdA ts q1 = 1
                · rw [hk1] at ck
                  have hL5 := fun w' => cL w' q1
                  cases hii : ((lowS (txA ts q1)).toList == [105, 109, 112, 111, 114, 116, 97, 110, 116]) with
                  | true =>
                    by_cases hab2 : a1 < b2
                    · obtain ⟨q2, rfl⟩ : ∃ q2, b2 = q2 + 1 := ⟨b2 - 1, by omega⟩
                      have hq2 : ((q2 + 1 : Nat) : Int) = (q2 : Int) + 1 := by omega
                      have hab3 : (a2 : Int) < (q2 : Int) + 1 := by have := hlt2 hab2; omega
                      have hq2n : (q2 : Int) < (n : Int) := by omega
                      by_cases hk9 : kdA ts q2 = 9
                      · cases hx33 : ((txA ts q2).toList == [33]) with
                        | true =>
                          have himp : impB ts a1 (q1 + 1) = true := by unfold impB; rw [HMk.out, show q2 + 1 - 1 = q2 from rfl, show q1 + 1 - 1 = q1 from rfl, hx33, hii, decide_eq_true hab, decide_eq_true hk1, decide_eq_true hab2, decide_eq_true hk9]; rfl
                          have hXv : X = ⟨L, (trimF ts q2 a1).1, (trimF ts q2 a1).2, true⟩ := by rw [HXv.out]; unfold declF declAt; rw [HCol.out, HT1v.out]; dsimp only; rw [himp, if_pos rfl, HMk.out, Htx.out, HNMv.out]; rfl
                          subst hXv
                          clear himp HXv
                          have hE3 := hNE a1 q2 (by omega) (by omega) (by omega)
                          have cT3 := fun w' h => cT w' a1 a1 q2 q2 h rfl (by omega) (by omega) hE3
                          generalize trimF ts q2 a1 = V3 at *
                          obtain ⟨a3, b3⟩ := V3
                          dsimp only at cT3
                          have HC3 := Lib.hid cT3
                          clear hE3 cT3 cL hlt2 HMk
                          rw [hq2]
                          generalize hlx : lowS (txA ts q1) = lx at *
                          generalize htq : txA ts q1 = tq at *
                          have hlt5 := B5.lt
                          have HT5 := Lib.hid hT5; have HB5 := Lib.hid B5; have HR5 := Lib.hid R5; have HW5 := Lib.hid hbw5
                          clear hlx htq hT5 B5 R5 hbw5
                          go_wp2_with (first | (go_at_call 37; ((with_reducible refine (hL5 _).mono ?_)); rintro e w6 ⟨rfl, hb6⟩; have B6 := HB5.out.later hb6 (by omega); have R6 := HR5.out.later hb6 (by omega); have hT6 := HT5.out.later hb6 (by omega); have hbw6 := HW5.out.trans (hb6.mono HW5.out.size); have e0 := B6.cell 0 _ rfl; have e1 := B6.cell 1 _ rfl; have e2 := B6.cell 2 _ rfl; have e3 := B6.cell 3 _ rfl; have g0 := B6.frozen 0; have g1 := B6.frozen 1; have g2 := B6.frozen 2; have g3 := B6.frozen 3; have r0 := R6.cell 0 _ rfl; have r1 := R6.cell 1 _ rfl; have r2 := R6.cell 2 _ rfl; have r3 := R6.cell 3 _ rfl; have z0 := R6.frozen 0; have z1 := R6.frozen 1; have z2 := R6.frozen 2; have z3 := R6.frozen 3; have ck2 := hT6.kd q2 (by omega); have cx2 := hT6.tx q2 (by omega); rw [hk9] at ck2))
                          have B7 := B6.setCell 3 (.bool true)
                          have hbw7 := hbw6.setCell (p := ⟨p, 3, none⟩) (Nat.le_of_lt hpq) (.bool true)
                          have R7 := R6.later ((Below.refl p w6).setCell (p := ⟨p, 3, none⟩) (Nat.le_refl _) (.bool true)) hpq
                          have hT7 := hT6.set (i := 3) (v := .bool true) hbp
                          generalize w6.setCell ⟨p, 3, none⟩ (.bool true) = w7 at *
                          clear e0 e1 e2 e3 g0 g1 g2 g3 r0 r1 r2 r3 z0 z1 z2 z3 ck2 cx2 B6 hbw6 R6 hT6
                          refine (HC3.out _ hT7).mono ?_
                          rintro e wq ⟨rfl, hwq⟩; replace hwq := hwq.symm; subst hwq
                          have c0 := B7.cell 0 _ rfl
                          have c1 := B7.cell 1 _ rfl
                          have c2 := B7.cell 2 _ rfl
                          have c3 := B7.cell 3 _ rfl
                          have f0 := B7.frozen 0
                          have f1 := B7.frozen 1
                          have f2 := B7.frozen 2
                          have f3 := B7.frozen 3
                          go_upto_region 14 with (fail)
                          have B8 := (B7.setCell 1 (.int .i64 a3)).setCell 2 (.int .i64 b3)
                          have hbw8 := (hbw7.setCell (p := ⟨p, 1, none⟩) (Nat.le_of_lt hpq) (.int .i64 a3)).setCell (p := ⟨p, 2, none⟩) (Nat.le_of_lt hpq) (.int .i64 b3)
                          have R8 := R7.later (((Below.refl p w7).setCell (p := ⟨p, 1, none⟩) (Nat.le_refl _) (.int .i64 a3)).setCell (p := ⟨p, 2, none⟩) (Nat.le_refl _) (.int .i64 b3)) hpq
                          generalize ((w7.setCell ⟨p, 1, none⟩ (.int .i64 a3)).setCell ⟨p, 2, none⟩ (.int .i64 b3)) = w8 at *
                          clear c0 c1 c2 c3 f0 f1 f2 f3 B7 hbw7 R7 hT7
                          have c0 := B8.cell 0 _ rfl
                          have c1 := B8.cell 1 _ rfl
                          have c2 := B8.cell 2 _ rfl
                          have c3 := B8.cell 3 _ rfl
                          have f0 := B8.frozen 0
                          have f1 := B8.frozen 1
                          have f2 := B8.frozen 2
                          have f3 := B8.frozen 3
                          have r0 := R8.cell 0 _ rfl
                          have r1 := R8.cell 1 _ rfl
                          have r2 := R8.cell 2 _ rfl
                          have r3 := R8.cell 3 _ rfl
                          have z0 := R8.frozen 0
                          have z1 := R8.frozen 1
                          have z2 := R8.frozen 2
                          have z3 := R8.frozen 3
                          have HBW := Lib.hid hbw8; clear hbw8
                          go_wp2
                          refine bodyPost_ret (v := .tuple #[.agg #[.string L, .int .i64 a3, .int .i64 b3, .bool true], .bool true]) (by simp [results, Try.results31, go_sem, r0, r1, r2, r3]) rfl ⟨rfl, ?_⟩
                          exact (((HBW.out.setCell (p := ⟨w.heap.size, 0, none⟩) (Nat.le_refl _) _).setCell (p := ⟨w.heap.size, 1, none⟩) (Nat.le_refl _) _).setCell (p := ⟨w.heap.size, 2, none⟩) (Nat.le_refl _) _).setCell (p := ⟨w.heap.size, 3, none⟩) (Nat.le_refl _) _
                        | false =>
                          have himp : impB ts a1 (q1 + 1) = false := by unfold impB; rw [HMk.out, show q2 + 1 - 1 = q2 from rfl, hx33]; simp
                          have hXv : X = ⟨L, a1, q1 + 1, false⟩ := by rw [HXv.out]; unfold declF declAt; rw [HCol.out, HT1v.out]; dsimp only; rw [himp, if_neg (by simp), Htx.out, HNMv.out]
                          subst hXv
                          clear himp HXv
                          clear cL hlt2 HMk
                          rw [hq2]
                          generalize hlx : lowS (txA ts q1) = lx at *
                          generalize htq : txA ts q1 = tq at *
                          have hlt5 := B5.lt
                          have HT5 := Lib.hid hT5; have HB5 := Lib.hid B5; have HR5 := Lib.hid R5; have HW5 := Lib.hid hbw5
                          clear hlx htq hT5 B5 R5 hbw5
                          go_wp2_with (first | (go_at_call 37; ((with_reducible refine (hL5 _).mono ?_)); rintro e w6 ⟨rfl, hb6⟩; have B6 := HB5.out.later hb6 (by omega); have R6 := HR5.out.later hb6 (by omega); have hT6 := HT5.out.later hb6 (by omega); have hbw6 := HW5.out.trans (hb6.mono HW5.out.size); have e0 := B6.cell 0 _ rfl; have e1 := B6.cell 1 _ rfl; have e2 := B6.cell 2 _ rfl; have e3 := B6.cell 3 _ rfl; have g0 := B6.frozen 0; have g1 := B6.frozen 1; have g2 := B6.frozen 2; have g3 := B6.frozen 3; have r0 := R6.cell 0 _ rfl; have r1 := R6.cell 1 _ rfl; have r2 := R6.cell 2 _ rfl; have r3 := R6.cell 3 _ rfl; have z0 := R6.frozen 0; have z1 := R6.frozen 1; have z2 := R6.frozen 2; have z3 := R6.frozen 3; have ck2 := hT6.kd q2 (by omega); have cx2 := hT6.tx q2 (by omega); rw [hk9] at ck2))
                          refine bodyPost_ret (v := .tuple #[.agg #[.string L, .int .i64 a1, .int .i64 ((q1 : Int) + 1), .bool false], .bool true]) (by simp [results, Try.results31, go_sem, r0, r1, r2, r3]) rfl ⟨rfl, ?_⟩
                          exact (((hbw6.setCell (p := ⟨w.heap.size, 0, none⟩) (Nat.le_refl _) _).setCell (p := ⟨w.heap.size, 1, none⟩) (Nat.le_refl _) _).setCell (p := ⟨w.heap.size, 2, none⟩) (Nat.le_refl _) _).setCell (p := ⟨w.heap.size, 3, none⟩) (Nat.le_refl _) _
                      · have himp : impB ts a1 (q1 + 1) = false := by unfold impB; rw [HMk.out, show q2 + 1 - 1 = q2 from rfl, decide_eq_false hk9]; simp
                        have nk9 : (kdA ts q2 == 9) = false := beq_eq_false_iff_ne.2 hk9
                        have hXv : X = ⟨L, a1, q1 + 1, false⟩ := by rw [HXv.out]; unfold declF declAt; rw [HCol.out, HT1v.out]; dsimp only; rw [himp, if_neg (by simp), Htx.out, HNMv.out]
                        subst hXv
                        clear himp HXv
                        clear cL hlt2 HMk
                        rw [hq2]
                        generalize hlx : lowS (txA ts q1) = lx at *
                        generalize htq : txA ts q1 = tq at *
                        have hlt5 := B5.lt
                        have HT5 := Lib.hid hT5; have HB5 := Lib.hid B5; have HR5 := Lib.hid R5; have HW5 := Lib.hid hbw5
                        clear hlx htq hT5 B5 R5 hbw5
                        go_wp2_with (first | (go_at_call 37; ((with_reducible refine (hL5 _).mono ?_)); rintro e w6 ⟨rfl, hb6⟩; have B6 := HB5.out.later hb6 (by omega); have R6 := HR5.out.later hb6 (by omega); have hT6 := HT5.out.later hb6 (by omega); have hbw6 := HW5.out.trans (hb6.mono HW5.out.size); have e0 := B6.cell 0 _ rfl; have e1 := B6.cell 1 _ rfl; have e2 := B6.cell 2 _ rfl; have e3 := B6.cell 3 _ rfl; have g0 := B6.frozen 0; have g1 := B6.frozen 1; have g2 := B6.frozen 2; have g3 := B6.frozen 3; have r0 := R6.cell 0 _ rfl; have r1 := R6.cell 1 _ rfl; have r2 := R6.cell 2 _ rfl; have r3 := R6.cell 3 _ rfl; have z0 := R6.frozen 0; have z1 := R6.frozen 1; have z2 := R6.frozen 2; have z3 := R6.frozen 3; have ck2 := hT6.kd q2 (by omega)))
                        refine bodyPost_ret (v := .tuple #[.agg #[.string L, .int .i64 a1, .int .i64 ((q1 : Int) + 1), .bool false], .bool true]) (by simp [results, Try.results31, go_sem, r0, r1, r2, r3]) rfl ⟨rfl, ?_⟩
                        exact (((hbw6.setCell (p := ⟨w.heap.size, 0, none⟩) (Nat.le_refl _) _).setCell (p := ⟨w.heap.size, 1, none⟩) (Nat.le_refl _) _).setCell (p := ⟨w.heap.size, 2, none⟩) (Nat.le_refl _) _).setCell (p := ⟨w.heap.size, 3, none⟩) (Nat.le_refl _) _
                    · have himp : impB ts a1 (q1 + 1) = false := by unfold impB; rw [HMk.out, decide_eq_false hab2]; simp
                      have hab3 : ¬ (a2 : Int) < (b2 : Int) := by omega
                      have hXv : X = ⟨L, a1, q1 + 1, false⟩ := by rw [HXv.out]; unfold declF declAt; rw [HCol.out, HT1v.out]; dsimp only; rw [himp, if_neg (by simp), Htx.out, HNMv.out]
                      subst hXv
                      clear himp HXv
                      clear cL hlt2 HMk
                      generalize hlx : lowS (txA ts q1) = lx at *
                      generalize htq : txA ts q1 = tq at *
                      have hlt5 := B5.lt
                      have HT5 := Lib.hid hT5; have HB5 := Lib.hid B5; have HR5 := Lib.hid R5; have HW5 := Lib.hid hbw5
                      clear hlx htq hT5 B5 R5 hbw5
                      go_wp2_with (first | (go_at_call 37; ((with_reducible refine (hL5 _).mono ?_)); rintro e w6 ⟨rfl, hb6⟩; have B6 := HB5.out.later hb6 (by omega); have R6 := HR5.out.later hb6 (by omega); have hT6 := HT5.out.later hb6 (by omega); have hbw6 := HW5.out.trans (hb6.mono HW5.out.size); have e0 := B6.cell 0 _ rfl; have e1 := B6.cell 1 _ rfl; have e2 := B6.cell 2 _ rfl; have e3 := B6.cell 3 _ rfl; have g0 := B6.frozen 0; have g1 := B6.frozen 1; have g2 := B6.frozen 2; have g3 := B6.frozen 3; have r0 := R6.cell 0 _ rfl; have r1 := R6.cell 1 _ rfl; have r2 := R6.cell 2 _ rfl; have r3 := R6.cell 3 _ rfl; have z0 := R6.frozen 0; have z1 := R6.frozen 1; have z2 := R6.frozen 2; have z3 := R6.frozen 3))
                      refine bodyPost_ret (v := .tuple #[.agg #[.string L, .int .i64 a1, .int .i64 ((q1 : Int) + 1), .bool false], .bool true]) (by simp [results, Try.results31, go_sem, r0, r1, r2, r3]) rfl ⟨rfl, ?_⟩
                      exact (((hbw6.setCell (p := ⟨w.heap.size, 0, none⟩) (Nat.le_refl _) _).setCell (p := ⟨w.heap.size, 1, none⟩) (Nat.le_refl _) _).setCell (p := ⟨w.heap.size, 2, none⟩) (Nat.le_refl _) _).setCell (p := ⟨w.heap.size, 3, none⟩) (Nat.le_refl _) _
                  | false =>
                    have himp : impB ts a1 (q1 + 1) = false := by unfold impB; rw [show q1 + 1 - 1 = q1 from rfl, hii]; simp
                    have hXv : X = ⟨L, a1, q1 + 1, false⟩ := by rw [HXv.out]; unfold declF declAt; rw [HCol.out, HT1v.out]; dsimp only; rw [himp, if_neg (by simp), Htx.out, HNMv.out]
                    subst hXv
                    clear himp HXv
                    clear cL hlt2 HMk
                    generalize hlx : lowS (txA ts q1) = lx at *
                    generalize htq : txA ts q1 = tq at *
                    have hlt5 := B5.lt
                    have HT5 := Lib.hid hT5; have HB5 := Lib.hid B5; have HR5 := Lib.hid R5; have HW5 := Lib.hid hbw5
                    clear hlx htq hT5 B5 R5 hbw5
                    go_wp2_with (first | (go_at_call 37; ((with_reducible refine (hL5 _).mono ?_)); rintro e w6 ⟨rfl, hb6⟩; have B6 := HB5.out.later hb6 (by omega); have R6 := HR5.out.later hb6 (by omega); have hT6 := HT5.out.later hb6 (by omega); have hbw6 := HW5.out.trans (hb6.mono HW5.out.size); have e0 := B6.cell 0 _ rfl; have e1 := B6.cell 1 _ rfl; have e2 := B6.cell 2 _ rfl; have e3 := B6.cell 3 _ rfl; have g0 := B6.frozen 0; have g1 := B6.frozen 1; have g2 := B6.frozen 2; have g3 := B6.frozen 3; have r0 := R6.cell 0 _ rfl; have r1 := R6.cell 1 _ rfl; have r2 := R6.cell 2 _ rfl; have r3 := R6.cell 3 _ rfl; have z0 := R6.frozen 0; have z1 := R6.frozen 1; have z2 := R6.frozen 2; have z3 := R6.frozen 3))
                    refine bodyPost_ret (v := .tuple #[.agg #[.string L, .int .i64 a1, .int .i64 ((q1 : Int) + 1), .bool false], .bool true]) (by simp [results, Try.results31, go_sem, r0, r1, r2, r3]) rfl ⟨rfl, ?_⟩
                    exact (((hbw6.setCell (p := ⟨w.heap.size, 0, none⟩) (Nat.le_refl _) _).setCell (p := ⟨w.heap.size, 1, none⟩) (Nat.le_refl _) _).setCell (p := ⟨w.heap.size, 2, none⟩) (Nat.le_refl _) _).setCell (p := ⟨w.heap.size, 3, none⟩) (Nat.le_refl _) _
                · have himp : impB ts a1 (q1 + 1) = false := by unfold impB; rw [show q1 + 1 - 1 = q1 from rfl, decide_eq_false hk1]; simp
                  have nk1 : (kdA ts q1 == 1) = false := beq_eq_false_iff_ne.2 hk1
                  have hXv : X = ⟨L, a1, q1 + 1, false⟩ := by rw [HXv.out]; unfold declF declAt; rw [HCol.out, HT1v.out]; dsimp only; rw [himp, if_neg (by simp), Htx.out, HNMv.out]
                  subst hXv
                  clear himp HXv
                  clear cL hlt2 HMk hk1 cx
                  generalize kdA ts q1 = qq at *
                  have r0 := R5.cell 0 _ rfl
                  have r1 := R5.cell 1 _ rfl
                  have r2 := R5.cell 2 _ rfl
                  have r3 := R5.cell 3 _ rfl
                  have z0 := R5.frozen 0
                  have z1 := R5.frozen 1
                  have z2 := R5.frozen 2
                  have z3 := R5.frozen 3
                  have HBW := Lib.hid hbw5; clear hbw5
                  go_wp2
                  refine bodyPost_ret (v := .tuple #[.agg #[.string L, .int .i64 a1, .int .i64 ((q1 : Int) + 1), .bool false], .bool true]) (by simp [results, Try.results31, go_sem, r0, r1, r2, r3]) rfl ⟨rfl, ?_⟩
                  exact (((HBW.out.setCell (p := ⟨w.heap.size, 0, none⟩) (Nat.le_refl _) _).setCell (p := ⟨w.heap.size, 1, none⟩) (Nat.le_refl _) _).setCell (p := ⟨w.heap.size, 2, none⟩) (Nat.le_refl _) _).setCell (p := ⟨w.heap.size, 3, none⟩) (Nat.le_refl _) _
              · have himp : impB ts a1 (q1 + 1) = false := by unfold impB; rw [decide_eq_false hab]; simp
                have hab1 : ¬ (a1 : Int) < (q1 : Int) + 1 := by omega
                have hXv : X = ⟨L, a1, q1 + 1, false⟩ := by rw [HXv.out]; unfold declF declAt; rw [HCol.out, HT1v.out]; dsimp only; rw [himp, if_neg (by simp), Htx.out, HNMv.out]
                subst hXv
                clear himp HXv
                clear cL hlt2 HMk 
                have r0 := R5.cell 0 _ rfl
                have r1 := R5.cell 1 _ rfl
                have r2 := R5.cell 2 _ rfl
                have r3 := R5.cell 3 _ rfl
                have z0 := R5.frozen 0
                have z1 := R5.frozen 1
                have z2 := R5.frozen 2
                have z3 := R5.frozen 3
                have HBW := Lib.hid hbw5; clear hbw5
                go_wp2
                refine bodyPost_ret (v := .tuple #[.agg #[.string L, .int .i64 a1, .int .i64 ((q1 : Int) + 1), .bool false], .bool true]) (by simp [results, Try.results31, go_sem, r0, r1, r2, r3]) rfl ⟨rfl, ?_⟩
                exact (((HBW.out.setCell (p := ⟨w.heap.size, 0, none⟩) (Nat.le_refl _) _).setCell (p := ⟨w.heap.size, 1, none⟩) (Nat.le_refl _) _).setCell (p := ⟨w.heap.size, 2, none⟩) (Nat.le_refl _) _).setCell (p := ⟨w.heap.size, 3, none⟩) (Nat.le_refl _) _
          · have ht3 : ¬ (1 : Int) < (tx.size : Int) := by omega
            have hNM : propF tx = L := by rw [← HLo.out]; unfold propF dashB; rw [decide_eq_false ht2, Bool.false_and, if_neg (by simp)]
            have HNMv := Lib.hid hNM
            clear hNM
            go_wp2_with fail
            have B4 := B3; have hbw4 := hbw3; have R4 := R3; have hT4 := hT3
            clear B3 hbw3 R3 hT3 ct ht2 ht3
            have hE1 := hNE (S + 1) E (by omega) (by omega) (Nat.le_refl _)
            have cT1 := cT _ (S + 1) (S + 1) E E hT4 rfl (by omega) hE hE1
            rw [show ((S + 1 : Nat) : Int) = (S : Int) + 1 from by omega] at cT1
            have htb := trimF_bounds ts E (S + 1) (by omega)
            refine cT1.mono ?_
            rintro e wq ⟨rfl, hwq⟩; replace hwq := hwq.symm; subst hwq
            clear cT1 hE1
            generalize hT1v : trimF ts E (S + 1) = V1 at *
            obtain ⟨a1, b1⟩ := V1
            dsimp only at htb ⊢
            have HT1v := Lib.hid hT1v
            clear hT1v
            have c0 := B4.cell 0 _ rfl
            have c1 := B4.cell 1 _ rfl
            have c2 := B4.cell 2 _ rfl
            have c3 := B4.cell 3 _ rfl
            have f0 := B4.frozen 0
            have f1 := B4.frozen 1
            have f2 := B4.frozen 2
            have f3 := B4.frozen 3
            go_upto_region 10 with (fail)
            have B5 := (B4.setCell 1 (.int .i64 a1)).setCell 2 (.int .i64 b1)
            have hbw5 := (hbw4.setCell (p := ⟨p, 1, none⟩) (Nat.le_of_lt hpq) (.int .i64 a1)).setCell (p := ⟨p, 2, none⟩) (Nat.le_of_lt hpq) (.int .i64 b1)
            have R5 := R4.later (((Below.refl p w3).setCell (p := ⟨p, 1, none⟩) (Nat.le_refl _) (.int .i64 a1)).setCell (p := ⟨p, 2, none⟩) (Nat.le_refl _) (.int .i64 b1)) hpq
            have hT5 := (hT4.set (i := 1) (v := .int .i64 a1) hbp).set (i := 2) (v := .int .i64 b1) hbp
            generalize ((w3.setCell ⟨p, 1, none⟩ (.int .i64 a1)).setCell ⟨p, 2, none⟩ (.int .i64 b1)) = w5 at *
            clear c0 c1 c2 c3 f0 f1 f2 f3 B4 hbw4 R4 hT4
            obtain ⟨q1, rfl⟩ : ∃ q1, b1 = q1 + 1 := ⟨b1 - 1, by omega⟩
            have hte := trimF_end hNE (show j ≤ a1 by omega) htb.2.1 htb.2.2
            have cT2 := cT _ a1 a1 (q1 + 1 - 1) (endF ts (q1 + 1 - 1) a1) hT5 rfl (by omega) (by omega) rfl
            rw [hte] at cT2
            have htb2 : a1 ≤ (trimF ts (q1 + 1 - 1) a1).1 ∧ (trimF ts (q1 + 1 - 1) a1).1 ≤ (trimF ts (q1 + 1 - 1) a1).2 ∧ (trimF ts (q1 + 1 - 1) a1).2 ≤ E := by
              rw [← hte]
              have h1 := endF_ge ts (q1 + 1 - 1) a1
              have h2 := endF_le ts (q1 + 1 - 1) a1
              have h3 := trimF_bounds ts (endF ts (q1 + 1 - 1) a1) a1 h1
              omega
            have hlt2 : a1 < (trimF ts (q1 + 1 - 1) a1).2 → (trimF ts (q1 + 1 - 1) a1).1 < (trimF ts (q1 + 1 - 1) a1).2 := trimF_lt ts _ _
            have HMk : Hid (markF ts a1 (q1 + 1) = (trimF ts (q1 + 1 - 1) a1).2) := Lib.hid rfl
            rw [show q1 + 1 - 1 = q1 from rfl] at *
            generalize trimF ts q1 a1 = V2 at *
            obtain ⟨a2, b2⟩ := V2
            dsimp only at htb2 hlt2 HMk cT2
            have hq1 : ((q1 + 1 : Nat) : Int) = (q1 : Int) + 1 := by omega
            rw [hq1] at B5
            have c0 := B5.cell 0 _ rfl
            have c1 := B5.cell 1 _ rfl
            have c2 := B5.cell 2 _ rfl
            have c3 := B5.cell 3 _ rfl
            have f0 := B5.frozen 0
            have f1 := B5.frozen 1
            have f2 := B5.frozen 2
            have f3 := B5.frozen 3
            clear hte
            go_wp2_with fail
            refine cT2.mono ?_
            rintro e wq ⟨rfl, hwq⟩; replace hwq := hwq.symm; subst hwq
            clear cT2
            by_cases hab : a1 < q1 + 1
            · have hab1 : (a1 : Int) < (q1 : Int) + 1 := by omega
              have hq1n : (q1 : Int) < (n : Int) := by omega
              have ck := hT5.kd q1 (by omega)
              have cx := hT5.tx q1 (by omega)
              by_cases hk1 : kdA ts q1 = 1
              · rw [hk1] at ck
                have hL5 := fun w' => cL w' q1
                cases hii : ((lowS (txA ts q1)).toList == [105, 109, 112, 111, 114, 116, 97, 110, 116]) with
                | true =>
                  by_cases hab2 : a1 < b2
                  · obtain ⟨q2, rfl⟩ : ∃ q2, b2 = q2 + 1 := ⟨b2 - 1, by omega⟩
                    have hq2 : ((q2 + 1 : Nat) : Int) = (q2 : Int) + 1 := by omega
                    have hab3 : (a2 : Int) < (q2 : Int) + 1 := by have := hlt2 hab2; omega
                    have hq2n : (q2 : Int) < (n : Int) := by omega
                    by_cases hk9 : kdA ts q2 = 9
                    · cases hx33 : ((txA ts q2).toList == [33]) with
                      | true =>
                        have himp : impB ts a1 (q1 + 1) = true := by unfold impB; rw [HMk.out, show q2 + 1 - 1 = q2 from rfl, show q1 + 1 - 1 = q1 from rfl, hx33, hii, decide_eq_true hab, decide_eq_true hk1, decide_eq_true hab2, decide_eq_true hk9]; rfl
                        have hXv : X = ⟨L, (trimF ts q2 a1).1, (trimF ts q2 a1).2, true⟩ := by rw [HXv.out]; unfold declF declAt; rw [HCol.out, HT1v.out]; dsimp only; rw [himp, if_pos rfl, HMk.out, Htx.out, HNMv.out]; rfl
                        subst hXv
                        clear himp HXv
                        have hE3 := hNE a1 q2 (by omega) (by omega) (by omega)
                        have cT3 := fun w' h => cT w' a1 a1 q2 q2 h rfl (by omega) (by omega) hE3
                        generalize trimF ts q2 a1 = V3 at *
                        obtain ⟨a3, b3⟩ := V3
                        dsimp only at cT3
                        have HC3 := Lib.hid cT3
                        clear hE3 cT3 cL hlt2 HMk
                        rw [hq2]
                        generalize hlx : lowS (txA ts q1) = lx at *
                        generalize htq : txA ts q1 = tq at *
                        have hlt5 := B5.lt
                        have HT5 := Lib.hid hT5; have HB5 := Lib.hid B5; have HR5 := Lib.hid R5; have HW5 := Lib.hid hbw5
                        clear hlx htq hT5 B5 R5 hbw5
                        go_wp2_with (first | (go_at_call 37; ((with_reducible refine (hL5 _).mono ?_)); rintro e w6 ⟨rfl, hb6⟩; have B6 := HB5.out.later hb6 (by omega); have R6 := HR5.out.later hb6 (by omega); have hT6 := HT5.out.later hb6 (by omega); have hbw6 := HW5.out.trans (hb6.mono HW5.out.size); have e0 := B6.cell 0 _ rfl; have e1 := B6.cell 1 _ rfl; have e2 := B6.cell 2 _ rfl; have e3 := B6.cell 3 _ rfl; have g0 := B6.frozen 0; have g1 := B6.frozen 1; have g2 := B6.frozen 2; have g3 := B6.frozen 3; have r0 := R6.cell 0 _ rfl; have r1 := R6.cell 1 _ rfl; have r2 := R6.cell 2 _ rfl; have r3 := R6.cell 3 _ rfl; have z0 := R6.frozen 0; have z1 := R6.frozen 1; have z2 := R6.frozen 2; have z3 := R6.frozen 3; have ck2 := hT6.kd q2 (by omega); have cx2 := hT6.tx q2 (by omega); rw [hk9] at ck2))
                        have B7 := B6.setCell 3 (.bool true)
                        have hbw7 := hbw6.setCell (p := ⟨p, 3, none⟩) (Nat.le_of_lt hpq) (.bool true)
                        have R7 := R6.later ((Below.refl p w6).setCell (p := ⟨p, 3, none⟩) (Nat.le_refl _) (.bool true)) hpq
                        have hT7 := hT6.set (i := 3) (v := .bool true) hbp
                        generalize w6.setCell ⟨p, 3, none⟩ (.bool true) = w7 at *
                        clear e0 e1 e2 e3 g0 g1 g2 g3 r0 r1 r2 r3 z0 z1 z2 z3 ck2 cx2 B6 hbw6 R6 hT6
                        refine (HC3.out _ hT7).mono ?_
                        rintro e wq ⟨rfl, hwq⟩; replace hwq := hwq.symm; subst hwq
                        have c0 := B7.cell 0 _ rfl
                        have c1 := B7.cell 1 _ rfl
                        have c2 := B7.cell 2 _ rfl
                        have c3 := B7.cell 3 _ rfl
                        have f0 := B7.frozen 0
                        have f1 := B7.frozen 1
                        have f2 := B7.frozen 2
                        have f3 := B7.frozen 3
                        go_upto_region 14 with (fail)
                        have B8 := (B7.setCell 1 (.int .i64 a3)).setCell 2 (.int .i64 b3)
                        have hbw8 := (hbw7.setCell (p := ⟨p, 1, none⟩) (Nat.le_of_lt hpq) (.int .i64 a3)).setCell (p := ⟨p, 2, none⟩) (Nat.le_of_lt hpq) (.int .i64 b3)
                        have R8 := R7.later (((Below.refl p w7).setCell (p := ⟨p, 1, none⟩) (Nat.le_refl _) (.int .i64 a3)).setCell (p := ⟨p, 2, none⟩) (Nat.le_refl _) (.int .i64 b3)) hpq
                        generalize ((w7.setCell ⟨p, 1, none⟩ (.int .i64 a3)).setCell ⟨p, 2, none⟩ (.int .i64 b3)) = w8 at *
                        clear c0 c1 c2 c3 f0 f1 f2 f3 B7 hbw7 R7 hT7
                        have c0 := B8.cell 0 _ rfl
                        have c1 := B8.cell 1 _ rfl
                        have c2 := B8.cell 2 _ rfl
                        have c3 := B8.cell 3 _ rfl
                        have f0 := B8.frozen 0
                        have f1 := B8.frozen 1
                        have f2 := B8.frozen 2
                        have f3 := B8.frozen 3
                        have r0 := R8.cell 0 _ rfl
                        have r1 := R8.cell 1 _ rfl
                        have r2 := R8.cell 2 _ rfl
                        have r3 := R8.cell 3 _ rfl
                        have z0 := R8.frozen 0
                        have z1 := R8.frozen 1
                        have z2 := R8.frozen 2
                        have z3 := R8.frozen 3
                        have HBW := Lib.hid hbw8; clear hbw8
                        go_wp2
                        refine bodyPost_ret (v := .tuple #[.agg #[.string L, .int .i64 a3, .int .i64 b3, .bool true], .bool true]) (by simp [results, Try.results31, go_sem, r0, r1, r2, r3]) rfl ⟨rfl, ?_⟩
                        exact (((HBW.out.setCell (p := ⟨w.heap.size, 0, none⟩) (Nat.le_refl _) _).setCell (p := ⟨w.heap.size, 1, none⟩) (Nat.le_refl _) _).setCell (p := ⟨w.heap.size, 2, none⟩) (Nat.le_refl _) _).setCell (p := ⟨w.heap.size, 3, none⟩) (Nat.le_refl _) _
                      | false =>
                        have himp : impB ts a1 (q1 + 1) = false := by unfold impB; rw [HMk.out, show q2 + 1 - 1 = q2 from rfl, hx33]; simp
                        have hXv : X = ⟨L, a1, q1 + 1, false⟩ := by rw [HXv.out]; unfold declF declAt; rw [HCol.out, HT1v.out]; dsimp only; rw [himp, if_neg (by simp), Htx.out, HNMv.out]
                        subst hXv
                        clear himp HXv
                        clear cL hlt2 HMk
                        rw [hq2]
                        generalize hlx : lowS (txA ts q1) = lx at *
                        generalize htq : txA ts q1 = tq at *
                        have hlt5 := B5.lt
                        have HT5 := Lib.hid hT5; have HB5 := Lib.hid B5; have HR5 := Lib.hid R5; have HW5 := Lib.hid hbw5
                        clear hlx htq hT5 B5 R5 hbw5
                        go_wp2_with (first | (go_at_call 37; ((with_reducible refine (hL5 _).mono ?_)); rintro e w6 ⟨rfl, hb6⟩; have B6 := HB5.out.later hb6 (by omega); have R6 := HR5.out.later hb6 (by omega); have hT6 := HT5.out.later hb6 (by omega); have hbw6 := HW5.out.trans (hb6.mono HW5.out.size); have e0 := B6.cell 0 _ rfl; have e1 := B6.cell 1 _ rfl; have e2 := B6.cell 2 _ rfl; have e3 := B6.cell 3 _ rfl; have g0 := B6.frozen 0; have g1 := B6.frozen 1; have g2 := B6.frozen 2; have g3 := B6.frozen 3; have r0 := R6.cell 0 _ rfl; have r1 := R6.cell 1 _ rfl; have r2 := R6.cell 2 _ rfl; have r3 := R6.cell 3 _ rfl; have z0 := R6.frozen 0; have z1 := R6.frozen 1; have z2 := R6.frozen 2; have z3 := R6.frozen 3; have ck2 := hT6.kd q2 (by omega); have cx2 := hT6.tx q2 (by omega); rw [hk9] at ck2))
                        refine bodyPost_ret (v := .tuple #[.agg #[.string L, .int .i64 a1, .int .i64 ((q1 : Int) + 1), .bool false], .bool true]) (by simp [results, Try.results31, go_sem, r0, r1, r2, r3]) rfl ⟨rfl, ?_⟩
                        exact (((hbw6.setCell (p := ⟨w.heap.size, 0, none⟩) (Nat.le_refl _) _).setCell (p := ⟨w.heap.size, 1, none⟩) (Nat.le_refl _) _).setCell (p := ⟨w.heap.size, 2, none⟩) (Nat.le_refl _) _).setCell (p := ⟨w.heap.size, 3, none⟩) (Nat.le_refl _) _
                    · have himp : impB ts a1 (q1 + 1) = false := by unfold impB; rw [HMk.out, show q2 + 1 - 1 = q2 from rfl, decide_eq_false hk9]; simp
                      have nk9 : (kdA ts q2 == 9) = false := beq_eq_false_iff_ne.2 hk9
                      have hXv : X = ⟨L, a1, q1 + 1, false⟩ := by rw [HXv.out]; unfold declF declAt; rw [HCol.out, HT1v.out]; dsimp only; rw [himp, if_neg (by simp), Htx.out, HNMv.out]
                      subst hXv
                      clear himp HXv
                      clear cL hlt2 HMk
                      rw [hq2]
                      generalize hlx : lowS (txA ts q1) = lx at *
                      generalize htq : txA ts q1 = tq at *
                      have hlt5 := B5.lt
                      have HT5 := Lib.hid hT5; have HB5 := Lib.hid B5; have HR5 := Lib.hid R5; have HW5 := Lib.hid hbw5
                      clear hlx htq hT5 B5 R5 hbw5
                      go_wp2_with (first | (go_at_call 37; ((with_reducible refine (hL5 _).mono ?_)); rintro e w6 ⟨rfl, hb6⟩; have B6 := HB5.out.later hb6 (by omega); have R6 := HR5.out.later hb6 (by omega); have hT6 := HT5.out.later hb6 (by omega); have hbw6 := HW5.out.trans (hb6.mono HW5.out.size); have e0 := B6.cell 0 _ rfl; have e1 := B6.cell 1 _ rfl; have e2 := B6.cell 2 _ rfl; have e3 := B6.cell 3 _ rfl; have g0 := B6.frozen 0; have g1 := B6.frozen 1; have g2 := B6.frozen 2; have g3 := B6.frozen 3; have r0 := R6.cell 0 _ rfl; have r1 := R6.cell 1 _ rfl; have r2 := R6.cell 2 _ rfl; have r3 := R6.cell 3 _ rfl; have z0 := R6.frozen 0; have z1 := R6.frozen 1; have z2 := R6.frozen 2; have z3 := R6.frozen 3; have ck2 := hT6.kd q2 (by omega)))
                      refine bodyPost_ret (v := .tuple #[.agg #[.string L, .int .i64 a1, .int .i64 ((q1 : Int) + 1), .bool false], .bool true]) (by simp [results, Try.results31, go_sem, r0, r1, r2, r3]) rfl ⟨rfl, ?_⟩
                      exact (((hbw6.setCell (p := ⟨w.heap.size, 0, none⟩) (Nat.le_refl _) _).setCell (p := ⟨w.heap.size, 1, none⟩) (Nat.le_refl _) _).setCell (p := ⟨w.heap.size, 2, none⟩) (Nat.le_refl _) _).setCell (p := ⟨w.heap.size, 3, none⟩) (Nat.le_refl _) _
                  · have himp : impB ts a1 (q1 + 1) = false := by unfold impB; rw [HMk.out, decide_eq_false hab2]; simp
                    have hab3 : ¬ (a2 : Int) < (b2 : Int) := by omega
                    have hXv : X = ⟨L, a1, q1 + 1, false⟩ := by rw [HXv.out]; unfold declF declAt; rw [HCol.out, HT1v.out]; dsimp only; rw [himp, if_neg (by simp), Htx.out, HNMv.out]
                    subst hXv
                    clear himp HXv
                    clear cL hlt2 HMk
                    generalize hlx : lowS (txA ts q1) = lx at *
                    generalize htq : txA ts q1 = tq at *
                    have hlt5 := B5.lt
                    have HT5 := Lib.hid hT5; have HB5 := Lib.hid B5; have HR5 := Lib.hid R5; have HW5 := Lib.hid hbw5
                    clear hlx htq hT5 B5 R5 hbw5
                    go_wp2_with (first | (go_at_call 37; ((with_reducible refine (hL5 _).mono ?_)); rintro e w6 ⟨rfl, hb6⟩; have B6 := HB5.out.later hb6 (by omega); have R6 := HR5.out.later hb6 (by omega); have hT6 := HT5.out.later hb6 (by omega); have hbw6 := HW5.out.trans (hb6.mono HW5.out.size); have e0 := B6.cell 0 _ rfl; have e1 := B6.cell 1 _ rfl; have e2 := B6.cell 2 _ rfl; have e3 := B6.cell 3 _ rfl; have g0 := B6.frozen 0; have g1 := B6.frozen 1; have g2 := B6.frozen 2; have g3 := B6.frozen 3; have r0 := R6.cell 0 _ rfl; have r1 := R6.cell 1 _ rfl; have r2 := R6.cell 2 _ rfl; have r3 := R6.cell 3 _ rfl; have z0 := R6.frozen 0; have z1 := R6.frozen 1; have z2 := R6.frozen 2; have z3 := R6.frozen 3))
                    refine bodyPost_ret (v := .tuple #[.agg #[.string L, .int .i64 a1, .int .i64 ((q1 : Int) + 1), .bool false], .bool true]) (by simp [results, Try.results31, go_sem, r0, r1, r2, r3]) rfl ⟨rfl, ?_⟩
                    exact (((hbw6.setCell (p := ⟨w.heap.size, 0, none⟩) (Nat.le_refl _) _).setCell (p := ⟨w.heap.size, 1, none⟩) (Nat.le_refl _) _).setCell (p := ⟨w.heap.size, 2, none⟩) (Nat.le_refl _) _).setCell (p := ⟨w.heap.size, 3, none⟩) (Nat.le_refl _) _
                | false =>
                  have himp : impB ts a1 (q1 + 1) = false := by unfold impB; rw [show q1 + 1 - 1 = q1 from rfl, hii]; simp
                  have hXv : X = ⟨L, a1, q1 + 1, false⟩ := by rw [HXv.out]; unfold declF declAt; rw [HCol.out, HT1v.out]; dsimp only; rw [himp, if_neg (by simp), Htx.out, HNMv.out]
                  subst hXv
                  clear himp HXv
                  clear cL hlt2 HMk
                  generalize hlx : lowS (txA ts q1) = lx at *
                  generalize htq : txA ts q1 = tq at *
                  have hlt5 := B5.lt
                  have HT5 := Lib.hid hT5; have HB5 := Lib.hid B5; have HR5 := Lib.hid R5; have HW5 := Lib.hid hbw5
                  clear hlx htq hT5 B5 R5 hbw5
                  go_wp2_with (first | (go_at_call 37; ((with_reducible refine (hL5 _).mono ?_)); rintro e w6 ⟨rfl, hb6⟩; have B6 := HB5.out.later hb6 (by omega); have R6 := HR5.out.later hb6 (by omega); have hT6 := HT5.out.later hb6 (by omega); have hbw6 := HW5.out.trans (hb6.mono HW5.out.size); have e0 := B6.cell 0 _ rfl; have e1 := B6.cell 1 _ rfl; have e2 := B6.cell 2 _ rfl; have e3 := B6.cell 3 _ rfl; have g0 := B6.frozen 0; have g1 := B6.frozen 1; have g2 := B6.frozen 2; have g3 := B6.frozen 3; have r0 := R6.cell 0 _ rfl; have r1 := R6.cell 1 _ rfl; have r2 := R6.cell 2 _ rfl; have r3 := R6.cell 3 _ rfl; have z0 := R6.frozen 0; have z1 := R6.frozen 1; have z2 := R6.frozen 2; have z3 := R6.frozen 3))
                  refine bodyPost_ret (v := .tuple #[.agg #[.string L, .int .i64 a1, .int .i64 ((q1 : Int) + 1), .bool false], .bool true]) (by simp [results, Try.results31, go_sem, r0, r1, r2, r3]) rfl ⟨rfl, ?_⟩
                  exact (((hbw6.setCell (p := ⟨w.heap.size, 0, none⟩) (Nat.le_refl _) _).setCell (p := ⟨w.heap.size, 1, none⟩) (Nat.le_refl _) _).setCell (p := ⟨w.heap.size, 2, none⟩) (Nat.le_refl _) _).setCell (p := ⟨w.heap.size, 3, none⟩) (Nat.le_refl _) _
              · have himp : impB ts a1 (q1 + 1) = false := by unfold impB; rw [show q1 + 1 - 1 = q1 from rfl, decide_eq_false hk1]; simp
                have nk1 : (kdA ts q1 == 1) = false := beq_eq_false_iff_ne.2 hk1
                have hXv : X = ⟨L, a1, q1 + 1, false⟩ := by rw [HXv.out]; unfold declF declAt; rw [HCol.out, HT1v.out]; dsimp only; rw [himp, if_neg (by simp), Htx.out, HNMv.out]
                subst hXv
                clear himp HXv
                clear cL hlt2 HMk hk1 cx
                generalize kdA ts q1 = qq at *
                have r0 := R5.cell 0 _ rfl
                have r1 := R5.cell 1 _ rfl
                have r2 := R5.cell 2 _ rfl
                have r3 := R5.cell 3 _ rfl
                have z0 := R5.frozen 0
                have z1 := R5.frozen 1
                have z2 := R5.frozen 2
                have z3 := R5.frozen 3
                have HBW := Lib.hid hbw5; clear hbw5
                go_wp2
                refine bodyPost_ret (v := .tuple #[.agg #[.string L, .int .i64 a1, .int .i64 ((q1 : Int) + 1), .bool false], .bool true]) (by simp [results, Try.results31, go_sem, r0, r1, r2, r3]) rfl ⟨rfl, ?_⟩
                exact (((HBW.out.setCell (p := ⟨w.heap.size, 0, none⟩) (Nat.le_refl _) _).setCell (p := ⟨w.heap.size, 1, none⟩) (Nat.le_refl _) _).setCell (p := ⟨w.heap.size, 2, none⟩) (Nat.le_refl _) _).setCell (p := ⟨w.heap.size, 3, none⟩) (Nat.le_refl _) _
            · have himp : impB ts a1 (q1 + 1) = false := by unfold impB; rw [decide_eq_false hab]; simp
              have hab1 : ¬ (a1 : Int) < (q1 : Int) + 1 := by omega
              have hXv : X = ⟨L, a1, q1 + 1, false⟩ := by rw [HXv.out]; unfold declF declAt; rw [HCol.out, HT1v.out]; dsimp only; rw [himp, if_neg (by simp), Htx.out, HNMv.out]
              subst hXv
              clear himp HXv
              clear cL hlt2 HMk 
              have r0 := R5.cell 0 _ rfl
              have r1 := R5.cell 1 _ rfl
              have r2 := R5.cell 2 _ rfl
              have r3 := R5.cell 3 _ rfl
              have z0 := R5.frozen 0
              have z1 := R5.frozen 1
              have z2 := R5.frozen 2
              have z3 := R5.frozen 3
              have HBW := Lib.hid hbw5; clear hbw5
              go_wp2
              refine bodyPost_ret (v := .tuple #[.agg #[.string L, .int .i64 a1, .int .i64 ((q1 : Int) + 1), .bool false], .bool true]) (by simp [results, Try.results31, go_sem, r0, r1, r2, r3]) rfl ⟨rfl, ?_⟩
              exact (((HBW.out.setCell (p := ⟨w.heap.size, 0, none⟩) (Nat.le_refl _) _).setCell (p := ⟨w.heap.size, 1, none⟩) (Nat.le_refl _) _).setCell (p := ⟨w.heap.size, 2, none⟩) (Nat.le_refl _) _).setCell (p := ⟨w.heap.size, 3, none⟩) (Nat.le_refl _) _
        · have hDv : D = false := by rw [HD.out, decide_eq_false h16, Bool.and_false]
          subst hDv
          have hXv : X = ⟨⟨#[]⟩, 0, 0, false⟩ := by rw [← HX.out, if_neg (by simp)]
          subst hXv
          have n16 : (kdA ts S != 16) = true := bne_iff_ne.2 h16
          have hSE : ¬ (E : Int) ≤ (S : Int) := by omega
          clear hR HD HX HDD HS hk h16
          generalize kdA ts S = q at *
          have r0 := B0.cell 0 _ rfl
          have r1 := B0.cell 1 _ rfl
          have r2 := B0.cell 2 _ rfl
          have r3 := B0.cell 3 _ rfl
          have z0 := B0.frozen 0
          have z1 := B0.frozen 1
          have z2 := B0.frozen 2
          have z3 := B0.frozen 3
          go_wp2
          refine bodyPost_ret (v := .tuple #[.agg #[.string ⟨#[]⟩, .int .i64 0, .int .i64 0, .bool false], .bool false]) (by simp [results, Try.results31, go_sem, r0, r1, r2, r3]) rfl ⟨rfl, ?_⟩
          exact hb1
    · obtain rfl : i = E := by omega
      have hSi : S = i := by rw [← hR.out, overF_step, if_neg (by omega)]
      subst hSi
      have hDv : D = false := by rw [HD.out, decide_eq_false (by omega), Bool.false_and]
      subst hDv
      have hXv : X = ⟨⟨#[]⟩, 0, 0, false⟩ := by rw [← HX.out, if_neg (by simp)]
      subst hXv
      clear hR HD HX HDD HS
      have r0 := B0.cell 0 _ rfl
      have r1 := B0.cell 1 _ rfl
      have r2 := B0.cell 2 _ rfl
      have r3 := B0.cell 3 _ rfl
      have z0 := B0.frozen 0
      have z1 := B0.frozen 1
      have z2 := B0.frozen 2
      have z3 := B0.frozen 3
      go_wp2
      refine bodyPost_ret (v := .tuple #[.agg #[.string ⟨#[]⟩, .int .i64 0, .int .i64 0, .bool false], .bool false]) (by simp [results, Try.results31, go_sem, r0, r1, r2, r3]) rfl ⟨rfl, ?_⟩
      exact hb1
end
end Go.Proofs.Ytelbjnanpmdnnaa
