/- Texts of mine in one: Bb2 Bp0 Bp1. -/
import Derived.Test.YtelbjnanpmdnnaaQ26
namespace Go.Proofs.Ytelbjnanpmdnnaa
section
open Go.RowKit
set_option linter.unusedVariables false
set_option linter.unusedSimpArgs false
set_option maxRecDepth 100000 in
set_option maxHeartbeats 4000000 in
theorem rktrim_any {ts : List Tk} {b n cap : Nat} {w : World} (f t : Int) (a e0 E : Nat) (hT : TkRow w b n ts) (hcap : n ≤ cap) (hc2 : cap ≤ maxLen) (hn : n ≤ 1000000) (ha : (a : Int) = max f 0) (ha2 : (a : Int) ≤ 9223372036854775807) (he : (e0 : Int) = max (min t n) 0) (hE : endF ts e0 a = E) :
    Calls Try.prog 46 #[.slice (some ⟨b, 0, none⟩) n cap, .int .i64 f, .int .i64 t] w (TwoI ((trimF ts E a).1 : Nat) ((trimF ts E a).2 : Nat) w) := by
  have cC := rkcut_any (w := w) f t a e0 hT hcap hc2 hn ha ha2 he
  rw [hE] at cC
  have hge : a ≤ E := by rw [← hE]; exact endF_ge ts e0 a
  have hle : E ≤ max a n := by have := endF_le ts e0 a; omega
  unfold maxLen at hc2
  have HT := Lib.hid hT
  clear hE hT he ha
  obtain ⟨ho1, ho2, ho3⟩ := overF_bounds ts (isK 13) E _ a (Nat.le_refl _)
  have HM : Hid (trimF ts E a = if overF ts (isK 13) E a < E then (overF ts (isK 13) E a, backF ts (overF ts (isK 13) E a) E) else (a, a)) := Lib.hid rfl
  generalize hM : trimF ts E a = M at *
  generalize hS : overF ts (isK 13) E a = S at *
  have HS := Lib.hid hS
  have H3 := Lib.hid ho3
  clear hM hS ho3
  go_enter Try.func46, Try.ntmps46
  go_wp2_with (first | (go_at_call 12; ((with_reducible refine cC.mono ?_)); rintro e wq ⟨rfl, hwq⟩; replace hwq := hwq.symm; subst hwq))
  go_loopw [8] (fun v wr => ∃ i : Nat, v = .int .i64 i ∧ a ≤ i ∧ i ≤ E ∧ Hid (overF ts (isK 13) E i = S) ∧ wr = w) (fun v _ => E - (intOf v).toNat)
  case atStart => exact ⟨a, by go_num, by omega, by omega, HS, rfl⟩
  case round =>
    obtain ⟨i, rfl, hai, hiE, hR, rfl⟩ := hrel
    by_cases hi : i < E
    · have hi1 : (i : Int) < (E : Int) := by omega
      have hi2 : (i : Int) < (n : Int) := by omega
      have c1 := HT.out.kd i (by omega)
      by_cases hk : kdA ts i = 13
      · have HN : Hid (overF ts (isK 13) E (i + 1) = S) := Lib.hid (by
          rw [← hR.out]; conv => rhs; rw [overF_step, if_pos ⟨hi, isK_yes hk⟩])
        rw [hk] at c1
        clear hk hR
        go_wp2
        go_roundw
        case rel => exact ⟨i + 1, by go_num, by omega, by omega, HN, by first | rfl | trivial⟩
        case measure => simp [intOf]; omega
      · have hSi : S = i := by rw [← hR.out, overF_step, if_neg (by rw [isK_no hk]; simp)]
        subst hSi
        have nk : (kdA ts S == 13) = false := beq_eq_false_iff_ne.2 hk
        have hMv : M = (S, backF ts S E) := by rw [HM.out, if_pos hi]
        have hfirst := backF_first ts S E hi hk
        have hback := backF_bounds ts S E (by omega)
        subst hMv
        generalize hB : backF ts S E = B at *
        have HB := Lib.hid hB
        clear hB hk hR HM HS
        generalize kdA ts S = q at *
        go_wp2_with fail
        go_loopw [9] (fun v wr2 => ∃ k : Nat, v = .int .i64 k ∧ S ≤ k ∧ k ≤ E ∧ Hid (backF ts S k = B) ∧ wr2 = wr) (fun v _ => (intOf v).toNat)
        case atStart => exact ⟨E, by go_num, by omega, by omega, HB, rfl⟩
        case round =>
          obtain ⟨k, rfl, hSk, hkE, hR2, rfl⟩ := hrel
          rcases k with _ | k
          · have : B = 0 := hR2.out.symm
            omega
          · by_cases hk2 : S < k + 1
            · have hj1 : (S : Int) < (k : Int) + 1 := by omega
              have hj2 : (k : Int) < (n : Int) := by omega
              have hj3 : ((k + 1 : Nat) : Int) = (k : Int) + 1 := by omega
              have c2 := HT.out.kd k (by omega)
              by_cases hk3 : kdA ts k = 13
              · have HN : Hid (backF ts S k = B) := Lib.hid (by
                  rw [← hR2.out]; conv => rhs; rw [show backF ts S (k + 1) = (if S < k + 1 ∧ kdA ts k = 13 then backF ts S k else k + 1) from rfl, if_pos ⟨hk2, hk3⟩])
                rw [hk3] at c2
                rw [hj3]
                clear hk3 hR2 hj3
                go_wp2
                go_roundw
                case rel => exact ⟨k, by go_num, by omega, by omega, HN, by first | rfl | trivial⟩
                case measure => simp [intOf]; try omega
              · have hBk : B = k + 1 := by
                  rw [← hR2.out, show backF ts S (k + 1) = (if S < k + 1 ∧ kdA ts k = 13 then backF ts S k else k + 1) from rfl, if_neg (by omega)]
                subst hBk
                have nk2 : (kdA ts k == 13) = false := beq_eq_false_iff_ne.2 hk3
                have hne : ((S : Int) == (k : Int) + 1) = false := beq_eq_false_iff_ne.2 (by omega)
                rw [hj3]
                clear hk3 hR2 hj3 hfirst hback
                generalize kdA ts k = q2 at *
                go_wp2
                go_ret2
                exact ⟨by first | rfl | simp, rfl⟩
            · have : B = k + 1 := by
                rw [← hR2.out, show backF ts S (k + 1) = (if S < k + 1 ∧ kdA ts k = 13 then backF ts S k else k + 1) from rfl, if_neg (by omega)]
              omega
    · obtain rfl : i = E := by omega
      have hSi : S = i := by rw [← hR.out, overF_step, if_neg (by omega)]
      subst hSi
      have hMv : M = (a, a) := by rw [HM.out, if_neg (by omega)]
      subst hMv
      clear hR HM HS
      go_wp2_with fail
      go_loopw [9] (fun v wr2 => v = .int .i64 S ∧ wr2 = wr) (fun v _ => (intOf v).toNat)
      case atStart => exact ⟨rfl, rfl⟩
      case round =>
        obtain ⟨rfl, rfl⟩ := hrel
        go_wp2
        go_ret2
        exact ⟨rfl, rfl⟩
def RlPost (x : Rl × Nat) (w : World) (e : Ending) (w' : World) : Prop := e = .returned (.tuple #[.agg (rlCells x.1).toArray, .int .i64 x.2]) ∧ Below w.heap.size w w'
theorem TkRow.set {w : World} {b n p i : Nat} {ts : List Tk} {v : Value} (h : TkRow w b n ts) (hp : b < p) : TkRow (w.setCell ⟨p, i, none⟩ v) b n ts :=
  h.later ((Below.refl p w).setCell (p := ⟨p, i, none⟩) (Nat.le_refl _) v) hp
theorem below_set4 {w0 w : World} {B p : Nat} (h : Below B w0 w) (hp : B ≤ p) (i0 i1 i2 i3 : Nat) (v0 v1 v2 v3 : Value) : Below B w0 ((((w.setCell ⟨p, i0, none⟩ v0).setCell ⟨p, i1, none⟩ v1).setCell ⟨p, i2, none⟩ v2).setCell ⟨p, i3, none⟩ v3) :=
  (((h.setCell (p := ⟨p, i0, none⟩) hp _).setCell (p := ⟨p, i1, none⟩) hp _).setCell (p := ⟨p, i2, none⟩) hp _).setCell (p := ⟨p, i3, none⟩) hp _
theorem set7 {w0 w : World} {p : Nat} (h : Below p w0 w) (v0 v1 v2 v3 v4 v5 v6 : Value) : Below p w0 (((((((w.setCell ⟨p, 0, none⟩ v0).setCell ⟨p, 1, none⟩ v1).setCell ⟨p, 2, none⟩ v2).setCell ⟨p, 3, none⟩ v3).setCell ⟨p, 4, none⟩ v4).setCell ⟨p, 5, none⟩ v5).setCell ⟨p, 6, none⟩ v6) :=
  ((((((h.setCell (p := ⟨p, 0, none⟩) (Nat.le_refl _) _).setCell (p := ⟨p, 1, none⟩) (Nat.le_refl _) _).setCell (p := ⟨p, 2, none⟩) (Nat.le_refl _) _).setCell (p := ⟨p, 3, none⟩) (Nat.le_refl _) _).setCell (p := ⟨p, 4, none⟩) (Nat.le_refl _) _).setCell (p := ⟨p, 5, none⟩) (Nat.le_refl _) _).setCell (p := ⟨p, 6, none⟩) (Nat.le_refl _) _
set_option maxRecDepth 100000 in
set_option maxHeartbeats 8000000 in
theorem rkatrule_any {ts : List Tk} {b n cap E : Nat} {w : World} (j : Nat) (hT : TkRow w b n ts) (hcap : n ≤ cap) (hc2 : cap ≤ maxLen) (hn : n ≤ 1000000) (hE : E ≤ n) (hj : j < E) (hs : (txA ts j).size ≤ 1000000) :
    Calls Try.prog 24 #[.slice (some ⟨b, 0, none⟩) n cap, .int .i64 j, .int .i64 E] w (RlPost (atruleF ts E j) w) := by
  have hK := scanF_bounds ts (isK2 17 23) E (j + 1) hj
  have hstop := scanF_stop ts (isK2 17 23) E _ (j + 1) (Nat.le_refl _)
  have HR : Hid (atruleF ts E j = if scanF ts (isK2 17 23) E (j + 1) < E then
    if kdA ts (scanF ts (isK2 17 23) E (j + 1)) = 23 then
      (⟨true, lowS (txA ts j), j + 1, scanF ts (isK2 17 23) E (j + 1), true, scanF ts (isK2 17 23) E (j + 1) + 1, (blkF ts E (scanF ts (isK2 17 23) E (j + 1))).1⟩, (blkF ts E (scanF ts (isK2 17 23) E (j + 1))).2)
    else (⟨true, lowS (txA ts j), j + 1, scanF ts (isK2 17 23) E (j + 1), false, 0, 0⟩, scanF ts (isK2 17 23) E (j + 1) + 1)
  else (⟨true, lowS (txA ts j), j + 1, scanF ts (isK2 17 23) E (j + 1), false, 0, 0⟩, scanF ts (isK2 17 23) E (j + 1))) := Lib.hid rfl
  have cU := fun (w' : World) (h : TkRow w' b n ts) => rkuntil_any (w := w') 17 23 (j + 1) h hcap hc2 hn hE (by omega)
  have cB := fun (k : Nat) (w' : World) (hk : k < E) (h : TkRow w' b n ts) => rkbehind_any hcap hc2 hn hE _ k w' (Nat.le_refl _) hk h
  have cL := fun w' => rlower_any (txA ts j) w' hs
  have hjn : (j : Int) < (n : Int) := by omega
  unfold maxLen at hc2
  obtain ⟨i0, hi, hz0, hz1, hz2⟩ := info_parts Try.infoRule
  have B0 : Blk (w.alloc (.cells [.bool false, .string ⟨#[]⟩, .int .i64 0, .int .i64 0, .bool false, .int .i64 0, .int .i64 0].toArray 32)) w.heap.size [.bool false, .string ⟨#[]⟩, .int .i64 0, .int .i64 0, .bool false, .int .i64 0, .int .i64 0] 32 := Blk.alloc _ _
  have hb1 := (Below.refl w.heap.size w).alloc (Nat.le_refl _) (.cells [.bool false, .string ⟨#[]⟩, .int .i64 0, .int .i64 0, .bool false, .int .i64 0, .int .i64 0].toArray 32)
  have hT1 := hT.later hb1 hT.lt
  have hz1' : (w.alloc (.cells [.bool false, .string ⟨#[]⟩, .int .i64 0, .int .i64 0, .bool false, .int .i64 0, .int .i64 0].toArray 32)).heap.size = w.heap.size + 1 := by simp
  have hbw := hT.lt
  generalize hR : atruleF ts E j = R at *
  generalize hk : scanF ts (isK2 17 23) E (j + 1) = K at *
  have HKk := Lib.hid hk
  have HST := Lib.hid hstop
  generalize hN : lowS (txA ts j) = N at *
  have ct := hT1.tx j (by omega)
  have HT1 := Lib.hid hT1
  clear hT hR hk hN hstop hT1
  generalize txA ts j = tx at *
  go_enter Try.func24, Try.ntmps24
  go_wp2_with fail
  refine (cL _).mono ?_
  rintro e w2 ⟨rfl, hb2⟩
  rw [hz1'] at hb2
  generalize hW1 : w.alloc (.cells [.bool false, .string ⟨#[]⟩, .int .i64 0, .int .i64 0, .bool false, .int .i64 0, .int .i64 0].toArray 32) = w1 at *
  have hT2 := Lib.hid (HT1.out.later hb2 (by omega))
  have B2 := B0.later hb2 (by omega)
  have hbw2 := hb1.trans (hb2.mono (by omega))
  have hz2' := hb2.size
  clear hb2 HT1 ct B0 hb1 hW1 cL
  go_wp2_with fail
  have B3 : Blk (w2.alloc (.cells [.bool true, .string N, .int .i64 ((j : Int) + 1), .int .i64 0, .bool false, .int .i64 0, .int .i64 0].toArray 32)) w2.heap.size [.bool true, .string N, .int .i64 ((j : Int) + 1), .int .i64 0, .bool false, .int .i64 0, .int .i64 0] 32 := Blk.alloc _ _
  have R3 := B2.alloc_old (.cells [.bool true, .string N, .int .i64 ((j : Int) + 1), .int .i64 0, .bool false, .int .i64 0, .int .i64 0].toArray 32)
  have hT3 := hT2.out.later ((Below.refl w2.heap.size w2).alloc (Nat.le_refl _) (.cells [.bool true, .string N, .int .i64 ((j : Int) + 1), .int .i64 0, .bool false, .int .i64 0, .int .i64 0].toArray 32)) (by omega)
  have hbw3 := hbw2.alloc hbw2.size (.cells [.bool true, .string N, .int .i64 ((j : Int) + 1), .int .i64 0, .bool false, .int .i64 0, .int .i64 0].toArray 32)
  generalize hW3 : w2.alloc (.cells [.bool true, .string N, .int .i64 ((j : Int) + 1), .int .i64 0, .bool false, .int .i64 0, .int .i64 0].toArray 32) = w3 at *
  have hpq : w.heap.size < w2.heap.size := by omega
  generalize w2.heap.size = p at *
  clear hW3 hT2 B2 hbw2 hz2' hz1'
  have cU3 := cU w3 hT3
  have HT3 := Lib.hid hT3
  clear cU hT3
  rw [show ((j + 1 : Nat) : Int) = (j : Int) + 1 from by omega] at cU3
  refine cU3.mono ?_
  rintro e wq ⟨rfl, hwq⟩; replace hwq := hwq.symm; subst hwq
  have hz3 := R3.lt
  have c0 := B3.cell 0 _ rfl
  have c1 := B3.cell 1 _ rfl
  have c2 := B3.cell 2 _ rfl
  have c3 := B3.cell 3 _ rfl
  have c4 := B3.cell 4 _ rfl
  have c5 := B3.cell 5 _ rfl
  have c6 := B3.cell 6 _ rfl
  have f0 := B3.frozen 0
  have f1 := B3.frozen 1
  have f2 := B3.frozen 2
  have f3 := B3.frozen 3
  have f4 := B3.frozen 4
  have f5 := B3.frozen 5
  have f6 := B3.frozen 6
  have r0 := R3.cell 0 _ rfl
  have r1 := R3.cell 1 _ rfl
  have r2 := R3.cell 2 _ rfl
  have r3 := R3.cell 3 _ rfl
  have r4 := R3.cell 4 _ rfl
  have r5 := R3.cell 5 _ rfl
  have r6 := R3.cell 6 _ rfl
  have z0 := R3.frozen 0
  have z1 := R3.frozen 1
  have z2 := R3.frozen 2
  have z3 := R3.frozen 3
  have z4 := R3.frozen 4
  have z5 := R3.frozen 5
  have z6 := R3.frozen 6
  have hne : w.heap.size ≠ p := by omega
  by_cases hKE : K < E
  · have hKE2 : ((K : Int) == (E : Int)) = false := beq_eq_false_iff_ne.2 (by omega)
    have hKn : (K : Int) < (n : Int) := by omega
    have ck := HT3.out.kd K (by omega)
    by_cases hk23 : kdA ts K = 23
    · have hRv : R = (⟨true, N, j + 1, K, true, K + 1, (blkF ts E K).1⟩, (blkF ts E K).2) := by rw [HR.out, if_pos hKE, if_pos hk23]
      have c23 : closeOf 23 = 24 := rfl
      have hB1 : cvF ts E K = (blkF ts E K).2 := by rw [cvF_step ts E K hKE, hk23, c23, if_neg (by decide)]; rfl
      have hB2 : closeF ts E K = (blkF ts E K).1 := by unfold closeF; rw [hk23, c23, if_neg (by decide)]; rfl
      rw [hk23] at ck
      have hbp : b < p := by omega
      subst hRv
      clear HR HKk HST hk23 c23
      go_wp2_with fail
      refine (cB K _ hKE (((HT3.out.set hbp).set hbp).set hbp)).mono ?_
      rintro e wq ⟨rfl, hwq⟩; replace hwq := hwq.symm; subst hwq
      rw [hB1, hB2]
      have HB4 := Lib.hid hbw3; clear hbw3
      clear cB hB1 hB2
      generalize blkF ts E K = X at *
      obtain ⟨x1, x2⟩ := X
      go_wp2
      have hb5 := below_set4 HB4.out (Nat.le_of_lt hpq) 3 4 5 6 (.int .i64 K) (.bool true) (.int .i64 ((K : Int) + 1)) (.int .i64 x1)
      have R5 := R3.later (below_set4 (Below.refl p w3) (Nat.le_refl _) 3 4 5 6 (.int .i64 K) (.bool true) (.int .i64 ((K : Int) + 1)) (.int .i64 x1)) hpq
      generalize ((((w3.setCell ⟨p, 3, none⟩ (.int .i64 K)).setCell ⟨p, 4, none⟩ (.bool true)).setCell ⟨p, 5, none⟩ (.int .i64 ((K : Int) + 1))).setCell ⟨p, 6, none⟩ (.int .i64 x1)) = w5 at *
      clear r0 r1 r2 r3 r4 r5 r6
      have r0 := R5.cell 0 _ rfl
      have r1 := R5.cell 1 _ rfl
      have r2 := R5.cell 2 _ rfl
      have r3 := R5.cell 3 _ rfl
      have r4 := R5.cell 4 _ rfl
      have r5 := R5.cell 5 _ rfl
      have r6 := R5.cell 6 _ rfl
      refine bodyPost_ret (v := .tuple #[.agg #[.bool true, .string N, .int .i64 (j + 1 : Nat), .int .i64 K, .bool true, .int .i64 (K + 1 : Nat), .int .i64 x1], .int .i64 x2]) (by simp [results, Try.results24, go_sem, r0, r1, r2, r3, r4, r5, r6]) rfl ⟨rfl, ?_⟩
      exact set7 hb5 _ _ _ _ _ _ _
    · have hk17 : kdA ts K = 17 := by
        have h1 := HST.out hKE
        rcases isK2_iff.1 h1 with h | h
        · exact h
        · exact absurd h hk23
      have hRv : R = (⟨true, N, j + 1, K, false, 0, 0⟩, K + 1) := by rw [HR.out, if_pos hKE, if_neg hk23]
      rw [hk17] at ck
      subst hRv
      clear hk23 hk17
      have HB4 := Lib.hid hbw3; clear hbw3
      clear HR HKk HST cB
      go_wp2
      have hb5 := HB4.out.setCell (p := ⟨p, 3, none⟩) (Nat.le_of_lt hpq) (.int .i64 K)
      have R5 := R3.later ((Below.refl p w3).setCell (p := ⟨p, 3, none⟩) (Nat.le_refl _) (.int .i64 K)) hpq
      generalize (w3.setCell ⟨p, 3, none⟩ (.int .i64 K)) = w5 at *
      clear r0 r1 r2 r3 r4 r5 r6
      have r0 := R5.cell 0 _ rfl
      have r1 := R5.cell 1 _ rfl
      have r2 := R5.cell 2 _ rfl
      have r3 := R5.cell 3 _ rfl
      have r4 := R5.cell 4 _ rfl
      have r5 := R5.cell 5 _ rfl
      have r6 := R5.cell 6 _ rfl
      refine bodyPost_ret (v := .tuple #[.agg #[.bool true, .string N, .int .i64 (j + 1 : Nat), .int .i64 K, .bool false, .int .i64 0, .int .i64 0], .int .i64 (K + 1 : Nat)]) (by simp [results, Try.results24, go_sem, r0, r1, r2, r3, r4, r5, r6]) rfl ⟨rfl, ?_⟩
      exact set7 hb5 _ _ _ _ _ _ _
  · obtain rfl : K = E := by omega
    have hRv : R = (⟨true, N, j + 1, K, false, 0, 0⟩, K) := by rw [HR.out, if_neg hKE]
    subst hRv
    have HB4 := Lib.hid hbw3; clear hbw3
    clear HR HKk HST cB
    go_wp2
    have hb5 := HB4.out.setCell (p := ⟨p, 3, none⟩) (Nat.le_of_lt hpq) (.int .i64 K)
    have R5 := R3.later ((Below.refl p w3).setCell (p := ⟨p, 3, none⟩) (Nat.le_refl _) (.int .i64 K)) hpq
    generalize (w3.setCell ⟨p, 3, none⟩ (.int .i64 K)) = w5 at *
    clear r0 r1 r2 r3 r4 r5 r6
    have r0 := R5.cell 0 _ rfl
    have r1 := R5.cell 1 _ rfl
    have r2 := R5.cell 2 _ rfl
    have r3 := R5.cell 3 _ rfl
    have r4 := R5.cell 4 _ rfl
    have r5 := R5.cell 5 _ rfl
    have r6 := R5.cell 6 _ rfl
    refine bodyPost_ret (v := .tuple #[.agg #[.bool true, .string N, .int .i64 (j + 1 : Nat), .int .i64 K, .bool false, .int .i64 0, .int .i64 0], .int .i64 K]) (by simp [results, Try.results24, go_sem, r0, r1, r2, r3, r4, r5, r6]) rfl ⟨rfl, ?_⟩
    exact set7 hb5 _ _ _ _ _ _ _
end

section
open Go.RowKit
set_option linter.unusedVariables false
set_option linter.unusedSimpArgs false
theorem cell_blk {w w' : World} {b o : Nat} (h : w'.heap[b]? = w.heap[b]?) : w'.cell? ⟨b, o, none⟩ = w.cell? ⟨b, o, none⟩ := by simp only [World.cell?, h]
structure Rdr (w : World) (B p b n cap : Nat) (ts : List Tk) (e : Int) (E j : Nat) : Prop where
  blk : Blk w p [.slice (some ⟨b, 0, none⟩) n cap, .int .i64 j, .int .i64 e] 58
  row : TkRow w b n ts
  lb : b < B
  lp : B ≤ p
  hcap : n ≤ cap
  hcap2 : cap ≤ 9223372036854775807
  small : n ≤ 1000000
  le : j ≤ E
  big : E ≤ 9223372036854775807
  en : e ≤ n
  more : ∀ i, j ≤ i → i ≤ E → (((i : Int) < e ∧ kdA ts i ≠ 0) ↔ i < E)
theorem kd_len {ts : List Tk} {i : Nat} (h : kdA ts i ≠ 0) : i < ts.length := by
  rcases Nat.lt_or_ge i ts.length with h1 | h1
  · exact h1
  · exact absurd (kdA_ge h1) h
theorem Rdr.lt {w : World} {B p b n cap : Nat} {ts : List Tk} {e : Int} {E j i : Nat} (h : Rdr w B p b n cap ts e E j) (hi : j ≤ i) (hE : i < E) : i < n ∧ (i : Int) < e ∧ kdA ts i ≠ 0 := by
  have h1 := (h.more i hi (by omega)).2 hE
  have h2 := kd_len h1.2
  rw [h.row.len] at h2
  exact ⟨h2, h1⟩
theorem Rdr.later {w w' : World} {B p b n cap : Nat} {ts : List Tk} {e : Int} {E j : Nat} (h : Rdr w B p b n cap ts e E j) (hb : Below w.heap.size w w') : Rdr w' B p b n cap ts e E j :=
  { h with blk := h.blk.later hb h.blk.lt, row := h.row.later hb h.row.lt }
theorem Rdr.grown {w w' : World} {B p b n cap : Nat} {ts : List Tk} {e : Int} {E j : Nat} {row : Option Nat} (h : Rdr w B p b n cap ts e E j) (hg : w.grownBy w' row) (h1 : row ≠ some p) (h2 : row ≠ some b) : Rdr w' B p b n cap ts e E j :=
  { h with blk := h.blk.kept hg h1, row := h.row.of (Nat.lt_of_lt_of_le h.row.lt hg.size) (fun o => cell_blk (hg.block b h.row.lt (fun e => h2 e.symm))) }
theorem Rdr.drewN {w : World} {B p b n cap : Nat} {ts : List Tk} {e : Int} {E j : Nat} (h : Rdr w B p b n cap ts e E j) (q : Nat) : Rdr (w.drewN q) B p b n cap ts e E j :=
  { h with blk := h.blk, row := h.row.of h.row.lt (fun o => rfl) }
theorem Rdr.at_ {w : World} {B p b n cap : Nat} {ts : List Tk} {e : Int} {E j : Nat} (h : Rdr w B p b n cap ts e E j) (j' : Nat) (h1 : j ≤ j') (h2 : j' ≤ E) : Rdr (w.setCell ⟨p, 1, none⟩ (.int .i64 j')) B p b n cap ts e E j' :=
  { h with
    blk := h.blk.setCell 1 (.int .i64 j')
    row := h.row.set (Nat.lt_of_lt_of_le h.lb h.lp)
    le := h2
    more := fun i hi hE => h.more i (by omega) hE }
def Quiet (v : Value) (w : World) (e : Ending) (w' : World) : Prop := e = .returned v ∧ ∃ q, w' = w.drewN q
set_option maxRecDepth 100000 in
set_option maxHeartbeats 4000000 in
theorem bmore_any {w : World} {B p b n cap : Nat} {ts : List Tk} {e : Int} {E j : Nat} (h : Rdr w B p b n cap ts e E j) :
    Calls Try.prog 35 #[.pointer (some ⟨p, 0, none⟩)] w (Quiet (.bool (decide (j < E))) w) := by
  have c0 := h.blk.cell 0 _ rfl
  have c1 := h.blk.cell 1 _ rfl
  have c2 := h.blk.cell 2 _ rfl
  have hm := h.more j (Nat.le_refl _) h.le
  have hcap := h.hcap
  have hcap2 := h.hcap2
  have hsm := h.small
  have hle := h.le
  have hen := h.en
  have hbig := h.big
  by_cases hjE : j < E
  · rw [decide_eq_true hjE]
    obtain ⟨hn, he, hk⟩ := h.lt (Nat.le_refl _) hjE
    have hn' : (j : Int) < (n : Int) := by omega
    have ck := h.row.kd j hn
    have nk : (kdA ts j != 0) = true := bne_iff_ne.2 hk
    clear hm hk h hen
    generalize kdA ts j = q at *
    go_enter Try.func35, Try.ntmps35
    go_wp2_with fail
    go_quiet (fail)
    go_wp2
    go_ret
    exact ⟨rfl, _, rfl⟩
  · rw [decide_eq_false hjE]
    by_cases he : (j : Int) < e
    · have hk : kdA ts j = 0 := Classical.byContradiction fun hk => hjE (hm.1 ⟨he, hk⟩)
      have hn : j < n := by omega
      have hn' : (j : Int) < (n : Int) := by omega
      have ck := h.row.kd j hn
      rw [hk] at ck
      clear hm hk h hen
      go_enter Try.func35, Try.ntmps35
      go_wp2_with fail
      go_quiet (fail)
      go_wp2
      go_ret
      exact ⟨rfl, _, rfl⟩
    · have hd : decide ((j : Int) < e) = false := decide_eq_false he
      clear hm h hen
      go_enter Try.func35, Try.ntmps35
      go_wp2_with fail
      go_quiet (fail)
      go_wp2
      go_ret
      exact ⟨rfl, _, rfl⟩
def findF (q : Int) : List Int → Int → Int
  | [], _ => -1
  | k :: ks, i => if q = k then i else findF q ks (i + 1)
theorem findF_mem (q : Int) : ∀ (ks : List Int) (i : Int), 0 ≤ i → (decide (0 ≤ findF q ks i)) = ks.contains q
  | [], i, h => by simp [findF]
  | k :: ks, i, h => by
    rw [findF]
    by_cases hk : q = k
    · rw [if_pos hk, hk, decide_eq_true h]; simp
    · rw [if_neg hk, findF_mem q ks (i + 1) (by omega)]
      simp [hk]
set_option maxRecDepth 100000 in
set_option maxHeartbeats 1000000 in
theorem bindex_any (a : Option Addr) (n cap : Nat) (ks : List Int) (q : Int) (w : World) (hn : ks.length = n) (hr : Reads w .i64 a cap ks) :
    Calls Try.prog 64 #[.slice a n cap, .int .i64 q] w (Tells (.int .i64 (findF q ks 0)) w) := by
  have hm : n ≤ 9223372036854775807 := by have := hr.1; have := hr.2.1; unfold maxLen at this; omega
  have HR := Lib.hid hr
  have HN := Lib.hid hn
  obtain ⟨F, hF⟩ : ∃ F, findF q ks 0 = F := ⟨_, rfl⟩
  have HF := Lib.hid hF
  rw [hF]
  clear hF hr hn
  go_enter Try.func64, Try.ntmps64
  go_wp2
  go_loop [5, 8] (fun _ i => ∃ k : Nat, k ≤ n ∧ i = .int .i64 k ∧ Hid (findF q (ks.drop k) k = F)) (fun _ i => n - (intOf i).toNat)
  case atStart => exact ⟨0, by omega, rfl, HF⟩
  case round =>
    obtain ⟨k, hk, rfl, hf⟩ := hrel
    clear HF
    by_cases hlt : k < n
    · have hkl : k < ks.length := by rw [HN.out]; exact hlt
      obtain ⟨b, off, rfl, hat⟩ : ∃ b off, a = some ⟨b, off, none⟩ ∧ At w .i64 b off ks := by
        rcases HR.out.2.2 with h | h
        · rw [h] at hkl; simp at hkl
        · exact h
      have hc := hat.2 k hkl
      have hkI2 : (k : Int) < (n : Int) := by omega
      have hf2 := hf.out
      rw [List.drop_eq_getElem_cons hkl, findF] at hf2
      rw [List.getElem?_eq_getElem hkl, Option.getD_some] at hc
      have HF2 := Lib.hid hf2
      clear hf2 hf hat
      generalize ks[k]'hkl = x at *
      by_cases hqx : q = x
      · subst hqx
        obtain rfl : (k : Int) = F := by rw [← HF2.out, if_pos rfl]
        have n1 : (q == q) = true := beq_self_eq_true q
        go_wp2
        go_ret
        exact ⟨rfl, rfl⟩
      · have HF3 : Hid (findF q (ks.drop (k + 1)) ((k + 1 : Nat) : Int) = F) := Lib.hid (by rw [← HF2.out, if_neg hqx]; rfl)
        have n1 : (q == x) = false := beq_eq_false_iff_ne.2 hqx
        clear HF2
        go_wp2
        go_round
        case rel => exact ⟨k + 1, by omega, by go_num, HF3⟩
        case measure => simp [intOf]; omega
    · obtain rfl : k = n := by omega
      obtain rfl : (-1 : Int) = F := by have := hf.out; rw [← HN.out, List.drop_length] at this; exact this
      clear hf
      go_wp2
      go_ret
      exact ⟨rfl, rfl⟩
set_option maxRecDepth 100000 in
theorem bcontains_any (a : Option Addr) (n cap : Nat) (ks : List Int) (q : Int) (w : World) (hn : ks.length = n) (hr : Reads w .i64 a cap ks) :
    Calls Try.prog 39 #[.slice a n cap, .int .i64 q] w (Tells (.bool (ks.contains q)) w) := by
  have hi := bindex_any a n cap ks q w hn hr
  have hf := findF_mem q ks 0 (by omega)
  rw [← hf]
  generalize findF q ks 0 = F at *
  have HF := Lib.hid hf
  clear hf hn hr HF
  cases hd : decide (0 ≤ F) with
  | true =>
    have h0 : 0 ≤ F := of_decide_eq_true hd
    clear hd
    go_enter Try.func39, Try.ntmps39
    go_wp2_with fail
    refine hi.mono ?_
    rintro e wq ⟨rfl, hwq⟩; replace hwq := hwq.symm; subst hwq
    go_wp2
    go_ret
    exact ⟨rfl, rfl⟩
  | false =>
    have h0 : F < 0 := by have := of_decide_eq_false hd; omega
    go_enter Try.func39, Try.ntmps39
    go_wp2_with fail
    refine hi.mono ?_
    rintro e wq ⟨rfl, hwq⟩; replace hwq := hwq.symm; subst hwq
    go_wp2
    go_ret
    exact ⟨rfl, rfl⟩
end

section
open Go.RowKit
set_option linter.unusedVariables false
set_option linter.unusedSimpArgs false
theorem Reads.grownP {w w' : World} {k : IntKind} {a : Option Addr} {cap p : Nat} {zs : List Int} (h : Reads w k a cap zs) (hg : w.grownBy w' (some p)) (hne : ∀ b off, a = some ⟨b, off, none⟩ → b ≠ p) : Reads w' k a cap zs := by
  obtain ⟨h1, h2, h3 | ⟨b, off, rfl, hat⟩⟩ := h
  · exact ⟨h1, h2, .inl h3⟩
  · refine ⟨h1, h2, .inr ⟨b, off, rfl, Nat.lt_of_lt_of_le hat.1 hg.size, fun j hj => ?_⟩⟩
    exact (cell_blk (hg.block b hat.1 (fun e => hne b off rfl (Option.some.inj e)))).trans (hat.2 j hj)
theorem Reads.drewN {w : World} {k : IntKind} {a : Option Addr} {cap : Nat} {zs : List Int} (h : Reads w k a cap zs) (q : Nat) : Reads (w.drewN q) k a cap zs := h
def isB2 (ts : List Tk) (E j : Nat) (ks : List Int) : Bool := decide (j < E) && ks.contains (kdA ts j)
set_option maxRecDepth 100000 in
set_option maxHeartbeats 4000000 in
theorem bis_any {w : World} {B p b n cap : Nat} {ts : List Tk} {e : Int} {E j : Nat} (ak : Option Addr) (nk ck : Nat) (ks : List Int) (h : Rdr w B p b n cap ts e E j) (hk : ks.length = nk) (hr : Reads w .i64 ak ck ks) :
    Calls Try.prog 27 #[.pointer (some ⟨p, 0, none⟩), .slice ak nk ck] w (Quiet (.bool (isB2 ts E j ks)) w) := by
  have cM : ∀ q, Calls Try.prog 35 #[.pointer (some ⟨p, 0, none⟩)] (w.drewN q) (fun e w' => e = .returned (.bool (decide (j < E))) ∧ ∃ m, w' = (w.drewN q).drewN m) := fun q => bmore_any (h.drewN q)
  unfold isB2
  by_cases hjE : j < E
  · rw [decide_eq_true hjE] at cM ⊢
    rw [Bool.true_and]
    obtain ⟨hn, he, hkd⟩ := h.lt (Nat.le_refl _) hjE
    have hn' : (j : Int) < (n : Int) := by omega
    have ck0 := h.row.kd j hn
    have c0 := h.blk.cell 0 _ rfl
    have c1 := h.blk.cell 1 _ rfl
    have hcap := h.hcap
    have hcap2 := h.hcap2
    have hsm := h.small
    have cC : ∀ q, Calls Try.prog 39 #[.slice ak nk ck, .int .i64 (kdA ts j)] (w.drewN q) (fun e w' => e = .returned (.bool (ks.contains (kdA ts j))) ∧ w' = w.drewN q) := fun q => bcontains_any ak nk ck ks (kdA ts j) (w.drewN q) hk (hr.drewN q)
    clear hkd h hr hk
    generalize kdA ts j = q at *
    generalize ks.contains q = r at *
    go_enter Try.func27, Try.ntmps27
    go_wp2_with fail
    go_quiet ((first | (go_at_call 35; with_reducible exact Calls.quiet_of (cM _)) | (go_at_call 39; with_reducible exact Calls.quiet_of_same (cC _))))
    go_wp2
    go_ret
    exact ⟨rfl, _, rfl⟩
  · rw [decide_eq_false hjE] at cM ⊢
    rw [Bool.false_and]
    clear h hr hk
    go_enter Try.func27, Try.ntmps27
    go_wp2_with fail
    go_quiet ((go_at_call 35; with_reducible exact Calls.quiet_of (cM _)))
    go_wp2
    go_ret
    exact ⟨rfl, _, rfl⟩
def RdPost (v : Value) (B p b n cap : Nat) (ts : List Tk) (e : Int) (E j : Nat) (w : World) (en : Ending) (w' : World) : Prop := en = .returned v ∧ Rdr w' B p b n cap ts e E j ∧ w.grownBy w' (some p)
set_option maxRecDepth 100000 in
set_option maxHeartbeats 4000000 in
theorem btake_any {w : World} {B p b n cap : Nat} {ts : List Tk} {e : Int} {E j : Nat} (k : Int) (h : Rdr w B p b n cap ts e E j) :
    Calls Try.prog 41 #[.pointer (some ⟨p, 0, none⟩), .int .i64 k] w (RdPost (.bool (decide (j < E) && decide (kdA ts j = k))) B p b n cap ts e E (if j < E ∧ kdA ts j = k then j + 1 else j) w) := by
  have hb1 := (Below.refl w.heap.size w).alloc (Nat.le_refl _) (.cells #[.int .i64 k] 3)
  have hg1 := World.grownBy_alloc w (.cells #[.int .i64 k] 3) (some p)
  have B1 : Blk (w.alloc (.cells #[.int .i64 k] 3)) w.heap.size [.int .i64 k] 3 := Blk.alloc _ _
  have h1 := h.later hb1
  have hp := h.blk.lt
  have hr1 : Reads (w.alloc (.cells #[.int .i64 k] 3)) .i64 (some ⟨w.heap.size, 0, none⟩) 1 [k] := ⟨Nat.le_refl _, by unfold maxLen; omega, .inr ⟨w.heap.size, 0, rfl, by simp, fun j hj => by
    obtain rfl : j = 0 := by simpa using hj
    exact B1.cell 0 _ rfl⟩⟩
  have cI := bis_any (some ⟨w.heap.size, 0, none⟩) 1 1 [k] h1 rfl hr1
  have hib : isB2 ts E j [k] = (decide (j < E) && decide (kdA ts j = k)) := by
    unfold isB2
    congr 1
    simp
  rw [hib] at cI
  generalize hW : w.alloc (.cells #[.int .i64 k] 3) = w1 at *
  have HW := Lib.hid hW
  have H1 := Lib.hid h1
  have hle := h.le
  have hbig := h.big
  cases hd : (decide (j < E) && decide (kdA ts j = k)) with
  | true =>
    rw [Bool.and_eq_true, decide_eq_true_iff, decide_eq_true_iff] at hd
    obtain ⟨hjE, hkd⟩ := hd
    rw [if_pos ⟨hjE, hkd⟩]
    rw [decide_eq_true hjE, decide_eq_true hkd] at cI
    have hn := (h1.lt (Nat.le_refl _) hjE).1
    have hsm := h.small
    clear hkd h h1 hr1 hib B1 hW
    go_enter Try.func41, Try.ntmps41
    go_wp2_with fail
    rw [HW.out]
    refine cI.mono ?_
    rintro e2 w2 ⟨rfl, q, rfl⟩
    have h2 := H1.out.drewN q
    have c0 := h2.blk.cell 0 _ rfl
    have c1 := h2.blk.cell 1 _ rfl
    have f1 := h2.blk.frozen 1
    have h3 := h2.at_ (j + 1) (by omega) (by omega)
    have hg3 := grown_trans (grown_drewN hg1 q) (grown_setCell _ p 1 (.int .i64 ((j + 1 : Nat) : Int)))
    have H3 := Lib.hid h3
    have HG3 := Lib.hid hg3
    clear h2 h3 hg3 hg1 hb1 cI HW
    go_wp2
    go_ret
    exact ⟨rfl, H3.out, HG3.out⟩
  | false =>
    have hng : ¬ (j < E ∧ kdA ts j = k) := fun hh => by rw [decide_eq_true hh.1, decide_eq_true hh.2] at hd; cases hd
    rw [if_neg hng]
    rw [hd] at cI
    clear h h1 hr1 hib B1 hW hd hng
    go_enter Try.func41, Try.ntmps41
    go_wp2_with fail
    rw [HW.out]
    refine cI.mono ?_
    rintro e2 w2 ⟨rfl, q, rfl⟩
    have h2 := H1.out.drewN q
    have hg3 := grown_drewN hg1 q
    clear HW cI
    go_wp2
    go_ret
    exact ⟨rfl, h2, hg3⟩
end
end Go.Proofs.Ytelbjnanpmdnnaa
