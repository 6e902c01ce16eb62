/- Tokens, the program's side: escapes: walks over any characters. -/
import Derived.Test.YtdopmkiogmejaaaDoorTn3
namespace Go.Proofs.YtdopmkiogmejaaaDoor
open Go.RowKit Go.Shelf
set_option linter.unusedVariables false
set_option linter.unusedSimpArgs false

set_option maxRecDepth 100000 in
theorem hexC_any (c : Int) (w : World) (hc : Ch c) : Calls Tryd.prog 59 #[.int .i64 c] w (Tells (.tuple #[.int .i64 (if 0 ≤ hexV c then hexV c else 0), .bool (decide (0 ≤ hexV c))]) w) := by
  have c1 := fun w => small_any c w hc
  have c2 := fun w => digit_any c w hc
  obtain ⟨h0, h1⟩ := hc
  unfold hexV digitB at *
  rcases (show (48 ≤ c ∧ c ≤ 57) ∨ (¬ (48 ≤ c ∧ c ≤ 57) ∧ (97 ≤ smallF c ∧ smallF c ≤ 102)) ∨ (¬ (48 ≤ c ∧ c ≤ 57) ∧ smallF c < 97) ∨ (¬ (48 ≤ c ∧ c ≤ 57) ∧ 97 ≤ smallF c ∧ ¬ smallF c ≤ 102) by omega) with h | ⟨h, h'⟩ | ⟨h, h'⟩ | ⟨h, h', h''⟩
  · rw [decide_eq_true h] at c2
    rw [if_pos h, if_pos (show (0 : Int) ≤ c - 48 by omega), decide_eq_true (show (0 : Int) ≤ c - 48 by omega)]
    generalize smallF c = s at *
    go_enter Tryd.func59, Tryd.ntmps59
    go_wp2_with (first | (go_at_call 64; refine (c1 _).mono ?_; rintro e w' ⟨rfl, rfl⟩) | (go_at_call 51; refine (c2 _).mono ?_; rintro e w' ⟨rfl, rfl⟩))
    go_ret2
    exact ⟨rfl, rfl⟩
  · have hb : smallF c < 1114200 := by unfold smallF; split <;> omega
    rw [decide_eq_false h] at c2
    rw [if_neg h, if_pos h']
    generalize smallF c = s at *
    obtain ⟨q1, q2⟩ := h'
    rw [if_pos (show (0 : Int) ≤ s - 87 by omega), decide_eq_true (show (0 : Int) ≤ s - 87 by omega)]
    go_enter Tryd.func59, Tryd.ntmps59
    go_wp2_with (first | (go_at_call 64; refine (c1 _).mono ?_; rintro e w' ⟨rfl, rfl⟩) | (go_at_call 51; refine (c2 _).mono ?_; rintro e w' ⟨rfl, rfl⟩))
    go_ret2
    exact ⟨ret_ib (by omega) rfl, rfl⟩
  · have hb : -10 < smallF c := by unfold smallF; split <;> omega
    rw [decide_eq_false h] at c2
    rw [if_neg h, show (if 97 ≤ smallF c ∧ smallF c ≤ 102 then smallF c - 87 else (-1 : Int)) = -1 from if_neg (fun h => by omega), if_neg (by decide), decide_eq_false (by decide)]
    generalize smallF c = s at *
    have q1 : ¬ 97 ≤ s := by omega
    go_enter Tryd.func59, Tryd.ntmps59
    go_wp2_with (first | (go_at_call 64; refine (c1 _).mono ?_; rintro e w' ⟨rfl, rfl⟩) | (go_at_call 51; refine (c2 _).mono ?_; rintro e w' ⟨rfl, rfl⟩))
    go_ret2
    exact ⟨rfl, rfl⟩
  · have hb : smallF c < 1114200 := by unfold smallF; split <;> omega
    rw [decide_eq_false h] at c2
    rw [if_neg h, show (if 97 ≤ smallF c ∧ smallF c ≤ 102 then smallF c - 87 else (-1 : Int)) = -1 from if_neg (fun h => by omega), if_neg (by decide), decide_eq_false (by decide)]
    generalize smallF c = s at *
    go_enter Tryd.func59, Tryd.ntmps59
    go_wp2_with (first | (go_at_call 64; refine (c1 _).mono ?_; rintro e w' ⟨rfl, rfl⟩) | (go_at_call 51; refine (c2 _).mono ?_; rintro e w' ⟨rfl, rfl⟩))
    go_ret2
    exact ⟨rfl, rfl⟩

/-- What the program takes an escape for: 0 where it ends, and no stand-in yet. -/
def valC (l : List Int) (j : Nat) : Int × Nat :=
  if (hexGo 6 l (j + 1) 0).2 = j + 1 then (if l.length ≤ j + 1 then (0, j + 1) else (chA l (j + 1), j + 2))
  else ((hexGo 6 l (j + 1) 0).1, if spB l (hexGo 6 l (j + 1) 0).2 then (hexGo 6 l (j + 1) 0).2 + 1 else (hexGo 6 l (j + 1) 0).2)
theorem cleanF_clean (c : Int) : cleanF (cleanF c) = cleanF c := by
  unfold cleanF
  by_cases h : c = 0
  · rw [if_pos h]; decide
  · rw [if_neg h]
    have h1 : charOf (charOf c) = charOf c := by
      have := charOf_right c
      generalize charOf c = d at *
      unfold charOf
      rw [if_pos this]
    have h2 : charOf c ≠ 0 := by
      unfold charOf
      split
      · exact h
      · decide
    rw [if_neg h2, h1]
theorem valC_value {l : List Int} {j : Nat} (hl : Pre l) : (valC l j).2 = (valueF l j).2 ∧ cleanF (valC l j).1 = cleanF (valueF l j).1 := by
  unfold valC valueF
  by_cases h1 : l.length ≤ j + 1
  · have hx : hxB l (j + 1) = false := by
      rcases h : hxB l (j + 1) with _ | _
      · rfl
      · have := lt_of_hxB h; omega
    have hs : hexGo 6 l (j + 1) 0 = (0, j + 1) := hexGo_stop 6 (.inr hx)
    rw [hs, if_pos rfl, if_pos h1, if_pos h1]
    refine ⟨rfl, ?_⟩
    show cleanF 0 = cleanF 65533
    decide
  · rw [if_neg h1, if_neg h1]
    by_cases h2 : (hexGo 6 l (j + 1) 0).2 = j + 1
    · rw [if_pos h2, if_pos h2]; exact ⟨rfl, rfl⟩
    · rw [if_neg h2, if_neg h2]; exact ⟨rfl, (cleanF_clean _).symm⟩
theorem hex_lt {m d : Int} {p : Nat} (h0 : 0 ≤ m) (h : m < 16 ^ p) (hd0 : 0 ≤ d) (hd : d ≤ 15) : 0 ≤ 16 * m + d ∧ 16 * m + d < 16 ^ (p + 1) := by
  rw [Int.pow_succ]; omega
theorem hex_lt6 {m : Int} {p : Nat} (h : m < 16 ^ p) (hp : p ≤ 6) : m < 16777216 := by
  have : p = 0 ∨ p = 1 ∨ p = 2 ∨ p = 3 ∨ p = 4 ∨ p = 5 ∨ p = 6 := by omega
  rcases this with rfl | rfl | rfl | rfl | rfl | rfl | rfl <;> omega
theorem hexV_bdC (c : Int) : hexV c ≤ 15 := by
  unfold hexV
  split
  · omega
  · split <;> omega
theorem ret_ii {k k' : IntKind} {a b c d : Int} (h : a = b) (h2 : c = d) : Ending.returned (.tuple #[.int k a, .int k' c]) = .returned (.tuple #[.int k b, .int k' d]) := by rw [h, h2]

set_option maxRecDepth 100000 in
set_option maxHeartbeats 1000000 in
theorem readEscape_any {a : Option Addr} {n cap : Nat} {l : List Int} {w : World} (i : Int) (k : Nat) (h : Src w a n cap l) (hi : i = (k : Int)) (hk : k < n) :
    Calls Tryd.prog 48 #[.slice a n cap, .int .i64 i] w (Tells (.tuple #[.int .i64 (valC l k).1, .int .i64 ((valC l k).2 : Nat)]) w) := by
  subst hi
  have hsm := h.small
  generalize hV : valC l k = V
  unfold valC at hV
  generalize hH : hexGo 6 l (k + 1) 0 = HX at hV
  have HV := Lib.hid hV
  have HH := Lib.hid hH
  have H := Lib.hid h
  have HL := Lib.hid h.len
  clear hV hH h
  go_enter Tryd.func48, Tryd.ntmps48
  go_wp2_with fail
  go_loopw [4, 5, 7, 8] (fun cv tv _ _ wr => ∃ (T : Nat) (m : Int), cv = .int .i64 m ∧ tv = .int .i64 T ∧ k + 1 ≤ T ∧ T ≤ k + 7 ∧ T ≤ n ∧ Hid (hexGo (k + 7 - T) l T m = HX) ∧ Hid (0 ≤ m ∧ m < 16 ^ (T - (k + 1))) ∧ wr = w) (fun _ tv _ _ _ => n - (intOf tv).toNat)
  case atStart => exact ⟨k + 1, 0, rfl, by go_num, by omega, by omega, by omega, Lib.hid (by rw [show k + 7 - (k + 1) = 6 by omega]; exact HH.out), Lib.hid (by rw [Nat.sub_self]; decide), by first | rfl | trivial⟩
  case round =>
    obtain ⟨T, m, rfl, rfl, hT1, hT7, hTn, hG, hM, rfl⟩ := hrel
    have hm0 := hM.out.1
    have hm1 := hex_lt6 hM.out.2 (by omega)
    have cS := isSp_any (T : Int) T H.out rfl
    by_cases hA : T < n
    · have hA' : (T : Int) < (n : Int) := by omega
      obtain ⟨b, off, rfl, hcell⟩ := H.out.cell T hA
      by_cases hB : T < k + 7
      · have hB' : (T : Int) < (k : Int) + 1 + 6 := by omega
        have hB2 : (T : Int) < (k : Int) + 7 := by omega
        have cH := fun w => hexC_any (chA l T) w (chA_ch H.out.pre T)
        obtain ⟨f, hf⟩ : ∃ f, k + 7 - T = f + 1 := ⟨k + 6 - T, by omega⟩
        rcases hx : hxB l T with _ | _
        · have hGG := hG.out
          rw [hexGo_stop _ (.inr hx)] at hGG
          have hx' := hx
          unfold hxB at hx'
          rw [hx', if_neg (of_decide_eq_false hx')] at cH
          have HVV := HV.out
          rw [← hGG] at HVV
          have HVV := Lib.hid HVV
          clear hGG hx hx' hG hM
          generalize hz : chA l T = z at *
          have HZ := Lib.hid hz
          clear hz
          rcases hs : spB l T with _ | _
          all_goals
            rw [hs] at cS
            have HSP := Lib.hid hs
            clear hs
            by_cases h0 : T = k + 1
            · have hg : ¬ (T : Int) > (k : Int) + 1 := by omega
              have hne : ((T : Int) == (n : Int)) = false := beq_eq_false_iff_ne.2 (by omega)
              have HF := Lib.hid h0
              clear h0
              go_wp2_with (first
                | (go_at_call 59; refine (cH _).mono ?_; rintro e w' ⟨rfl, rfl⟩)
                | (go_at_call 46; refine cS.mono ?_; rintro e w' ⟨rfl, rfl⟩))
              go_ret2
              have HV2 := HVV.out
              rw [if_pos HF.out, if_neg (by rw [HL.out]; omega)] at HV2
              exact ⟨by rw [← HV2]; exact ret_ii (by have := HZ.out; rw [HF.out] at this; exact this.symm) (by have := HF.out; show (_ : Int) = ((k + 2 : Nat) : Int); omega), rfl⟩
            · have hg : (T : Int) > (k : Int) + 1 := by omega
              have HF := Lib.hid h0
              clear h0
              go_wp2_with (first
                | (go_at_call 59; refine (cH _).mono ?_; rintro e w' ⟨rfl, rfl⟩)
                | (go_at_call 46; refine cS.mono ?_; rintro e w' ⟨rfl, rfl⟩))
              go_ret2
              have HV2 := HVV.out
              rw [if_neg HF.out] at HV2
              simp only [HSP.out, if_true, Bool.false_eq_true, if_false] at HV2
              exact ⟨by rw [← HV2]; exact ret_ii rfl (by simp), rfl⟩
        · have hGG := hG.out
          rw [hf, hexGo, if_pos hx] at hGG
          have hx' := hx
          unfold hxB at hx'
          rw [hx', if_pos (of_decide_eq_true hx')] at cH
          have hd0 := of_decide_eq_true hx'
          have hd1 := hexV_bdC (chA l T)
          have hmm := hex_lt (p := T - (k + 1)) hM.out.1 hM.out.2 hd0 hd1
          rw [show T - (k + 1) + 1 = T + 1 - (k + 1) by omega] at hmm
          have HMM := Lib.hid hmm
          have HGG := Lib.hid (show hexGo (k + 7 - (T + 1)) l (T + 1) (16 * m + hexV (chA l T)) = HX from by rw [show k + 7 - (T + 1) = f by omega]; exact hGG)
          clear hGG hx hx' hmm hG hM cS hf
          generalize hexV (chA l T) = d at *
          generalize chA l T = z at *
          go_wp2_with (go_at_call 59; refine (cH _).mono ?_; rintro e w' ⟨rfl, rfl⟩)
          go_roundw
          case rel => exact ⟨T + 1, 16 * m + d, by go_num, by go_num, by omega, by omega, by omega, HGG, HMM, by first | rfl | trivial⟩
          case measure => simp [intOf]; omega
      · have hB' : ¬ (T : Int) < (k : Int) + 1 + 6 := by omega
        have hB2 : ¬ (T : Int) < (k : Int) + 7 := by omega
        have hGG := hG.out
        rw [show k + 7 - T = 0 by omega, hexGo] at hGG
        have HVV := HV.out
        rw [← hGG] at HVV
        have HVV := Lib.hid HVV
        clear hGG hG hM hcell
        have hg : (T : Int) > (k : Int) + 1 := by omega
        have h0 : T ≠ k + 1 := by omega
        rcases hs : spB l T with _ | _
        all_goals
          rw [hs] at cS
          have HSP := Lib.hid hs
          have HF := Lib.hid h0
          clear hs h0
          go_wp2_with (go_at_call 46; refine cS.mono ?_; rintro e w' ⟨rfl, rfl⟩)
          go_ret2
          have HV2 := HVV.out
          rw [if_neg HF.out] at HV2
          simp only [HSP.out, if_true, Bool.false_eq_true, if_false] at HV2
          exact ⟨by rw [← HV2]; exact ret_ii rfl (by simp), rfl⟩
    · have hA' : ¬ (T : Int) < (n : Int) := by omega
      obtain rfl : T = n := by omega
      have hx : hxB l T = false := by
        rcases h : hxB l T with _ | _
        · rfl
        · have := lt_of_hxB h; rw [HL.out] at this; omega
      have hs : spB l T = false := by
        rcases h : spB l T with _ | _
        · rfl
        · have := lt_of_spB h; rw [HL.out] at this; omega
      rw [hs] at cS
      have hGG := hG.out
      rw [hexGo_stop _ (.inr hx)] at hGG
      have HVV := HV.out
      rw [← hGG] at HVV
      have HVV := Lib.hid HVV
      have HSP := Lib.hid hs
      clear hGG hG hx hs
      by_cases h0 : T = k + 1
      · have hg : ¬ (T : Int) > (k : Int) + 1 := by omega
        have hm : m = 0 := by
          have := hM.out.2
          rw [h0, Nat.sub_self] at this
          have e : (16 : Int) ^ 0 = 1 := rfl
          omega
        have hne : ((T : Int) == (T : Int)) = true := beq_self_eq_true _
        have HF := Lib.hid h0
        have HM := Lib.hid hm
        clear h0 hM hm
        go_wp2
        go_ret2
        have HV2 := HVV.out
        rw [if_pos HF.out, if_pos (by rw [HL.out]; have := HF.out; omega)] at HV2
        exact ⟨by rw [← HV2]; exact ret_ii HM.out (by have := HF.out; show (_ : Int) = ((k + 1 : Nat) : Int); omega), rfl⟩
      · have hg : (T : Int) > (k : Int) + 1 := by omega
        have HF := Lib.hid h0
        clear h0 hM
        go_wp2_with (go_at_call 46; refine cS.mono ?_; rintro e w' ⟨rfl, rfl⟩)
        go_ret2
        have HV2 := HVV.out
        rw [if_neg HF.out] at HV2
        simp only [HSP.out, if_true, Bool.false_eq_true, if_false] at HV2
        exact ⟨by rw [← HV2]; exact ret_ii rfl (by simp), rfl⟩
end Go.Proofs.YtdopmkiogmejaaaDoor
