/- Texts of mine in one: R4. -/
import Derived.Test.YtcfhggdiccilaaaGreatQ22
namespace Go.Proofs.YtcfhggdiccilaaaGreat
section
open Go.RowKit
set_option maxRecDepth 100000 in
set_option maxHeartbeats 4000000 in
theorem rbehind_any {a : Option Addr} {n cap : Nat} {l : List Int} {w : World} (i : Int) (k : Nat) (h : Src w a n cap l) (hi : i = (k : Int)) (hk : k ≤ n) :
    Calls Tryz.prog 71 #[.slice a n cap, .int .i64 i] w (Tells (.int .i64 (behindF l k : Nat)) w) := by
  subst hi
  have hlen := h.len
  have hsm := h.small
  obtain ⟨hcap1, hcap2⟩ := h.cap
  generalize hR : behindF l k = R
  unfold behindF at hR
  rw [hlen] at hR
  have HR := Lib.hid hR; clear hR
  have HL := Lib.hid hlen; clear hlen
  have HP := Lib.hid h; clear h
  go_enter Tryz.func71, Tryz.ntmps71
  go_wp2_with fail
  go_loopw [1] (fun v wr => ∃ (f j : Nat), v = .int .i64 j ∧ Hid (behindGo f l j = R) ∧ n < j + f ∧ j ≤ n ∧ wr = w) (fun v _ => n - (intOf v).toNat)
  case atStart => exact ⟨n + 1, k, rfl, HR, by omega, hk, rfl⟩
  case round =>
    obtain ⟨f, j, rfl, hG, hf, hj, rfl⟩ := hrel
    have f0 := ris_any (j : Int) j 47 HP.out rfl (by decide)
    have f1 := ris_any ((j : Int) + 1) (j + 1) 42 HP.out (by omega) (by decide)
    rcases ho : openB l j with _ | _
    · have hE : R = j := by rw [← hG.out]; exact behindGo_stop f ho
      have ho' : (isB l j 47 && isB l (j + 1) 42) = false := ho
      clear hG ho HR
      generalize isB l j 47 = r0 at *
      generalize isB l (j + 1) 42 = r1 at *
      cases r0 <;> cases r1
      all_goals first | (exact absurd ho' (by decide)) | skip
      all_goals
        clear ho'
        go_wp2_with ((first | (go_at_call 77; with_reducible refine f0.mono ?_) | (go_at_call 77; with_reducible refine f1.mono ?_)); rintro e w1 ⟨rfl, hw1⟩; replace hw1 := hw1.symm; subst hw1)
        go_ret
        exact ⟨by rw [hE]; rfl, rfl⟩
    · have h2 : isB l j 47 = true ∧ isB l (j + 1) 42 = true := by unfold openB at ho; simpa using ho
      have hj2 : j + 2 ≤ n := by have := lt_of_isB h2.2 (by decide); rw [HL.out] at this; omega
      obtain ⟨g, rfl⟩ : ∃ g, f = g + 1 := ⟨f - 1, by omega⟩
      have hG2 : Hid (behindGo g l (skipGo (n + 1) l (j + 2)) = R) := Lib.hid (by rw [← hG.out]; conv => rhs; rw [behindGo, if_pos ho, HL.out])
      rw [h2.1] at f0
      rw [h2.2] at f1
      clear hG ho h2 HR
      generalize hS : skipGo (n + 1) l (j + 2) = S at *
      have HS := Lib.hid hS; clear hS
      go_wp2_with ((first | (go_at_call 77; with_reducible refine f0.mono ?_) | (go_at_call 77; with_reducible refine f1.mono ?_)); rintro e w1 ⟨rfl, hw1⟩; replace hw1 := hw1.symm; subst hw1)
      clear f0 f1
      go_loopw [1] (fun v wx => ∃ (f j' : Nat), v = .int .i64 j' ∧ Hid (skipGo f l j' = S) ∧ n < j' + f ∧ j' ≤ n ∧ j + 2 ≤ j' ∧ wx = wr) (fun v _ => n - (intOf v).toNat)
      case atStart => exact ⟨n + 1, j + 2, by go_num, HS, by omega, hj2, by omega, by first | rfl | trivial⟩
      case round =>
        obtain ⟨f, i, rfl, hK, hf2, hi, hji, rfl⟩ := hrel
        obtain ⟨f, rfl⟩ : ∃ g, f = g + 1 := ⟨f - 1, by omega⟩
        have f0 := ris_any (i : Int) i 42 HP.out rfl (by decide)
        have f1 := ris_any ((i : Int) + 1) (i + 1) 47 HP.out (by omega) (by decide)
        by_cases hin : i < n
        · have hin' : (i : Int) < (n : Int) := by omega
          rcases hst : (isB l i 42 && isB l (i + 1) 47) with _ | _
          · have hK2 : Hid (skipGo f l (i + 1) = S) := Lib.hid (by rw [← hK.out]; conv => rhs; rw [skipGo, if_neg (by rw [HL.out]; omega), if_neg (by rw [hst]; decide)])
            clear hK hG2
            generalize isB l i 42 = r0 at *
            generalize isB l (i + 1) 47 = r1 at *
            cases r0 <;> cases r1
            all_goals first | (exact absurd hst (by decide)) | skip
            all_goals
              clear hst
              go_wp2_with ((first | (go_at_call 77; with_reducible refine f0.mono ?_) | (go_at_call 77; with_reducible refine f1.mono ?_)); rintro e w1 ⟨rfl, hw1⟩; replace hw1 := hw1.symm; subst hw1)
              go_roundw
              case rel => exact ⟨f, i + 1, by go_num, hK2, by omega, by omega, by omega, by first | rfl | trivial⟩
              case measure => simp [intOf]; omega
          · have hE : S = min (i + 2) n := by rw [← hK.out, skipGo, if_neg (by rw [HL.out]; omega), if_pos hst, HL.out]
            have h2 : isB l i 42 = true ∧ isB l (i + 1) 47 = true := by simpa using hst
            have hin2 : i + 2 ≤ n := by have := lt_of_isB h2.2 (by decide); rw [HL.out] at this; omega
            rw [h2.1] at f0
            rw [h2.2] at f1
            clear hK hst h2
            have hSi : S = i + 2 := by omega
            subst hSi
            clear hE
            go_wp2_with ((first | (go_at_call 77; with_reducible refine f0.mono ?_) | (go_at_call 77; with_reducible refine f1.mono ?_)); rintro e w1 ⟨rfl, hw1⟩; replace hw1 := hw1.symm; subst hw1)
            go_roundw
            case rel => exact ⟨g, i + 2, by go_num, hG2, by omega, by omega, by first | rfl | trivial⟩
            case measure => simp [intOf]; omega
        · have hii : i = n := by omega
          subst hii
          have hE : S = i := by rw [← hK.out, skipGo, if_pos (by rw [HL.out]; omega), HL.out]; omega
          subst hE
          clear hK f0 f1
          go_wp2
          go_roundw
          case rel => exact ⟨g, S, by go_num, hG2, by omega, by omega, by first | rfl | trivial⟩
          case measure => simp [intOf]; omega
end
end Go.Proofs.YtcfhggdiccilaaaGreat
