/- Texts of mine in one: Bl1 Bl2 Jn2 Jn3 Jn4. -/
import Derived.Test.YtelbjnanpmdnnaaQ50
import Derived.Test.YtelbjnanpmdnnaaQ35
import Derived.Test.YtelbjnanpmdnnaaQ15
import Derived.Laws.IdiomStrings
namespace Go.Proofs.Ytelbjnanpmdnnaa
section
open Go.RowKit
set_option linter.unusedVariables false
set_option linter.unusedSimpArgs false
theorem scan_stop {ts : List Tk} {p : Int → Bool} {E j : Nat} {c : Int} (hk : kdA ts j = c) (hp : p c = true) : scanF ts p E j = j := by
  rw [scanF_step, if_neg (by rw [hk, hp]; simp)]
theorem scan_next {ts : List Tk} {p : Int → Bool} {E j m : Nat} {c : Int} (h : j < E) (hk : kdA ts j = c) (hp : p c = false) (hc : closeOf c = 0) (hm : scanF ts p E (j + 1) = m) : scanF ts p E j = m := by
  rw [scanF_step, if_pos ⟨h, by rw [hk]; exact hp⟩, cvF_step ts E j h, hk, if_pos hc, hm]
theorem scan_block {ts : List Tk} {p : Int → Bool} {E j m r : Nat} {c d : Int} (h : j < E) (hk : kdA ts j = c) (hp : p c = false) (hc : closeOf c = d) (hd : d ≠ 0) (hin : scanF ts (isK d) E (j + 1) = m) (hm : m < E) (hout : scanF ts p E (m + 1) = r) : scanF ts p E j = r := by
  rw [scanF_step, if_pos ⟨h, by rw [hk]; exact hp⟩, cvF_step ts E j h, hk, hc, if_neg hd, show (fun k => decide (k = d)) = isK d from rfl, hin, Nat.min_eq_right (by omega), hout]
theorem qual_rule {ts : List Tk} {E j s f : Nat} {top : Bool} {c : Int} (hj : j < E) (hk : kdA ts j = c) (hg : gapB top c = false) (h3 : c ≠ 3) (hs : scanF ts (isK 23) E j = s) (hsE : s < E) (hf : scanF ts (isK 24) E (s + 1) = f) (hfE : f < E) :
    rulesF ts E top j = ⟨false, ⟨#[]⟩, j, s, true, s + 1, f⟩ :: rulesF ts E top (f + 1) := by
  rw [rulesF_step, if_pos hj, hk, if_neg (by rw [hg]; simp), if_neg h3, hs, if_pos hsE]
  unfold qualF blkF
  rw [hs, hf, Nat.min_eq_right (by omega)]
theorem at_block {ts : List Tk} {E j s f : Nat} {top : Bool} (hj : j < E) (hk : kdA ts j = 3) (hs : scanF ts (isK2 17 23) E (j + 1) = s) (hsE : s < E) (h23 : kdA ts s = 23) (hf : scanF ts (isK 24) E (s + 1) = f) (hfE : f < E) :
    rulesF ts E top j = ⟨true, lowS (txA ts j), j + 1, s, true, s + 1, f⟩ :: rulesF ts E top (f + 1) := by
  rw [rulesF_step, if_pos hj, hk, if_neg (by cases top <;> decide), if_pos rfl]
  unfold atruleF blkF
  rw [hs, if_pos hsE, if_pos h23, hf, Nat.min_eq_right (by omega)]
theorem at_semi {ts : List Tk} {E j s : Nat} {top : Bool} (hj : j < E) (hk : kdA ts j = 3) (hs : scanF ts (isK2 17 23) E (j + 1) = s) (hsE : s < E) (h17 : kdA ts s = 17) :
    rulesF ts E top j = ⟨true, lowS (txA ts j), j + 1, s, false, 0, 0⟩ :: rulesF ts E top (s + 1) := by
  rw [rulesF_step, if_pos hj, hk, if_neg (by cases top <;> decide), if_pos rfl]
  unfold atruleF
  rw [hs, if_pos hsE, if_neg (by rw [h17]; decide)]
theorem rp0_rule {ts : List Tk} {E q : Nat} {top : Bool} (hE : q + 3 ≤ E) (k0 : kdA ts (q + 0) = 1) (k1 : kdA ts (q + 1) = 23) (k2 : kdA ts (q + 2) = 24) :
    rulesF ts E top (q + 0) = ⟨false, ⟨#[]⟩, q + 0, q + 1, true, q + 2, q + 2⟩ :: rulesF ts E top (q + 3) := by
  have b0 : q + 0 < E := by omega
  have b1 : q + 1 < E := by omega
  have b2 : q + 2 < E := by omega
  have a0 : scanF ts (isK 23) E (q + 1) = q + 1 := scan_stop k1 (by decide)
  have a1 : scanF ts (isK 23) E (q + 0) = q + 1 := scan_next b0 k0 (by decide) (by decide) a0
  have a2 : scanF ts (isK 24) E (q + 2) = q + 2 := scan_stop k2 (by decide)
  exact qual_rule (s := q + 1) (f := q + 2) b0 k0 (by cases top <;> decide) (by decide) a1 b1 (show scanF ts (isK 24) E (q + 2) = q + 2 from a2) b2
theorem rp1_rule {ts : List Tk} {E q : Nat} {top : Bool} (hE : q + 12 ≤ E) (k0 : kdA ts (q + 0) = 1) (k1 : kdA ts (q + 1) = 23) (k2 : kdA ts (q + 2) = 1) (k3 : kdA ts (q + 3) = 16) (k4 : kdA ts (q + 4) = 10) (k5 : kdA ts (q + 5) = 17) (k6 : kdA ts (q + 6) = 1) (k7 : kdA ts (q + 7) = 16) (k8 : kdA ts (q + 8) = 23) (k9 : kdA ts (q + 9) = 1) (k10 : kdA ts (q + 10) = 24) (k11 : kdA ts (q + 11) = 24) :
    rulesF ts E top (q + 0) = ⟨false, ⟨#[]⟩, q + 0, q + 1, true, q + 2, q + 11⟩ :: rulesF ts E top (q + 12) := by
  have b0 : q + 0 < E := by omega
  have b1 : q + 1 < E := by omega
  have b2 : q + 2 < E := by omega
  have b3 : q + 3 < E := by omega
  have b4 : q + 4 < E := by omega
  have b5 : q + 5 < E := by omega
  have b6 : q + 6 < E := by omega
  have b7 : q + 7 < E := by omega
  have b8 : q + 8 < E := by omega
  have b9 : q + 9 < E := by omega
  have b10 : q + 10 < E := by omega
  have b11 : q + 11 < E := by omega
  have a0 : scanF ts (isK 23) E (q + 1) = q + 1 := scan_stop k1 (by decide)
  have a1 : scanF ts (isK 23) E (q + 0) = q + 1 := scan_next b0 k0 (by decide) (by decide) a0
  have a2 : scanF ts (isK 24) E (q + 10) = q + 10 := scan_stop k10 (by decide)
  have a3 : scanF ts (isK 24) E (q + 9) = q + 10 := scan_next b9 k9 (by decide) (by decide) a2
  have a4 : scanF ts (isK 24) E (q + 11) = q + 11 := scan_stop k11 (by decide)
  have a5 : scanF ts (isK 24) E (q + 8) = q + 11 := scan_block b8 k8 (by decide) (show closeOf 23 = 24 by decide) (by decide) a3 b10 a4
  have a6 : scanF ts (isK 24) E (q + 7) = q + 11 := scan_next b7 k7 (by decide) (by decide) a5
  have a7 : scanF ts (isK 24) E (q + 6) = q + 11 := scan_next b6 k6 (by decide) (by decide) a6
  have a8 : scanF ts (isK 24) E (q + 5) = q + 11 := scan_next b5 k5 (by decide) (by decide) a7
  have a9 : scanF ts (isK 24) E (q + 4) = q + 11 := scan_next b4 k4 (by decide) (by decide) a8
  have a10 : scanF ts (isK 24) E (q + 3) = q + 11 := scan_next b3 k3 (by decide) (by decide) a9
  have a11 : scanF ts (isK 24) E (q + 2) = q + 11 := scan_next b2 k2 (by decide) (by decide) a10
  exact qual_rule (s := q + 1) (f := q + 11) b0 k0 (by cases top <;> decide) (by decide) a1 b1 (show scanF ts (isK 24) E (q + 2) = q + 11 from a11) b11
theorem rp2_rule {ts : List Tk} {E q : Nat} {top : Bool} (hE : q + 6 ≤ E) (k0 : kdA ts (q + 0) = 3) (k1 : kdA ts (q + 1) = 23) (k2 : kdA ts (q + 2) = 1) (k3 : kdA ts (q + 3) = 23) (k4 : kdA ts (q + 4) = 24) (k5 : kdA ts (q + 5) = 24) :
    rulesF ts E top (q + 0) = ⟨true, lowS (txA ts (q + 0)), q + 1, q + 1, true, q + 2, q + 5⟩ :: rulesF ts E top (q + 6) := by
  have b0 : q + 0 < E := by omega
  have b1 : q + 1 < E := by omega
  have b2 : q + 2 < E := by omega
  have b3 : q + 3 < E := by omega
  have b4 : q + 4 < E := by omega
  have b5 : q + 5 < E := by omega
  have a0 : scanF ts (isK2 17 23) E (q + 1) = q + 1 := scan_stop k1 (by decide)
  have a1 : scanF ts (isK 24) E (q + 4) = q + 4 := scan_stop k4 (by decide)
  have a2 : scanF ts (isK 24) E (q + 5) = q + 5 := scan_stop k5 (by decide)
  have a3 : scanF ts (isK 24) E (q + 3) = q + 5 := scan_block b3 k3 (by decide) (show closeOf 23 = 24 by decide) (by decide) a1 b4 a2
  have a4 : scanF ts (isK 24) E (q + 2) = q + 5 := scan_next b2 k2 (by decide) (by decide) a3
  exact at_block (s := q + 1) (f := q + 5) b0 k0 a0 b1 k1 (show scanF ts (isK 24) E (q + 2) = q + 5 from a4) b5
theorem rp3_rule {ts : List Tk} {E q : Nat} {top : Bool} (hE : q + 4 ≤ E) (k0 : kdA ts (q + 0) = 3) (k1 : kdA ts (q + 1) = 13) (k2 : kdA ts (q + 2) = 1) (k3 : kdA ts (q + 3) = 17) :
    rulesF ts E top (q + 0) = ⟨true, lowS (txA ts (q + 0)), q + 1, q + 3, false, 0, 0⟩ :: rulesF ts E top (q + 4) := by
  have b0 : q + 0 < E := by omega
  have b1 : q + 1 < E := by omega
  have b2 : q + 2 < E := by omega
  have b3 : q + 3 < E := by omega
  have a0 : scanF ts (isK2 17 23) E (q + 3) = q + 3 := scan_stop k3 (by decide)
  have a1 : scanF ts (isK2 17 23) E (q + 2) = q + 3 := scan_next b2 k2 (by decide) (by decide) a0
  have a2 : scanF ts (isK2 17 23) E (q + 1) = q + 3 := scan_next b1 k1 (by decide) (by decide) a1
  exact at_semi (s := q + 3) b0 k0 a2 b3 k3
theorem rp4_rule {ts : List Tk} {E q : Nat} {top : Bool} (hE : q + 9 ≤ E) (k0 : kdA ts (q + 0) = 19) (k1 : kdA ts (q + 1) = 1) (k2 : kdA ts (q + 2) = 9) (k3 : kdA ts (q + 3) = 23) (k4 : kdA ts (q + 4) = 1) (k5 : kdA ts (q + 5) = 24) (k6 : kdA ts (q + 6) = 20) (k7 : kdA ts (q + 7) = 23) (k8 : kdA ts (q + 8) = 24) :
    rulesF ts E top (q + 0) = ⟨false, ⟨#[]⟩, q + 0, q + 7, true, q + 8, q + 8⟩ :: rulesF ts E top (q + 9) := by
  have b0 : q + 0 < E := by omega
  have b1 : q + 1 < E := by omega
  have b2 : q + 2 < E := by omega
  have b3 : q + 3 < E := by omega
  have b4 : q + 4 < E := by omega
  have b5 : q + 5 < E := by omega
  have b6 : q + 6 < E := by omega
  have b7 : q + 7 < E := by omega
  have b8 : q + 8 < E := by omega
  have a0 : scanF ts (isK 24) E (q + 5) = q + 5 := scan_stop k5 (by decide)
  have a1 : scanF ts (isK 24) E (q + 4) = q + 5 := scan_next b4 k4 (by decide) (by decide) a0
  have a2 : scanF ts (isK 20) E (q + 6) = q + 6 := scan_stop k6 (by decide)
  have a3 : scanF ts (isK 20) E (q + 3) = q + 6 := scan_block b3 k3 (by decide) (show closeOf 23 = 24 by decide) (by decide) a1 b5 a2
  have a4 : scanF ts (isK 20) E (q + 2) = q + 6 := scan_next b2 k2 (by decide) (by decide) a3
  have a5 : scanF ts (isK 20) E (q + 1) = q + 6 := scan_next b1 k1 (by decide) (by decide) a4
  have a6 : scanF ts (isK 23) E (q + 7) = q + 7 := scan_stop k7 (by decide)
  have a7 : scanF ts (isK 23) E (q + 0) = q + 7 := scan_block b0 k0 (by decide) (show closeOf 19 = 20 by decide) (by decide) a5 b6 a6
  have a8 : scanF ts (isK 24) E (q + 8) = q + 8 := scan_stop k8 (by decide)
  exact qual_rule (s := q + 7) (f := q + 8) b0 k0 (by cases top <;> decide) (by decide) a7 b7 (show scanF ts (isK 24) E (q + 8) = q + 8 from a8) b8
theorem rp5_rule {ts : List Tk} {E q : Nat} {top : Bool} (hE : q + 9 ≤ E) (k0 : kdA ts (q + 0) = 2) (k1 : kdA ts (q + 1) = 1) (k2 : kdA ts (q + 2) = 23) (k3 : kdA ts (q + 3) = 1) (k4 : kdA ts (q + 4) = 24) (k5 : kdA ts (q + 5) = 22) (k6 : kdA ts (q + 6) = 23) (k7 : kdA ts (q + 7) = 1) (k8 : kdA ts (q + 8) = 24) :
    rulesF ts E top (q + 0) = ⟨false, ⟨#[]⟩, q + 0, q + 6, true, q + 7, q + 8⟩ :: rulesF ts E top (q + 9) := by
  have b0 : q + 0 < E := by omega
  have b1 : q + 1 < E := by omega
  have b2 : q + 2 < E := by omega
  have b3 : q + 3 < E := by omega
  have b4 : q + 4 < E := by omega
  have b5 : q + 5 < E := by omega
  have b6 : q + 6 < E := by omega
  have b7 : q + 7 < E := by omega
  have b8 : q + 8 < E := by omega
  have a0 : scanF ts (isK 24) E (q + 4) = q + 4 := scan_stop k4 (by decide)
  have a1 : scanF ts (isK 24) E (q + 3) = q + 4 := scan_next b3 k3 (by decide) (by decide) a0
  have a2 : scanF ts (isK 22) E (q + 5) = q + 5 := scan_stop k5 (by decide)
  have a3 : scanF ts (isK 22) E (q + 2) = q + 5 := scan_block b2 k2 (by decide) (show closeOf 23 = 24 by decide) (by decide) a1 b4 a2
  have a4 : scanF ts (isK 22) E (q + 1) = q + 5 := scan_next b1 k1 (by decide) (by decide) a3
  have a5 : scanF ts (isK 23) E (q + 6) = q + 6 := scan_stop k6 (by decide)
  have a6 : scanF ts (isK 23) E (q + 0) = q + 6 := scan_block b0 k0 (by decide) (show closeOf 2 = 22 by decide) (by decide) a4 b5 a5
  have a7 : scanF ts (isK 24) E (q + 8) = q + 8 := scan_stop k8 (by decide)
  have a8 : scanF ts (isK 24) E (q + 7) = q + 8 := scan_next b7 k7 (by decide) (by decide) a7
  exact qual_rule (s := q + 6) (f := q + 8) b0 k0 (by cases top <;> decide) (by decide) a6 b6 (show scanF ts (isK 24) E (q + 7) = q + 8 from a8) b8
theorem rp6_rule {ts : List Tk} {E q : Nat} {top : Bool} (hE : q + 8 ≤ E) (k0 : kdA ts (q + 0) = 1) (k1 : kdA ts (q + 1) = 23) (k2 : kdA ts (q + 2) = 19) (k3 : kdA ts (q + 3) = 21) (k4 : kdA ts (q + 4) = 1) (k5 : kdA ts (q + 5) = 22) (k6 : kdA ts (q + 6) = 20) (k7 : kdA ts (q + 7) = 24) :
    rulesF ts E top (q + 0) = ⟨false, ⟨#[]⟩, q + 0, q + 1, true, q + 2, q + 7⟩ :: rulesF ts E top (q + 8) := by
  have b0 : q + 0 < E := by omega
  have b1 : q + 1 < E := by omega
  have b2 : q + 2 < E := by omega
  have b3 : q + 3 < E := by omega
  have b4 : q + 4 < E := by omega
  have b5 : q + 5 < E := by omega
  have b6 : q + 6 < E := by omega
  have b7 : q + 7 < E := by omega
  have a0 : scanF ts (isK 23) E (q + 1) = q + 1 := scan_stop k1 (by decide)
  have a1 : scanF ts (isK 23) E (q + 0) = q + 1 := scan_next b0 k0 (by decide) (by decide) a0
  have a2 : scanF ts (isK 22) E (q + 5) = q + 5 := scan_stop k5 (by decide)
  have a3 : scanF ts (isK 22) E (q + 4) = q + 5 := scan_next b4 k4 (by decide) (by decide) a2
  have a4 : scanF ts (isK 20) E (q + 6) = q + 6 := scan_stop k6 (by decide)
  have a5 : scanF ts (isK 20) E (q + 3) = q + 6 := scan_block b3 k3 (by decide) (show closeOf 21 = 22 by decide) (by decide) a3 b5 a4
  have a6 : scanF ts (isK 24) E (q + 7) = q + 7 := scan_stop k7 (by decide)
  have a7 : scanF ts (isK 24) E (q + 2) = q + 7 := scan_block b2 k2 (by decide) (show closeOf 19 = 20 by decide) (by decide) a5 b6 a6
  exact qual_rule (s := q + 1) (f := q + 7) b0 k0 (by cases top <;> decide) (by decide) a1 b1 (show scanF ts (isK 24) E (q + 2) = q + 7 from a7) b7
end

section
open Go.RowKit
set_option linter.unusedVariables false
set_option linter.unusedSimpArgs false
def rpB : Nat → List Int
  | 0 => [97, 123, 125]
  | 1 => [98, 123, 120, 58, 49, 59, 121, 58, 123, 122, 125, 125]
  | 2 => [64, 109, 123, 99, 123, 125, 125]
  | 3 => [64, 110, 32, 100, 59]
  | 4 => [91, 101, 61, 123, 102, 125, 93, 123, 125]
  | 5 => [103, 40, 104, 123, 105, 125, 41, 123, 106, 125]
  | _ => [107, 123, 91, 40, 108, 41, 93, 125]
def rpT : Nat → Nat → List Tk
  | 0, j => rp0T j
  | 1, j => rp1T j
  | 2, j => rp2T j
  | 3, j => rp3T j
  | 4, j => rp4T j
  | 5, j => rp5T j
  | _, j => rp6T j
def rpR : Nat → Nat → Rl
  | 0, q => ⟨false, ⟨#[]⟩, q + 0, q + 1, true, q + 2, q + 2⟩
  | 1, q => ⟨false, ⟨#[]⟩, q + 0, q + 1, true, q + 2, q + 11⟩
  | 2, q => ⟨true, lowS (strOfNums [109]), q + 1, q + 1, true, q + 2, q + 5⟩
  | 3, q => ⟨true, lowS (strOfNums [110]), q + 1, q + 3, false, 0, 0⟩
  | 4, q => ⟨false, ⟨#[]⟩, q + 0, q + 7, true, q + 8, q + 8⟩
  | 5, q => ⟨false, ⟨#[]⟩, q + 0, q + 6, true, q + 7, q + 8⟩
  | _, q => ⟨false, ⟨#[]⟩, q + 0, q + 1, true, q + 2, q + 7⟩
theorem len_dropX' {l A X : List Int} {j : Nat} (h : l.drop j = A ++ X) : j + A.length ≤ max j l.length := by
  have h2 : l.length - j = (A ++ X).length := by rw [← List.length_drop, h]
  rw [List.length_append] at h2
  omega
theorem rp_run (k : Nat) {l X : List Int} {ts : List Tk} {j : Nat} (h : l.drop j = rpB k ++ X) (hr : RunX l ts (j + (rpB k).length)) : RunX l (rpT k j ++ ts) j := by
  match k, h, hr with
  | 0, h, hr => exact rp0_run h hr
  | 1, h, hr => exact rp1_run h hr
  | 2, h, hr => exact rp2_run h hr
  | 3, h, hr => exact rp3_run h hr
  | 4, h, hr => exact rp4_run h hr
  | 5, h, hr => exact rp5_run h hr
  | k + 6, h, hr => exact rp6_run h hr
theorem rpT_len (k j : Nat) : (rpT k j).length = (rpT k 0).length := by
  match k with
  | 0 => rfl
  | 1 => rfl
  | 2 => rfl
  | 3 => rfl
  | 4 => rfl
  | 5 => rfl
  | k + 6 => rfl
theorem rpT_le (k : Nat) : (rpT k 0).length ≤ (rpB k).length := by
  match k with
  | 0 => decide
  | 1 => decide
  | 2 => decide
  | 3 => decide
  | 4 => decide
  | 5 => decide
  | k + 6 => exact (show (rpT 6 0).length ≤ (rpB 6).length by decide)
theorem rpB_plc (k : Nat) : ∀ c ∈ rpB k, PlC c := by
  unfold PlC
  match k with
  | 0 => decide
  | 1 => decide
  | 2 => decide
  | 3 => decide
  | 4 => decide
  | 5 => decide
  | k + 6 => exact (show ∀ c ∈ rpB 6, 1 ≤ c ∧ c < 127 ∧ c ≠ 12 ∧ c ≠ 13 by decide)
theorem kd_in {pre A post : List Tk} {i : Nat} (hi : i < A.length) : kdA (pre ++ A ++ post) (pre.length + i) = (A[i]?.map (·.kind)).getD 0 := by
  unfold kdA
  rw [List.append_assoc, List.getElem?_append_right (by omega), Nat.add_sub_cancel_left, List.getElem?_append_left hi]
theorem tx_in {pre A post : List Tk} {i : Nat} (hi : i < A.length) : txA (pre ++ A ++ post) (pre.length + i) = (A[i]?.map (fun t => strOfNums t.text)).getD ⟨#[]⟩ := by
  unfold txA
  rw [List.append_assoc, List.getElem?_append_right (by omega), Nat.add_sub_cancel_left, List.getElem?_append_left hi]
theorem rp_rule (k : Nat) {pre post : List Tk} {j E : Nat} {top : Bool} (hE : pre.length + (rpT k 0).length ≤ E) :
    rulesF (pre ++ rpT k j ++ post) E top pre.length = rpR k pre.length :: rulesF (pre ++ rpT k j ++ post) E top (pre.length + (rpT k 0).length) := by
  have hk := fun i (hi : i < (rpT k j).length) => kd_in (pre := pre) (post := post) hi
  have ht := fun i (hi : i < (rpT k j).length) => tx_in (pre := pre) (post := post) hi
  match k, hE, hk, ht with
  | 0, hE, hk, ht =>
    have h1 := rp0_rule (ts := pre ++ rpT 0 j ++ post) (q := pre.length) (top := top) (E := E) hE (hk 0 (show 0 < 3 by decide)) (hk 1 (show 1 < 3 by decide)) (hk 2 (show 2 < 3 by decide))
    exact h1
  | 1, hE, hk, ht =>
    have h1 := rp1_rule (ts := pre ++ rpT 1 j ++ post) (q := pre.length) (top := top) (E := E) hE (hk 0 (show 0 < 12 by decide)) (hk 1 (show 1 < 12 by decide)) (hk 2 (show 2 < 12 by decide)) (hk 3 (show 3 < 12 by decide)) (hk 4 (show 4 < 12 by decide)) (hk 5 (show 5 < 12 by decide)) (hk 6 (show 6 < 12 by decide)) (hk 7 (show 7 < 12 by decide)) (hk 8 (show 8 < 12 by decide)) (hk 9 (show 9 < 12 by decide)) (hk 10 (show 10 < 12 by decide)) (hk 11 (show 11 < 12 by decide))
    exact h1
  | 2, hE, hk, ht =>
    have h1 := rp2_rule (ts := pre ++ rpT 2 j ++ post) (q := pre.length) (top := top) (E := E) hE (hk 0 (show 0 < 6 by decide)) (hk 1 (show 1 < 6 by decide)) (hk 2 (show 2 < 6 by decide)) (hk 3 (show 3 < 6 by decide)) (hk 4 (show 4 < 6 by decide)) (hk 5 (show 5 < 6 by decide))
    rw [show txA (pre ++ rpT 2 j ++ post) (pre.length + 0) = _ from ht 0 (show 0 < 6 by decide)] at h1
    exact h1
  | 3, hE, hk, ht =>
    have h1 := rp3_rule (ts := pre ++ rpT 3 j ++ post) (q := pre.length) (top := top) (E := E) hE (hk 0 (show 0 < 4 by decide)) (hk 1 (show 1 < 4 by decide)) (hk 2 (show 2 < 4 by decide)) (hk 3 (show 3 < 4 by decide))
    rw [show txA (pre ++ rpT 3 j ++ post) (pre.length + 0) = _ from ht 0 (show 0 < 4 by decide)] at h1
    exact h1
  | 4, hE, hk, ht =>
    have h1 := rp4_rule (ts := pre ++ rpT 4 j ++ post) (q := pre.length) (top := top) (E := E) hE (hk 0 (show 0 < 9 by decide)) (hk 1 (show 1 < 9 by decide)) (hk 2 (show 2 < 9 by decide)) (hk 3 (show 3 < 9 by decide)) (hk 4 (show 4 < 9 by decide)) (hk 5 (show 5 < 9 by decide)) (hk 6 (show 6 < 9 by decide)) (hk 7 (show 7 < 9 by decide)) (hk 8 (show 8 < 9 by decide))
    exact h1
  | 5, hE, hk, ht =>
    have h1 := rp5_rule (ts := pre ++ rpT 5 j ++ post) (q := pre.length) (top := top) (E := E) hE (hk 0 (show 0 < 9 by decide)) (hk 1 (show 1 < 9 by decide)) (hk 2 (show 2 < 9 by decide)) (hk 3 (show 3 < 9 by decide)) (hk 4 (show 4 < 9 by decide)) (hk 5 (show 5 < 9 by decide)) (hk 6 (show 6 < 9 by decide)) (hk 7 (show 7 < 9 by decide)) (hk 8 (show 8 < 9 by decide))
    exact h1
  | k + 6, hE, hk, ht =>
    have h1 := rp6_rule (ts := pre ++ rpT (k + 6) j ++ post) (q := pre.length) (top := top) (E := E) hE (hk 0 (show 0 < 8 by decide)) (hk 1 (show 1 < 8 by decide)) (hk 2 (show 2 < 8 by decide)) (hk 3 (show 3 < 8 by decide)) (hk 4 (show 4 < 8 by decide)) (hk 5 (show 5 < 8 by decide)) (hk 6 (show 6 < 8 by decide)) (hk 7 (show 7 < 8 by decide))
    exact h1
def textP (es : List Nat) : List Int := es.flatMap rpB
def toksP : List Nat → Nat → List Tk
  | [], _ => []
  | k :: ks, j => rpT k j ++ toksP ks (j + (rpB k).length)
def cntP : List Nat → Nat
  | [] => 0
  | k :: ks => (rpT k 0).length + cntP ks
def rulesP : List Nat → Nat → List Rl
  | [], _ => []
  | k :: ks, q => rpR k q :: rulesP ks (q + (rpT k 0).length)
theorem toksP_len : ∀ (es : List Nat) (j : Nat), (toksP es j).length = cntP es
  | [], _ => rfl
  | k :: ks, j => by
    show (rpT k j ++ toksP ks _).length = _ + cntP ks
    rw [List.length_append, toksP_len ks, rpT_len]
theorem cntP_le : ∀ (es : List Nat), cntP es ≤ (textP es).length
  | [] => Nat.le_refl _
  | k :: ks => by
    have h1 := rpT_le k
    have h2 := cntP_le ks
    show _ + cntP ks ≤ (rpB k ++ textP ks).length
    rw [List.length_append]
    omega
theorem textP_plc : ∀ (es : List Nat), ∀ c ∈ textP es, PlC c
  | [], c, h => by cases h
  | k :: ks, c, h => by
    have h' : c ∈ rpB k ++ textP ks := h
    rcases List.mem_append.1 h' with h1 | h1
    · exact rpB_plc k c h1
    · exact textP_plc ks c h1
theorem textP_run {l : List Int} : ∀ (es : List Nat) (j : Nat), l.drop j = textP es → j ≤ l.length → RunX l (toksP es j) j
  | [], j, h, hj => by
    have h1 : l.length - j = 0 := by rw [← List.length_drop, h]; rfl
    show j = l.length
    omega
  | k :: ks, j, h, hj => by
    have h' : l.drop j = rpB k ++ textP ks := h
    have h2 := len_dropX' h'
    exact rp_run k h' (textP_run ks _ (drop_moreX h') (by omega))
theorem textP_toks (es : List Nat) : toksF (textP es) = toksP es 0 ++ [⟨0, (textP es).length, (textP es).length, [], [], false⟩] :=
  toks_run (textP_plc es) (textP_run es 0 rfl (Nat.zero_le _)) (by rw [toksP_len]; exact cntP_le es)
theorem run_kinds {l : List Int} : ∀ (ts : List Tk) (j : Nat), RunX l ts j → ∀ t ∈ ts, t.kind ≠ 0
  | [], _, _, t, h => by cases h
  | s :: ts, j, hr, t, h => by
    rcases List.mem_cons.1 h with rfl | h1
    · exact hr.2.2.2.1
    · exact run_kinds ts _ hr.2.2.2.2 t h1
theorem endF_all {ts : List Tk} {e n : Nat} (h : ∀ i, i < n → kdA ts i ≠ 0) (h0 : kdA ts n = 0) (hn : n ≤ e) : endF ts e 0 = n := by
  rcases Nat.lt_trichotomy (endF ts e 0) n with h5 | h5 | h5
  · exact absurd (endF_at ts e 0 (by omega)) (h _ h5)
  · exact h5
  · exact absurd h0 (endF_in ts e 0 n (Nat.zero_le _) h5).2
theorem rules_pieces (E : Nat) (top : Bool) : ∀ (es : List Nat) (pre post : List Tk) (j : Nat), pre.length + cntP es ≤ E →
    rulesF (pre ++ toksP es j ++ post) E top pre.length = rulesP es pre.length ++ rulesF (pre ++ toksP es j ++ post) E top (pre.length + cntP es)
  | [], pre, post, j, h => rfl
  | k :: ks, pre, post, j, h => by
    have h' : pre.length + ((rpT k 0).length + cntP ks) ≤ E := h
    have e1 : pre ++ toksP (k :: ks) j ++ post = pre ++ rpT k j ++ (toksP ks (j + (rpB k).length) ++ post) := by
      show pre ++ (rpT k j ++ toksP ks _) ++ post = _
      simp
    have e2 : pre ++ rpT k j ++ (toksP ks (j + (rpB k).length) ++ post) = (pre ++ rpT k j) ++ toksP ks (j + (rpB k).length) ++ post := by simp
    have h1 := rp_rule k (pre := pre) (post := toksP ks (j + (rpB k).length) ++ post) (j := j) (E := E) (top := top) (by omega)
    have h2 := rules_pieces E top ks (pre ++ rpT k j) post (j + (rpB k).length) (by rw [List.length_append, rpT_len]; omega)
    rw [List.length_append, rpT_len] at h2
    rw [e1, h1, e2, h2]
    show _ = (rpR k pre.length :: rulesP ks (pre.length + (rpT k 0).length)) ++ rulesF _ E top (pre.length + ((rpT k 0).length + cntP ks))
    rw [Nat.add_assoc]
    rfl
theorem textP_rules (es : List Nat) (top : Bool) (n : Nat) (hn : n = (toksF (textP es)).length) : rulesF (toksF (textP es)) (endF (toksF (textP es)) n 0) top 0 = rulesP es 0 := by
  subst hn
  have hlen := toksP_len es 0
  have hE : endF (toksF (textP es)) (toksF (textP es)).length 0 = cntP es := by
    refine endF_all (fun i hi => ?_) ?_ ?_
    · rw [textP_toks]
      unfold kdA
      rw [List.getElem?_append_left (by omega), List.getElem?_eq_getElem (by omega)]
      exact run_kinds _ _ (textP_run es 0 rfl (Nat.zero_le _)) _ (List.getElem_mem _)
    · rw [textP_toks]
      unfold kdA
      rw [List.getElem?_append_right (by omega), hlen, Nat.sub_self]
      rfl
    · rw [textP_toks, List.length_append]; omega
  rw [hE]
  have h1 := rules_pieces (cntP es) top es [] [⟨0, (textP es).length, (textP es).length, [], [], false⟩] 0 (by simp)
  rw [List.nil_append, ← textP_toks, List.length_nil, Nat.zero_add] at h1
  rw [h1, rulesF_step, if_neg (Nat.lt_irrefl _), List.append_nil]
theorem textP_append (es bs : List Nat) : textP es ++ textP bs = textP (es ++ bs) := by unfold textP; rw [List.flatMap_append]
theorem textP_count (es : List Nat) : (toksF (textP es)).length = cntP es + 1 := by rw [textP_toks, List.length_append, toksP_len]; rfl
theorem cntP_append : ∀ (es bs : List Nat), cntP (es ++ bs) = cntP es + cntP bs
  | [], bs => by show _ = 0 + _; rw [Nat.zero_add]; rfl
  | k :: ks, bs => by show _ + cntP (ks ++ bs) = _ + cntP ks + _; rw [cntP_append ks]; omega
theorem rulesP_append : ∀ (es bs : List Nat) (q : Nat), rulesP (es ++ bs) q = rulesP es q ++ rulesP bs (q + cntP es)
  | [], bs, q => by show _ = rulesP bs (q + 0); rfl
  | k :: ks, bs, q => by
    show _ :: rulesP (ks ++ bs) _ = _ :: (rulesP ks _ ++ rulesP bs (q + (_ + cntP ks)))
    rw [rulesP_append ks, Nat.add_assoc]
theorem rulesP_len : ∀ (es : List Nat) (q : Nat), (rulesP es q).length = es.length
  | [], _ => rfl
  | k :: ks, q => by show (rulesP ks _).length + 1 = _; rw [rulesP_len ks]; rfl
end

section
open Go.RowKit
set_option linter.unusedVariables false
set_option linter.unusedSimpArgs false
theorem nums_append (xs ys : List Int) : strOfNums xs ++ strOfNums ys = strOfNums (xs ++ ys) := by
  have h : ∀ a b : ByteArray, a.data.toList = b.data.toList → a = b := fun a b h => by
    cases a; cases b
    congr 1
    exact Array.toList_inj.1 h
  apply h
  rw [strOfNums_data, List.map_append, ← strOfNums_data, ← strOfNums_data]
  simp [ByteArray.data_append]
def pk (zs : List Int) : List Nat := zs.map fun z => z.toNat % 7
theorem pk_len (zs : List Int) : (pk zs).length = zs.length := by unfold pk; simp
theorem textP_snoc (es : List Nat) (k : Nat) : textP (es ++ [k]) = textP es ++ rpB k := by unfold textP; simp
theorem rpB_le (k : Nat) : (rpB k).length ≤ 12 := by
  match k with
  | 0 => decide
  | 1 => decide
  | 2 => decide
  | 3 => decide
  | 4 => decide
  | 5 => decide
  | k + 6 => exact (show (rpB 6).length ≤ 12 by decide)
theorem textP_le : ∀ (es : List Nat), (textP es).length ≤ 12 * es.length
  | [] => Nat.le_refl _
  | k :: ks => by
    have h1 := rpB_le k
    have h2 := textP_le ks
    show (rpB k ++ textP ks).length ≤ 12 * (ks.length + 1)
    rw [List.length_append]
    omega
set_option maxRecDepth 100000 in
set_option maxHeartbeats 8000000 in
theorem ltext_any (a : Option Addr) (n c : Nat) (zs : List Int) (w : World) (hn : zs.length = n) (hr : Reads w .u8 a c zs) (hz : U8 zs) (hs : n ≤ 60) :
    Calls Try.prog 16 #[.slice a n c] w (Told (.string (strOfNums (textP (pk zs)))) w) := by
  have HR := Lib.hid hr
  have HN := Lib.hid hn
  have HZ := Lib.hid hz
  have hc1 := hr.1; have hc2 := hr.2.1
  rw [hn] at hc1
  unfold maxLen at hc2
  generalize hT : strOfNums (textP (pk zs)) = T
  have HT := Lib.hid hT
  clear hr hn hz hT
  go_enter Try.func16, Try.ntmps16
  go_wp2_with fail
  go_loopw [3, 8] (fun v3 v8 wr => ∃ (k : Nat) (S : ByteArray), v8 = .int .i64 k ∧ v3 = .string S ∧ k ≤ n ∧ Hid (S = strOfNums (textP (pk (zs.take k)))) ∧ S.size ≤ 12 * k ∧ Below w.heap.size w wr) (fun _ v8 _ => n - (intOf v8).toNat)
  case atStart => exact ⟨0, ⟨#[]⟩, rfl, rfl, by omega, Lib.hid rfl, by decide, Below.refl _ _⟩
  case round =>
    obtain ⟨k, S, rfl, rfl, hk, hS, hSz, hbl⟩ := hrel
    by_cases hlt : k < n
    · have hlt' : (k : Int) < (n : Int) := by omega
      have hkl : k < zs.length := by rw [HN.out]; exact hlt
      obtain ⟨b, off, rfl, hat⟩ : ∃ b off, a = some ⟨b, off, none⟩ ∧ At wr .u8 b off zs := by
        rcases (HR.out.later hbl).2.2 with h | h
        · rw [h] at hkl; simp at hkl
        · exact h
      have c0 := hat.2 k hkl
      rw [List.getElem?_eq_getElem hkl, Option.getD_some] at c0
      have hzb := HZ.out _ (List.getElem_mem hkl)
      have htk : pk (zs.take (k + 1)) = pk (zs.take k) ++ [(zs[k]'hkl).toNat % 7] := by
        unfold pk
        rw [List.take_succ_eq_append_getElem hkl, List.map_append]; rfl
      generalize zs[k]'hkl = z at *
      have HP : Hid (∀ S', S' = S ++ strOfNums (rpB (z.toNat % 7)) → S' = strOfNums (textP (pk (zs.take (k + 1))))) := Lib.hid fun S' h => by
        rw [h, htk, textP_snoc, hS.out, nums_append]
      have hL := rpB_le (z.toNat % 7)
      have hsz : (S ++ strOfNums (rpB (z.toNat % 7))).size ≤ 12 * (k + 1) := by rw [ByteArray.size_append, strOfNums_size]; omega
      have HSZ := Lib.hid hsz
      have BL : Blk (wr.alloc (.cells [.string ⟨#[97, 123, 125]⟩, .string ⟨#[98, 123, 120, 58, 49, 59, 121, 58, 123, 122, 125, 125]⟩, .string ⟨#[64, 109, 123, 99, 123, 125, 125]⟩, .string ⟨#[64, 110, 32, 100, 59]⟩, .string ⟨#[91, 101, 61, 123, 102, 125, 93, 123, 125]⟩, .string ⟨#[103, 40, 104, 123, 105, 125, 41, 123, 106, 125]⟩, .string ⟨#[107, 123, 91, 40, 108, 41, 93, 125]⟩].toArray 9)) wr.heap.size [.string ⟨#[97, 123, 125]⟩, .string ⟨#[98, 123, 120, 58, 49, 59, 121, 58, 123, 122, 125, 125]⟩, .string ⟨#[64, 109, 123, 99, 123, 125, 125]⟩, .string ⟨#[64, 110, 32, 100, 59]⟩, .string ⟨#[91, 101, 61, 123, 102, 125, 93, 123, 125]⟩, .string ⟨#[103, 40, 104, 123, 105, 125, 41, 123, 106, 125]⟩, .string ⟨#[107, 123, 91, 40, 108, 41, 93, 125]⟩] 9 := Blk.alloc _ _
      have hb2 := hbl.alloc hbl.size (.cells [.string ⟨#[97, 123, 125]⟩, .string ⟨#[98, 123, 120, 58, 49, 59, 121, 58, 123, 122, 125, 125]⟩, .string ⟨#[64, 109, 123, 99, 123, 125, 125]⟩, .string ⟨#[64, 110, 32, 100, 59]⟩, .string ⟨#[91, 101, 61, 123, 102, 125, 93, 123, 125]⟩, .string ⟨#[103, 40, 104, 123, 105, 125, 41, 123, 106, 125]⟩, .string ⟨#[107, 123, 91, 40, 108, 41, 93, 125]⟩].toArray 9)
      have HB2 := Lib.hid hb2
      have q9 : ¬ (9223372036854775807 < S.size + 12) := by omega
      clear hat htk hsz hL hS hbl hb2
      have h7 : z % 7 = 0 ∨ z % 7 = 1 ∨ z % 7 = 2 ∨ z % 7 = 3 ∨ z % 7 = 4 ∨ z % 7 = 5 ∨ z % 7 = 6 := by omega
      rcases h7 with h7 | h7 | h7 | h7 | h7 | h7 | h7
      · have hq : z.toNat % 7 = 0 := by omega
        rw [hq] at HP HSZ
        have cs := BL.cell 0 _ rfl
        have q8 : ¬ (9223372036854775807 < S.size + 3) := by omega
        clear hq BL
        go_wp2
        go_roundw
        case rel => exact ⟨k + 1, _, by go_num, rfl, by omega, Lib.hid (HP.out _ rfl), HSZ.out, HB2.out⟩
        case measure => simp [intOf]; omega
      · have hq : z.toNat % 7 = 1 := by omega
        rw [hq] at HP HSZ
        have cs := BL.cell 1 _ rfl
        have q8 : ¬ (9223372036854775807 < S.size + 12) := by omega
        clear hq BL
        go_wp2
        go_roundw
        case rel => exact ⟨k + 1, _, by go_num, rfl, by omega, Lib.hid (HP.out _ rfl), HSZ.out, HB2.out⟩
        case measure => simp [intOf]; omega
      · have hq : z.toNat % 7 = 2 := by omega
        rw [hq] at HP HSZ
        have cs := BL.cell 2 _ rfl
        have q8 : ¬ (9223372036854775807 < S.size + 7) := by omega
        clear hq BL
        go_wp2
        go_roundw
        case rel => exact ⟨k + 1, _, by go_num, rfl, by omega, Lib.hid (HP.out _ rfl), HSZ.out, HB2.out⟩
        case measure => simp [intOf]; omega
      · have hq : z.toNat % 7 = 3 := by omega
        rw [hq] at HP HSZ
        have cs := BL.cell 3 _ rfl
        have q8 : ¬ (9223372036854775807 < S.size + 5) := by omega
        clear hq BL
        go_wp2
        go_roundw
        case rel => exact ⟨k + 1, _, by go_num, rfl, by omega, Lib.hid (HP.out _ rfl), HSZ.out, HB2.out⟩
        case measure => simp [intOf]; omega
      · have hq : z.toNat % 7 = 4 := by omega
        rw [hq] at HP HSZ
        have cs := BL.cell 4 _ rfl
        have q8 : ¬ (9223372036854775807 < S.size + 9) := by omega
        clear hq BL
        go_wp2
        go_roundw
        case rel => exact ⟨k + 1, _, by go_num, rfl, by omega, Lib.hid (HP.out _ rfl), HSZ.out, HB2.out⟩
        case measure => simp [intOf]; omega
      · have hq : z.toNat % 7 = 5 := by omega
        rw [hq] at HP HSZ
        have cs := BL.cell 5 _ rfl
        have q8 : ¬ (9223372036854775807 < S.size + 10) := by omega
        clear hq BL
        go_wp2
        go_roundw
        case rel => exact ⟨k + 1, _, by go_num, rfl, by omega, Lib.hid (HP.out _ rfl), HSZ.out, HB2.out⟩
        case measure => simp [intOf]; omega
      · have hq : z.toNat % 7 = 6 := by omega
        rw [hq] at HP HSZ
        have cs := BL.cell 6 _ rfl
        have q8 : ¬ (9223372036854775807 < S.size + 8) := by omega
        clear hq BL
        go_wp2
        go_roundw
        case rel => exact ⟨k + 1, _, by go_num, rfl, by omega, Lib.hid (HP.out _ rfl), HSZ.out, HB2.out⟩
        case measure => simp [intOf]; omega
    · obtain rfl : k = n := by omega
      have hTv : T = S := by rw [← HT.out, hS.out, ← HN.out, List.take_length]
      subst hTv
      clear hS
      go_wp2
      go_ret
      exact ⟨rfl, hbl⟩
end
end Go.Proofs.Ytelbjnanpmdnnaa
