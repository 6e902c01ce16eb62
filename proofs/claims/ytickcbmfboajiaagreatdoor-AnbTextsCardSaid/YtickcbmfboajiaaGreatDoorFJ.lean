/- Several texts of mine in one. -/
import Derived.Test.YtickcbmfboajiaaGreatDoorFC
import Derived.Test.YtickcbmfboajiaaGreatDoorFD
import Derived.Shelf.Abstract
import Derived.Laws.RangeString
import Derived.FnLit
import Derived.Deep.LoopGhost
import Derived.Lib.Replace
import Derived.Lib.IndexBytes
import Derived.Lib.CountLaws
namespace Go.Proofs.YtickcbmfboajiaaGreatDoor
section
open Go.RowKit Go.Shelf
set_option linter.unusedVariables false

theorem isB_endC {l : List Int} {k : Nat} {c : Int} (h : l.length ≤ k) (hc : c ≠ 0) : isB l k c = false := by
  unfold isB; rw [chA_end l k h]; exact decide_eq_false (fun e => hc e.symm)

set_option maxRecDepth 100000 in
theorem within_any {a : Option Addr} {n cap : Nat} {w : World} (i : Int) (k : Nat) (hi : i = (k : Int)) (hk : k ≤ 300000) (hn : n ≤ 100000) :
    Calls Tryz.prog 42 #[.slice a n cap, .int .i64 i] w (Tells (.int .i64 ((min k n : Nat) : Int)) w) := by
  subst hi
  go_enter Tryz.func42, Tryz.ntmps42
  go_wp2
  all_goals
    go_ret
    exact ⟨ret_int (by omega), rfl⟩

set_option maxRecDepth 100000 in
theorem stands_any {a : Option Addr} {n cap : Nat} {l : List Int} {w : World} (i : Int) (k : Nat) (c : Int) (h : Src w a n cap l) (hi : i = (k : Int)) (hc : c ≠ 0) :
    Calls Tryz.prog 118 #[.slice a n cap, .int .i64 i, .int .i64 c] w (Tells (.bool (isB l k c)) w) := by
  subst hi
  have hsm := h.small
  by_cases hlt : k < n
  · obtain ⟨b, off, rfl, hcell⟩ := h.cell k hlt
    have hlt' : (k : Int) < (n : Int) := by omega
    have hq : (chA l k == c) = isB l k c := by unfold isB; rfl
    generalize isB l k c = p at *
    generalize chA l k = z at *
    clear h hc
    go_enter Tryz.func118, Tryz.ntmps118
    go_wp2
    go_ret
    exact ⟨rfl, rfl⟩
  · have hlt' : ¬ (k : Int) < (n : Int) := by omega
    rw [isB_endC (by rw [h.len]; omega) hc]
    go_enter Tryz.func118, Tryz.ntmps118
    go_wp2
    go_ret
    exact ⟨rfl, rfl⟩

set_option maxRecDepth 100000 in
theorem isOf_any (g : Nat) (eg : ∀ args w, (callFunc g args).run Tryz.prog w = .ok (.enter g args) w) (f : Int → Bool) (hf : ∀ c w, Ch c → Calls Tryz.prog g #[.int .i64 c] w (Tells (.bool (f c)) w)) (f0 : f 0 = false)
    {a : Option Addr} {n cap : Nat} {l : List Int} {w : World} (i : Int) (k : Nat) (h : Src w a n cap l) (hi : i = (k : Int)) :
    Calls Tryz.prog 119 #[.slice a n cap, .int .i64 i, .func (.func g) #[] #[]] w (Tells (.bool (f (chA l k))) w) := by
  subst hi
  have hsm := h.small
  by_cases hlt : k < n
  · obtain ⟨b, off, rfl, hcell⟩ := h.cell k hlt
    have hlt' : (k : Int) < (n : Int) := by omega
    have cF := fun w => hf (chA l k) w (chA_ch h.pre k)
    generalize f (chA l k) = p at *
    generalize chA l k = z at *
    clear h hf
    go_enter Tryz.func119, Tryz.ntmps119
    go_wp2_with (go_at_fn g; refine (cF _).mono ?_; rintro e w' ⟨rfl, rfl⟩)
    go_ret
    exact ⟨rfl, rfl⟩
  · have hlt' : ¬ (k : Int) < (n : Int) := by omega
    rw [chA_end l k (by rw [h.len]; omega), f0]
    clear hf f0
    go_enter Tryz.func119, Tryz.ntmps119
    go_wp2
    go_ret
    exact ⟨rfl, rfl⟩
section
variable {a : Option Addr} {n cap : Nat} {l : List Int} {w : World} (i : Int) (k : Nat)
theorem isSp_any (h : Src w a n cap l) (hi : i = (k : Int)) :
    Calls Tryz.prog 119 #[.slice a n cap, .int .i64 i, .func (.func 84) #[] #[]] w (Tells (.bool (spB l k)) w) :=
  isOf_any 84 (enters_of Tryz.func84 (by kernel_rfl) rfl) spaceB (fun c w hc => space_any c w hc) (by decide) i k h hi
theorem isDg_any (h : Src w a n cap l) (hi : i = (k : Int)) :
    Calls Tryz.prog 119 #[.slice a n cap, .int .i64 i, .func (.func 104) #[] #[]] w (Tells (.bool (dgB l k)) w) :=
  isOf_any 104 (enters_of Tryz.func104 (by kernel_rfl) rfl) digitB (fun c w hc => digit_any c w hc) (by decide) i k h hi
theorem isSt_any (h : Src w a n cap l) (hi : i = (k : Int)) :
    Calls Tryz.prog 119 #[.slice a n cap, .int .i64 i, .func (.func 127) #[] #[]] w (Tells (.bool (stB l k)) w) :=
  isOf_any 127 (enters_of Tryz.func127 (by kernel_rfl) rfl) startB (fun c w hc => start_any c w hc) (by decide) i k h hi
theorem isNm_any (h : Src w a n cap l) (hi : i = (k : Int)) :
    Calls Tryz.prog 119 #[.slice a n cap, .int .i64 i, .func (.func 129) #[] #[]] w (Tells (.bool (nmB l k)) w) :=
  isOf_any 129 (enters_of Tryz.func129 (by kernel_rfl) rfl) nameB (fun c w hc => name_any c w hc) (by decide) i k h hi

set_option maxRecDepth 100000 in
theorem isEscape_any (h : Src w a n cap l) (hi : i = (k : Int)) (hk : k ≤ 300000) :
    Calls Tryz.prog 120 #[.slice a n cap, .int .i64 i] w (Tells (.bool (escB l k)) w) := by
  subst hi
  have c1 := stands_any (k : Int) k 92 h rfl (by decide)
  have c2 := stands_any ((k : Int) + 1) (k + 1) 10 h (by omega) (by decide)
  unfold escB
  generalize isB l k 92 = p at *
  generalize isB l (k + 1) 10 = q at *
  clear h
  cases p
  all_goals
    go_enter Tryz.func120, Tryz.ntmps120
    go_wp2_with (go_at_call 118; first | ((with_reducible refine c1.mono ?_); rintro e w' ⟨rfl, rfl⟩) | ((with_reducible refine c2.mono ?_); rintro e w' ⟨rfl, rfl⟩))
    go_ret
    exact ⟨rfl, rfl⟩

set_option maxRecDepth 100000 in
theorem isPM_any (h : Src w a n cap l) (hi : i = (k : Int)) :
    Calls Tryz.prog 123 #[.slice a n cap, .int .i64 i] w (Tells (.bool (isB l k 43 || isB l k 45)) w) := by
  have c1 := stands_any i k 43 h hi (by decide)
  have c2 := stands_any i k 45 h hi (by decide)
  generalize isB l k 43 = p at *
  generalize isB l k 45 = q at *
  clear h hi
  cases p
  all_goals
    go_enter Tryz.func123, Tryz.ntmps123
    go_wp2_with (go_at_call 118; first | ((with_reducible refine c1.mono ?_); rintro e w' ⟨rfl, rfl⟩) | ((with_reducible refine c2.mono ?_); rintro e w' ⟨rfl, rfl⟩))
    go_ret
    exact ⟨rfl, rfl⟩

set_option maxRecDepth 100000 in
theorem isFrac_any (h : Src w a n cap l) (hi : i = (k : Int)) (hk : k ≤ 300000) :
    Calls Tryz.prog 124 #[.slice a n cap, .int .i64 i] w (Tells (.bool (fracAt l k)) w) := by
  subst hi
  have c1 := stands_any (k : Int) k 46 h rfl (by decide)
  have c2 := isDg_any ((k : Int) + 1) (k + 1) h (by omega)
  unfold fracAt
  generalize isB l k 46 = p at *
  generalize dgB l (k + 1) = q at *
  clear h
  cases p
  all_goals
    go_enter Tryz.func124, Tryz.ntmps124
    go_wp2_with (first | (go_at_call 118; (with_reducible refine c1.mono ?_); rintro e w' ⟨rfl, rfl⟩) | (go_at_call 119; (with_reducible refine c2.mono ?_); rintro e w' ⟨rfl, rfl⟩))
    go_ret
    exact ⟨rfl, rfl⟩

set_option maxRecDepth 100000 in
theorem hasName_any (h : Src w a n cap l) (hi : i = (k : Int)) (hk : k ≤ 300000) :
    Calls Tryz.prog 92 #[.slice a n cap, .int .i64 i] w (Tells (.bool (nmB l k || escB l k)) w) := by
  have c1 := isNm_any i k h hi
  have c2 := isEscape_any i k h hi hk
  generalize nmB l k = p at *
  generalize escB l k = q at *
  clear h hi
  cases p
  all_goals
    go_enter Tryz.func92, Tryz.ntmps92
    go_wp2_with (first | (go_at_call 119; (with_reducible refine c1.mono ?_); rintro e w' ⟨rfl, rfl⟩) | (go_at_call 120; (with_reducible refine c2.mono ?_); rintro e w' ⟨rfl, rfl⟩))
    go_ret
    exact ⟨rfl, rfl⟩

set_option maxRecDepth 100000 in
theorem startsName_any (h : Src w a n cap l) (hi : i = (k : Int)) (hk : k ≤ 200000) :
    Calls Tryz.prog 89 #[.slice a n cap, .int .i64 i] w (Tells (.bool (nameAt l k)) w) := by
  subst hi
  have c0 := stands_any (k : Int) k 45 h rfl (by decide)
  unfold nameAt
  rcases h0 : isB l k 45 with _ | _
  · rw [h0] at c0
    rw [if_neg (by decide)]
    have c1 := isSt_any (k : Int) k h rfl
    have c2 := isEscape_any (k : Int) k h rfl (by omega)
    generalize stB l k = p at *
    generalize escB l k = q at *
    clear h h0
    cases p
    all_goals
      go_enter Tryz.func89, Tryz.ntmps89
      go_wp2_with (first | (go_at_call 118; (with_reducible refine c0.mono ?_); rintro e w' ⟨rfl, rfl⟩) | (go_at_call 119; (with_reducible refine c1.mono ?_); rintro e w' ⟨rfl, rfl⟩) | (go_at_call 120; (with_reducible refine c2.mono ?_); rintro e w' ⟨rfl, rfl⟩))
      go_ret
      exact ⟨rfl, rfl⟩
  · rw [h0] at c0
    rw [if_pos rfl]
    have c1 := stands_any ((k : Int) + 1) (k + 1) 45 h (by omega) (by decide)
    have c2 := isSt_any ((k : Int) + 1) (k + 1) h (by omega)
    have c3 := isEscape_any ((k : Int) + 1) (k + 1) h (by omega) (by omega)
    generalize isB l (k + 1) 45 = r at *
    generalize stB l (k + 1) = p at *
    generalize escB l (k + 1) = q at *
    clear h h0
    cases r
    · cases p
      all_goals
        go_enter Tryz.func89, Tryz.ntmps89
        go_wp2_with (first | (go_at_call 118; first | ((with_reducible refine c0.mono ?_); rintro e w' ⟨rfl, rfl⟩) | ((with_reducible refine c1.mono ?_); rintro e w' ⟨rfl, rfl⟩)) | (go_at_call 119; (with_reducible refine c2.mono ?_); rintro e w' ⟨rfl, rfl⟩) | (go_at_call 120; (with_reducible refine c3.mono ?_); rintro e w' ⟨rfl, rfl⟩))
        go_ret
        exact ⟨rfl, rfl⟩
    · go_enter Tryz.func89, Tryz.ntmps89
      go_wp2_with (go_at_call 118; first | ((with_reducible refine c0.mono ?_); rintro e w' ⟨rfl, rfl⟩) | ((with_reducible refine c1.mono ?_); rintro e w' ⟨rfl, rfl⟩))
      go_ret
      exact ⟨rfl, rfl⟩

set_option maxRecDepth 100000 in
theorem startsNumber_any (h : Src w a n cap l) (hi : i = (k : Int)) (hk : k ≤ 200000) :
    Calls Tryz.prog 87 #[.slice a n cap, .int .i64 i] w (Tells (.bool (numAt l k)) w) := by
  subst hi
  have c0 := isPM_any (k : Int) k h rfl
  unfold numAt signAt
  rcases h0 : (isB l k 43 || isB l k 45) with _ | _
  · rw [h0] at c0
    rw [if_neg (by decide)]
    have c1 := isDg_any (k : Int) k h rfl
    have c2 := isFrac_any (k : Int) k h rfl (by omega)
    generalize dgB l k = p at *
    generalize fracAt l k = q at *
    clear h h0
    cases p
    all_goals
      go_enter Tryz.func87, Tryz.ntmps87
      go_wp2_with (first | (go_at_call 123; (with_reducible refine c0.mono ?_); rintro e w' ⟨rfl, rfl⟩) | (go_at_call 119; (with_reducible refine c1.mono ?_); rintro e w' ⟨rfl, rfl⟩) | (go_at_call 124; (with_reducible refine c2.mono ?_); rintro e w' ⟨rfl, rfl⟩))
      go_ret
      exact ⟨rfl, rfl⟩
  · rw [h0] at c0
    rw [if_pos rfl]
    have c1 := isDg_any ((k : Int) + 1) (k + 1) h (by omega)
    have c2 := isFrac_any ((k : Int) + 1) (k + 1) h (by omega) (by omega)
    generalize dgB l (k + 1) = p at *
    generalize fracAt l (k + 1) = q at *
    clear h h0
    cases p
    all_goals
      go_enter Tryz.func87, Tryz.ntmps87
      go_wp2_with (first | (go_at_call 123; (with_reducible refine c0.mono ?_); rintro e w' ⟨rfl, rfl⟩) | (go_at_call 119; (with_reducible refine c1.mono ?_); rintro e w' ⟨rfl, rfl⟩) | (go_at_call 124; (with_reducible refine c2.mono ?_); rintro e w' ⟨rfl, rfl⟩))
      go_ret
      exact ⟨rfl, rfl⟩
end
end

section
open Go.RowKit Go.Shelf
set_option linter.unusedVariables false

theorem spacesGo_fuel (l : List Int) : ∀ (f g j : Nat), l.length < j + f → l.length < j + g → spacesGo f l j = spacesGo g l j
  | f, g, j, hf, hg => by
    by_cases h : spB l j = true
    · have := lt_of_spB h
      obtain ⟨f, rfl⟩ : ∃ f', f = f' + 1 := ⟨f - 1, by omega⟩
      obtain ⟨g, rfl⟩ : ∃ g', g = g' + 1 := ⟨g - 1, by omega⟩
      rw [spacesGo, spacesGo, if_pos h, if_pos h]
      exact spacesGo_fuel l f g (j + 1) (by omega) (by omega)
    · rw [spacesGo_stop f (by simpa using h), spacesGo_stop g (by simpa using h)]
theorem spacesF_step {l : List Int} {j : Nat} (h : spB l j = true) : spacesF l j = spacesF l (j + 1) := by
  unfold spacesF
  rw [spacesGo, if_pos h]
  have := lt_of_spB h
  exact spacesGo_fuel l _ _ _ (by omega) (by omega)
theorem spacesF_stop {l : List Int} {j : Nat} (h : spB l j = false) : spacesF l j = j := spacesGo_stop _ h
theorem digitsGo_fuel (l : List Int) : ∀ (f g j : Nat), l.length < j + f → l.length < j + g → digitsGo f l j = digitsGo g l j
  | f, g, j, hf, hg => by
    by_cases h : dgB l j = true
    · have := lt_of_dgB h
      obtain ⟨f, rfl⟩ : ∃ f', f = f' + 1 := ⟨f - 1, by omega⟩
      obtain ⟨g, rfl⟩ : ∃ g', g = g' + 1 := ⟨g - 1, by omega⟩
      rw [digitsGo, digitsGo, if_pos h, if_pos h]
      exact digitsGo_fuel l f g (j + 1) (by omega) (by omega)
    · rw [digitsGo_stop f (by simpa using h), digitsGo_stop g (by simpa using h)]
theorem digitsF_step {l : List Int} {j : Nat} (h : dgB l j = true) : digitsF l j = digitsF l (j + 1) := by
  unfold digitsF
  rw [digitsGo, if_pos h]
  have := lt_of_dgB h
  exact digitsGo_fuel l _ _ _ (by omega) (by omega)
theorem digitsF_stop {l : List Int} {j : Nat} (h : dgB l j = false) : digitsF l j = j := digitsGo_stop _ h

section
variable {a : Option Addr} {n cap : Nat} {l : List Int} {w : World} (i : Int) (k : Nat)
set_option maxRecDepth 100000 in
theorem passBlanks_any (h : Src w a n cap l) (hi : i = (k : Int)) (hk : k ≤ 200000) :
    Calls Tryz.prog 85 #[.slice a n cap, .int .i64 i] w (Tells (.int .i64 (spacesF l k : Nat)) w) := by
  subst hi
  have H := Lib.hid h
  have hsm := h.small
  have hlen := h.len
  generalize hR : spacesF l k = R
  have HR := Lib.hid hR
  have HL := Lib.hid hlen
  clear h hR hlen
  go_enter Tryz.func85, Tryz.ntmps85
  go_wp2_with fail
  go_loopw [1] (fun v wr => ∃ j : Nat, v = .int .i64 j ∧ j ≤ 200000 ∧ Hid (spacesF l j = R) ∧ wr = w) (fun v _ => n - (intOf v).toNat)
  case atStart => exact ⟨k, rfl, hk, HR, by first | rfl | trivial⟩
  case round =>
    obtain ⟨j, rfl, hj, hG, rfl⟩ := hrel
    have c := isSp_any (j : Int) j H.out rfl
    rcases hs : spB l j with _ | _
    · rw [hs] at c
      have e := Lib.hid ((spacesF_stop hs).symm.trans hG.out)
      clear hs
      go_wp2_with (go_at_call 119; (with_reducible refine c.mono ?_); rintro e w' ⟨rfl, rfl⟩)
      go_ret
      exact ⟨ret_int (by rw [e.out]), rfl⟩
    · rw [hs] at c
      have hlt : j < n := by rw [← HL.out]; exact lt_of_spB hs
      have e := Lib.hid ((spacesF_step hs).symm.trans hG.out)
      clear hs
      go_wp2_with (go_at_call 119; (with_reducible refine c.mono ?_); rintro e w' ⟨rfl, rfl⟩)
      go_roundw
      case rel => exact ⟨j + 1, by go_num, by omega, e, by first | rfl | trivial⟩
      case measure => simp [intOf]; omega

set_option maxRecDepth 100000 in
theorem passDigits_any (h : Src w a n cap l) (hi : i = (k : Int)) (hk : k ≤ 200000) :
    Calls Tryz.prog 148 #[.slice a n cap, .int .i64 i] w (Tells (.int .i64 (digitsF l k : Nat)) w) := by
  subst hi
  have H := Lib.hid h
  have hsm := h.small
  have hlen := h.len
  generalize hR : digitsF l k = R
  have HR := Lib.hid hR
  have HL := Lib.hid hlen
  clear h hR hlen
  go_enter Tryz.func148, Tryz.ntmps148
  go_wp2_with fail
  go_loopw [1] (fun v wr => ∃ j : Nat, v = .int .i64 j ∧ j ≤ 200000 ∧ Hid (digitsF l j = R) ∧ wr = w) (fun v _ => n - (intOf v).toNat)
  case atStart => exact ⟨k, rfl, hk, HR, by first | rfl | trivial⟩
  case round =>
    obtain ⟨j, rfl, hj, hG, rfl⟩ := hrel
    have c := isDg_any (j : Int) j H.out rfl
    rcases hs : dgB l j with _ | _
    · rw [hs] at c
      have e := Lib.hid ((digitsF_stop hs).symm.trans hG.out)
      clear hs
      go_wp2_with (go_at_call 119; (with_reducible refine c.mono ?_); rintro e w' ⟨rfl, rfl⟩)
      go_ret
      exact ⟨ret_int (by rw [e.out]), rfl⟩
    · rw [hs] at c
      have hlt : j < n := by rw [← HL.out]; exact lt_of_dgB hs
      have e := Lib.hid ((digitsF_step hs).symm.trans hG.out)
      clear hs
      go_wp2_with (go_at_call 119; (with_reducible refine c.mono ?_); rintro e w' ⟨rfl, rfl⟩)
      go_roundw
      case rel => exact ⟨j + 1, by go_num, by omega, e, by first | rfl | trivial⟩
      case measure => simp [intOf]; omega
end

/-- Do characters stand one behind the other? -/
def begB (l : List Int) : Nat → List Int → Bool
  | _, [] => true
  | k, c :: cs => isB l k c && begB l (k + 1) cs
/-- A text of characters of ASCII, none 0. -/
def Asc (s : ByteArray) : Prop := s.size ≤ 10 ∧ ∀ (j : Nat) (h : j < s.size), 1 ≤ (s[j]'h).toNat ∧ (s[j]'h).toNat < 128
def ascI (s : ByteArray) : List Int := (strB s).map fun b => (b.toNat : Int)
theorem dropB_at (s : ByteArray) (j : Nat) (h : j < s.size) : (strB s).drop j = (s[j]'h) :: (strB s).drop (j + 1) := by
  rw [List.drop_eq_getElem_cons (by rw [strB_len]; exact h)]; rfl
theorem ascI_at (s : ByteArray) (j : Nat) (h : j < s.size) : (ascI s).drop j = ((s[j]'h).toNat : Int) :: (ascI s).drop (j + 1) := by
  unfold ascI
  rw [← List.map_drop, ← List.map_drop, dropB_at s j h, List.map_cons]
theorem ascI_end (s : ByteArray) : (ascI s).drop s.size = [] := by
  unfold ascI
  rw [← List.map_drop, List.drop_eq_nil_of_le (by rw [strB_len]; exact Nat.le_refl _)]; rfl

set_option maxRecDepth 100000 in
theorem begins_any {a : Option Addr} {n cap : Nat} {l : List Int} {w : World} (i : Int) (k : Nat) (s : ByteArray) (h : Src w a n cap l) (hi : i = (k : Int)) (hk : k ≤ 200000) (hs : Asc s) :
    Calls Tryz.prog 83 #[.slice a n cap, .int .i64 i, .string s] w (Told (.bool (begB l k (ascI s))) w) := by
  subst hi
  have H := Lib.hid h
  have hsm := h.small
  generalize hR : begB l k (ascI s) = R
  have HR := Lib.hid hR
  have HS := Lib.hid hs
  have hsz := hs.1
  clear h hR hs
  go_enter Tryz.func83, Tryz.ntmps83
  go_wp2_with fail
  go_loopg [7, 8] s.size (fun gf _ _ wr => ∃ p : Nat, p + gf = s.size ∧ Hid (begB l (k + p) ((ascI s).drop p) = R) ∧ wr = w.iter s p)
  case atStart => exact ⟨0, by omega, Lib.hid HR.out, rfl⟩
  case round =>
    obtain ⟨p, hp, hG, rfl⟩ := hrel
    have hbl : Below w.heap.size w (w.iter s (p + 1)) := (Below.refl _ _).alloc (Nat.le_refl _) _
    by_cases hlt : p < s.size
    · obtain ⟨g', rfl⟩ : ∃ g', gk = g' + 1 := ⟨gk - 1, by omega⟩
      have ha := HS.out.2 p hlt
      have hnx := fun ty => run_next_ascii (P := Tryz.prog) w s p ty hlt ha.2
      have hG2 := hG.out
      rw [ascI_at s p hlt, begB] at hG2
      have c := stands_any ((k : Int) + (p : Int)) (k + p) (((s[p]'hlt).toNat : Nat) : Int) (H.out.later hbl) (by omega) (by omega)
      generalize hz : (s[p]'hlt).toNat = z at *
      rcases hq : isB l (k + p) (z : Int) with _ | _
      · rw [hq] at c hG2
        have HG := Lib.hid hG2
        clear hG2 hq hG
        go_wp2_with (go_at_call 118; (with_reducible refine c.mono ?_); rintro e w' ⟨rfl, rfl⟩)
        go_ret
        exact ⟨ret_bool (by rw [← HG.out]; rfl), hbl⟩
      · rw [hq] at c hG2
        have HG := Lib.hid hG2
        clear hG2 hq hG
        go_wp2_with (go_at_call 118; (with_reducible refine c.mono ?_); rintro e w' ⟨rfl, rfl⟩)
        go_roundg g'
        case measure => omega
        case rel => exact ⟨p + 1, by omega, Lib.hid (by rw [← HG.out]; rfl), rfl⟩
    · obtain rfl : p = s.size := by omega
      have hnx := fun ty => run_next_end (P := Tryz.prog) w s s.size ty hlt
      have hG2 := hG.out
      rw [ascI_end, begB] at hG2
      have HG := Lib.hid hG2
      clear hG2 hG
      go_wp2
      go_ret
      exact ⟨ret_bool HG.out, (Below.refl _ _).alloc (Nat.le_refl _) _⟩
end

section
open Go.RowKit Go.Shelf
set_option linter.unusedVariables false

theorem expo_ne {l : List Int} {j : Nat} : (((expoF l j : Nat) : Int) == (j : Int)) = !expoB l j := by
  unfold expoF
  rcases h : expoB l j with _ | _
  · rw [if_neg (by decide)]; simp
  · rw [if_pos rfl]
    have h1 := (signAt_le l (j + 1)).1
    have h2 := (digitsF_le l (signAt l (j + 1))).1
    show _ = false
    exact beq_eq_false_iff_ne.2 (by omega)

section
variable {a : Option Addr} {n cap : Nat} {l : List Int} {w : World} (i : Int) (k : Nat)
set_option maxRecDepth 100000 in
set_option maxHeartbeats 1000000 in
theorem passExponent_any (h : Src w a n cap l) (hi : i = (k : Int)) (hk : k ≤ 150000) :
    Calls Tryz.prog 149 #[.slice a n cap, .int .i64 i] w (Tells (.int .i64 (expoF l k : Nat)) w) := by
  subst hi
  have c1 := stands_any (k : Int) k 101 h rfl (by decide)
  have c2 := stands_any (k : Int) k 69 h rfl (by decide)
  have c3 := isPM_any ((k : Int) + 1) (k + 1) h (by omega)
  unfold expoF expoB signAt
  rcases hr : (isB l (k + 1) 43 || isB l (k + 1) 45) with _ | _
  · rw [hr] at c3
    have c4 := isDg_any ((k : Int) + 1) (k + 1) h (by omega)
    have c5 := passDigits_any ((k : Int) + 1) (k + 1) h (by omega) (by omega)
    simp only [Bool.false_eq_true, if_false]
    generalize digitsF l (k + 1) = D at *
    generalize isB l k 101 = p at *
    generalize isB l k 69 = q at *
    generalize dgB l (k + 1) = d at *
    clear h hr
    cases p <;> cases q <;> cases d
    all_goals
      go_enter Tryz.func149, Tryz.ntmps149
      go_wp2_with (first
        | (go_at_call 118; first | ((with_reducible refine c1.mono ?_); rintro e w' ⟨rfl, rfl⟩) | ((with_reducible refine c2.mono ?_); rintro e w' ⟨rfl, rfl⟩))
        | (go_at_call 123; (with_reducible refine c3.mono ?_); rintro e w' ⟨rfl, rfl⟩)
        | (go_at_call 119; (with_reducible refine c4.mono ?_); rintro e w' ⟨rfl, rfl⟩)
        | (go_at_call 148; (with_reducible refine c5.mono ?_); rintro e w' ⟨rfl, rfl⟩))
      go_ret
      exact ⟨rfl, rfl⟩
  · rw [hr] at c3
    have c4 := isDg_any ((k : Int) + 1 + 1) (k + 1 + 1) h (by omega)
    have c5 := passDigits_any ((k : Int) + 1 + 1) (k + 1 + 1) h (by omega) (by omega)
    simp only [if_true]
    generalize digitsF l (k + 1 + 1) = D at *
    generalize isB l k 101 = p at *
    generalize isB l k 69 = q at *
    generalize dgB l (k + 1 + 1) = d at *
    clear h hr
    cases p <;> cases q <;> cases d
    all_goals
      go_enter Tryz.func149, Tryz.ntmps149
      go_wp2_with (first
        | (go_at_call 118; first | ((with_reducible refine c1.mono ?_); rintro e w' ⟨rfl, rfl⟩) | ((with_reducible refine c2.mono ?_); rintro e w' ⟨rfl, rfl⟩))
        | (go_at_call 123; (with_reducible refine c3.mono ?_); rintro e w' ⟨rfl, rfl⟩)
        | (go_at_call 119; refine c4.mono ?_; rintro e w' ⟨rfl, rfl⟩)
        | (go_at_call 148; refine c5.mono ?_; rintro e w' ⟨rfl, rfl⟩))
      go_ret
      exact ⟨rfl, rfl⟩

theorem ret_ib {k : IntKind} {a b : Int} {c d : Bool} (h : a = b) (h2 : c = d) : Ending.returned (.tuple #[.int k a, .bool c]) = .returned (.tuple #[.int k b, .bool d]) := by rw [h, h2]
set_option maxRecDepth 100000 in
set_option maxHeartbeats 1000000 in
theorem passNumber_any (h : Src w a n cap l) (hi : i = (k : Int)) (hk : k < n) :
    Calls Tryz.prog 125 #[.slice a n cap, .int .i64 i] w (Tells (.tuple #[.int .i64 ((numberF l k).1 : Nat), .bool (numberF l k).2]) w) := by
  subst hi
  have hsm := h.small
  have hlen := h.len
  have c1 := isPM_any (k : Int) k h rfl
  have hs1 := (signAt_le l k).1
  have hs2 := (signAt_le l k).2 (by omega)
  have hd2 := (digitsF_le l (signAt l k)).2 hs2
  have hd1 := (digitsF_le l (signAt l k)).1
  have hf1 := (fracF_le l (digitsF l (signAt l k))).1
  have hf2 := (fracF_le l (digitsF l (signAt l k))).2 hd2
  have c3 := isFrac_any ((digitsF l (signAt l k) : Nat) : Int) _ h rfl (by omega)
  have c4 := passDigits_any (((digitsF l (signAt l k) : Nat) : Int) + 1) (digitsF l (signAt l k) + 1) h (by omega) (by omega)
  have c5 := passExponent_any ((fracF l (digitsF l (signAt l k)) : Nat) : Int) _ h rfl (by omega)
  have hne := expo_ne (l := l) (j := fracF l (digitsF l (signAt l k)))
  have c2 := passDigits_any ((signAt l k : Nat) : Int) _ h rfl (by omega)
  unfold numberF
  show Calls _ _ _ _ (Tells (.tuple #[.int .i64 ((expoF l (fracF l (digitsF l (signAt l k))) : Nat) : Int), .bool (!fracAt l (digitsF l (signAt l k)) && !expoB l (fracF l (digitsF l (signAt l k))))]) w)
  have hfr : fracF l (digitsF l (signAt l k)) = if fracAt l (digitsF l (signAt l k)) = true then digitsF l (digitsF l (signAt l k) + 1) else digitsF l (signAt l k) := rfl
  generalize expoB l (fracF l (digitsF l (signAt l k))) = e at *
  generalize expoF l (fracF l (digitsF l (signAt l k))) = E at *
  generalize fracF l (digitsF l (signAt l k)) = F at *
  generalize fracAt l (digitsF l (signAt l k)) = f at *
  generalize digitsF l (digitsF l (signAt l k) + 1) = D2 at *
  generalize digitsF l (signAt l k) = D at *
  unfold signAt at hs1 hs2 c2
  have hD : D ≤ 100000 := by omega
  have hF : F ≤ 100000 := by omega
  generalize (isB l k 43 || isB l k 45) = p at *
  clear h hs1 hs2 hd2 hd1 hf1 hf2
  cases p <;> cases f
  all_goals
    simp only [Bool.false_eq_true, if_false, if_true] at hfr c2
    subst hfr
    go_enter Tryz.func125, Tryz.ntmps125
    go_wp2_with (first
      | (go_at_call 123; (with_reducible refine c1.mono ?_); rintro e w' ⟨rfl, rfl⟩)
      | (go_at_call 124; (with_reducible refine c3.mono ?_); rintro e w' ⟨rfl, rfl⟩)
      | (go_at_call 148; first | ((with_reducible refine c4.mono ?_); rintro e w' ⟨rfl, rfl⟩) | ((with_reducible refine c2.mono ?_); rintro e w' ⟨rfl, rfl⟩) | (refine c2.mono ?_; rintro e w' ⟨rfl, rfl⟩))
      | (go_at_call 149; (with_reducible refine c5.mono ?_); rintro e w' ⟨rfl, rfl⟩))
    go_ret2
    exact ⟨ret_ib rfl (by first | rfl | simp [hne] | exact hne), rfl⟩
end

/-- Comments. -/
theorem skipGo_ge (l : List Int) : ∀ (f j : Nat), j ≤ l.length → min (j + 2) l.length ≤ skipGo f l j ∧ skipGo f l j ≤ l.length
  | 0, j, _ => ⟨Nat.le_refl _, Nat.min_le_right _ _⟩
  | f + 1, j, hj => by
    rw [skipGo]
    by_cases h1 : l.length ≤ j
    · rw [if_pos h1]; exact ⟨Nat.le_refl _, Nat.min_le_right _ _⟩
    · rw [if_neg h1]
      by_cases h2 : (isB l j 42 && isB l (j + 1) 47) = true
      · rw [if_pos h2]; exact ⟨Nat.le_refl _, Nat.min_le_right _ _⟩
      · rw [if_neg h2]
        have := skipGo_ge l f (j + 1) (by omega)
        exact ⟨by omega, this.2⟩
theorem skipGo_fuel (l : List Int) : ∀ (f g j : Nat), l.length < j + f → l.length < j + g → skipGo f l j = skipGo g l j
  | f, g, j, hf, hg => by
    by_cases h1 : l.length ≤ j
    · have : ∀ f, skipGo f l j = min (j + 2) l.length := fun f => by cases f with | zero => rfl | succ f => rw [skipGo, if_pos h1]
      rw [this, this]
    · obtain ⟨f, rfl⟩ : ∃ f', f = f' + 1 := ⟨f - 1, by omega⟩
      obtain ⟨g, rfl⟩ : ∃ g', g = g' + 1 := ⟨g - 1, by omega⟩
      rw [skipGo, skipGo, if_neg h1, if_neg h1]
      by_cases h2 : (isB l j 42 && isB l (j + 1) 47) = true
      · rw [if_pos h2, if_pos h2]
      · rw [if_neg h2, if_neg h2]; exact skipGo_fuel l f g (j + 1) (by omega) (by omega)
def skipF (l : List Int) (j : Nat) : Nat := skipGo (l.length + 1) l j
theorem skipF_end {l : List Int} {j : Nat} (h : l.length ≤ j) : skipF l j = min (j + 2) l.length := by unfold skipF; rw [skipGo, if_pos h]
theorem skipF_hit {l : List Int} {j : Nat} (h : j < l.length) (h2 : (isB l j 42 && isB l (j + 1) 47) = true) : skipF l j = min (j + 2) l.length := by unfold skipF; rw [skipGo, if_neg (by omega), if_pos h2]
theorem skipF_step {l : List Int} {j : Nat} (h : j < l.length) (h2 : (isB l j 42 && isB l (j + 1) 47) = false) : skipF l j = skipF l (j + 1) := by
  unfold skipF
  rw [skipGo, if_neg (by omega), if_neg (by rw [h2]; decide)]
  exact skipGo_fuel l _ _ _ (by omega) (by omega)
theorem openB_lt {l : List Int} {j : Nat} (h : openB l j = true) : j + 2 ≤ l.length := by
  unfold openB at h
  rw [Bool.and_eq_true] at h
  exact lt_of_isB h.2 (by decide)
theorem behindGo_fuel (l : List Int) : ∀ (f g j : Nat), l.length < j + f → l.length < j + g → behindGo f l j = behindGo g l j
  | f, g, j, hf, hg => by
    by_cases h : openB l j = true
    · have h2 := openB_lt h
      obtain ⟨f, rfl⟩ : ∃ f', f = f' + 1 := ⟨f - 1, by omega⟩
      obtain ⟨g, rfl⟩ : ∃ g', g = g' + 1 := ⟨g - 1, by omega⟩
      rw [behindGo, behindGo, if_pos h, if_pos h]
      have := (skipGo_ge l (l.length + 1) (j + 2) h2).1
      exact behindGo_fuel l f g _ (by omega) (by omega)
    · rw [behindGo_stop f (by simpa using h), behindGo_stop g (by simpa using h)]
theorem behindF_step {l : List Int} {j : Nat} (h : openB l j = true) : behindF l j = behindF l (skipF l (j + 2)) := by
  have h2 := openB_lt h
  unfold behindF
  rw [behindGo, if_pos h]
  have := (skipGo_ge l (l.length + 1) (j + 2) h2).1
  exact behindGo_fuel l _ _ _ (by omega) (by omega)
theorem behindF_stop {l : List Int} {j : Nat} (h : openB l j = false) : behindF l j = j := behindGo_stop _ h
theorem asc_open : Asc ⟨#[47, 42]⟩ := ⟨by decide, by decide⟩
theorem asc_close : Asc ⟨#[42, 47]⟩ := ⟨by decide, by decide⟩
theorem beg_open (l : List Int) (k : Nat) : begB l k (ascI ⟨#[47, 42]⟩) = openB l k := by
  show (isB l k 47 && (isB l (k + 1) 42 && true)) = _
  rw [Bool.and_true]; rfl
theorem beg_close (l : List Int) (k : Nat) : begB l k (ascI ⟨#[42, 47]⟩) = (isB l k 42 && isB l (k + 1) 47) := by
  show (isB l k 42 && (isB l (k + 1) 47 && true)) = _
  rw [Bool.and_true]

set_option maxRecDepth 100000 in
set_option maxHeartbeats 1000000 in
theorem passComments_any {a : Option Addr} {n cap : Nat} {l : List Int} {w : World} (i : Int) (k : Nat) (h : Src w a n cap l) (hi : i = (k : Int)) (hk : k ≤ n) :
    Calls Tryz.prog 41 #[.slice a n cap, .int .i64 i] w (Told (.int .i64 (behindF l k : Nat)) w) := by
  subst hi
  have hsm := h.small
  have hlen := h.len
  generalize hR : behindF l k = R
  have H := Lib.hid h
  have HR := Lib.hid hR
  have HL := Lib.hid hlen
  clear h hR hlen
  go_enter Tryz.func41, Tryz.ntmps41
  go_wp2_with fail
  go_loopw [1] (fun v wr => ∃ j : Nat, v = .int .i64 j ∧ j ≤ n ∧ Hid (behindF l j = R) ∧ Below w.heap.size w wr) (fun v _ => n - (intOf v).toNat)
  case atStart => exact ⟨k, rfl, hk, HR, Below.refl _ _⟩
  case round =>
    obtain ⟨j, rfl, hj, hG, hbl⟩ := hrel
    have c := begins_any (j : Int) j ⟨#[47, 42]⟩ (H.out.later hbl) rfl (by omega) asc_open
    rw [beg_open] at c
    have HBL := Lib.hid hbl
    clear hbl
    rcases ho : openB l j with _ | _
    · rw [ho] at c
      have e := Lib.hid ((behindF_stop ho).symm.trans hG.out)
      clear ho
      go_wp2_with (go_at_call 83; (with_reducible refine c.mono ?_); rintro e w' ⟨rfl, hb⟩)
      go_ret
      exact ⟨ret_int (by rw [e.out]), below_trans HBL.out hb⟩
    · rw [ho] at c
      have hj2 : j + 2 ≤ n := by rw [← HL.out]; exact openB_lt ho
      have e := Lib.hid ((behindF_step ho).symm.trans hG.out)
      have hsk := (skipGo_ge l (l.length + 1) (j + 2) (openB_lt ho)).1
      have HSK := Lib.hid (show min (j + 2 + 2) n ≤ skipF l (j + 2) from by have := HL.out; unfold skipF; omega)
      clear ho hG hsk
      generalize hS : skipF l (j + 2) = S at *
      have HS := Lib.hid hS
      clear hS
      go_wp2_with (go_at_call 83; (with_reducible refine c.mono ?_); rintro e w' ⟨rfl, hb⟩; have HB1 := Lib.hid (below_trans HBL.out hb); clear hb)
      go_loopw [1] (fun v wr => ∃ q : Nat, v = .int .i64 q ∧ q ≤ n ∧ Hid (skipF l q = S) ∧ Below w.heap.size w wr) (fun v _ => n - (intOf v).toNat)
      case atStart => exact ⟨j + 2, by go_num, hj2, HS, HB1.out⟩
      case round =>
        obtain ⟨q, rfl, hq, hG, hbl⟩ := hrel
        have c2 := begins_any (q : Int) q ⟨#[42, 47]⟩ (H.out.later hbl) rfl (by omega) asc_close
        rw [beg_close] at c2
        have c3 := fun w => within_any (a := a) (n := n) (cap := cap) (w := w) ((q : Int) + 2) (q + 2) (by omega) (by omega) (by omega)
        have HBL2 := Lib.hid hbl
        clear hbl
        by_cases hlt : q < n
        · have hlt' : (q : Int) < (n : Int) := by omega
          rcases ho : (isB l q 42 && isB l (q + 1) 47) with _ | _
          · rw [ho] at c2
            have e2 := Lib.hid ((skipF_step (by rw [HL.out]; exact hlt) ho).symm.trans hG.out)
            clear ho hG
            go_wp2_with (go_at_call 83; (with_reducible refine c2.mono ?_); rintro e w' ⟨rfl, hb⟩; have HB2 := Lib.hid (below_trans HBL2.out hb); clear hb)
            go_roundw
            case rel => exact ⟨q + 1, by go_num, by omega, e2, HB2.out⟩
            case measure => simp [intOf]; omega
          · rw [ho] at c2
            have e2 := Lib.hid ((skipF_hit (by rw [HL.out]; exact hlt) ho).symm.trans hG.out)
            clear ho hG
            go_wp2_with (first | (go_at_call 83; (with_reducible refine c2.mono ?_); rintro e w' ⟨rfl, hb⟩; have HB2 := Lib.hid (below_trans HBL2.out hb); clear hb) | (go_at_call 42; (with_reducible refine (c3 _).mono ?_); rintro e w' ⟨rfl, rfl⟩))
            go_roundw
            case rel => exact ⟨min (q + 2) n, by go_num, Nat.min_le_right _ _, Lib.hid (by have := e.out; rw [← e2.out, HL.out] at this; exact this), HB2.out⟩
            case measure => have h1 := HSK.out; have h2 := e2.out; rw [HL.out] at h2; simp [intOf]; omega
        · have hlt' : ¬ (q : Int) < (n : Int) := by omega
          have e2 := Lib.hid ((skipF_end (by rw [HL.out]; omega)).symm.trans hG.out)
          clear hG
          go_wp2_with (go_at_call 42; (with_reducible refine (c3 _).mono ?_); rintro e w' ⟨rfl, rfl⟩)
          go_roundw
          case rel => exact ⟨min (q + 2) n, by go_num, Nat.min_le_right _ _, Lib.hid (by have := e.out; rw [← e2.out, HL.out] at this; exact this), HBL2.out⟩
          case measure => have h1 := HSK.out; have h2 := e2.out; rw [HL.out] at h2; simp [intOf]; omega
end

section
open Go.RowKit Go.Shelf
set_option linter.unusedVariables false
set_option linter.unusedSimpArgs false

set_option maxRecDepth 100000 in
theorem hexC_any (c : Int) (w : World) (hc : Ch c) : Calls Tryz.prog 145 #[.int .i64 c] w (Tells (.tuple #[.int .i64 (if 0 ≤ hexV c then hexV c else 0), .bool (decide (0 ≤ hexV c))]) w) := by
  have c1 := fun w => small_any c w hc
  have c2 := fun w => digit_any c w hc
  obtain ⟨h0, h1⟩ := hc
  unfold hexV digitB at *
  rcases (show (48 ≤ c ∧ c ≤ 57) ∨ (¬ (48 ≤ c ∧ c ≤ 57) ∧ (97 ≤ smallF c ∧ smallF c ≤ 102)) ∨ (¬ (48 ≤ c ∧ c ≤ 57) ∧ smallF c < 97) ∨ (¬ (48 ≤ c ∧ c ≤ 57) ∧ 97 ≤ smallF c ∧ ¬ smallF c ≤ 102) by omega) with h | ⟨h, h'⟩ | ⟨h, h'⟩ | ⟨h, h', h''⟩
  · rw [decide_eq_true h] at c2
    rw [if_pos h, if_pos (show (0 : Int) ≤ c - 48 by omega), decide_eq_true (show (0 : Int) ≤ c - 48 by omega)]
    generalize smallF c = s at *
    go_enter Tryz.func145, Tryz.ntmps145
    go_wp2_with (first | (go_at_call 96; refine (c1 _).mono ?_; rintro e w' ⟨rfl, rfl⟩) | (go_at_call 104; refine (c2 _).mono ?_; rintro e w' ⟨rfl, rfl⟩))
    go_ret2
    exact ⟨rfl, rfl⟩
  · have hb : smallF c < 1114200 := by unfold smallF; split <;> omega
    rw [decide_eq_false h] at c2
    rw [if_neg h, if_pos h']
    generalize smallF c = s at *
    obtain ⟨q1, q2⟩ := h'
    rw [if_pos (show (0 : Int) ≤ s - 87 by omega), decide_eq_true (show (0 : Int) ≤ s - 87 by omega)]
    go_enter Tryz.func145, Tryz.ntmps145
    go_wp2_with (first | (go_at_call 96; refine (c1 _).mono ?_; rintro e w' ⟨rfl, rfl⟩) | (go_at_call 104; refine (c2 _).mono ?_; rintro e w' ⟨rfl, rfl⟩))
    go_ret2
    exact ⟨ret_ib (by omega) rfl, rfl⟩
  · have hb : -10 < smallF c := by unfold smallF; split <;> omega
    rw [decide_eq_false h] at c2
    rw [if_neg h, show (if 97 ≤ smallF c ∧ smallF c ≤ 102 then smallF c - 87 else (-1 : Int)) = -1 from if_neg (fun h => by omega), if_neg (by decide), decide_eq_false (by decide)]
    generalize smallF c = s at *
    have q1 : ¬ 97 ≤ s := by omega
    go_enter Tryz.func145, Tryz.ntmps145
    go_wp2_with (first | (go_at_call 96; refine (c1 _).mono ?_; rintro e w' ⟨rfl, rfl⟩) | (go_at_call 104; refine (c2 _).mono ?_; rintro e w' ⟨rfl, rfl⟩))
    go_ret2
    exact ⟨rfl, rfl⟩
  · have hb : smallF c < 1114200 := by unfold smallF; split <;> omega
    rw [decide_eq_false h] at c2
    rw [if_neg h, show (if 97 ≤ smallF c ∧ smallF c ≤ 102 then smallF c - 87 else (-1 : Int)) = -1 from if_neg (fun h => by omega), if_neg (by decide), decide_eq_false (by decide)]
    generalize smallF c = s at *
    go_enter Tryz.func145, Tryz.ntmps145
    go_wp2_with (first | (go_at_call 96; refine (c1 _).mono ?_; rintro e w' ⟨rfl, rfl⟩) | (go_at_call 104; refine (c2 _).mono ?_; rintro e w' ⟨rfl, rfl⟩))
    go_ret2
    exact ⟨rfl, rfl⟩

/-- What the program takes an escape for: 0 where it ends, and no stand-in yet. -/
def valC (l : List Int) (j : Nat) : Int × Nat :=
  if (hexGo 6 l (j + 1) 0).2 = j + 1 then (if l.length ≤ j + 1 then (0, j + 1) else (chA l (j + 1), j + 2))
  else ((hexGo 6 l (j + 1) 0).1, if spB l (hexGo 6 l (j + 1) 0).2 then (hexGo 6 l (j + 1) 0).2 + 1 else (hexGo 6 l (j + 1) 0).2)
theorem cleanF_clean (c : Int) : cleanF (cleanF c) = cleanF c := by
  unfold cleanF
  by_cases h : c = 0
  · rw [if_pos h]; decide
  · rw [if_neg h]
    have h1 : charOf (charOf c) = charOf c := by
      have := charOf_right c
      generalize charOf c = d at *
      unfold charOf
      rw [if_pos this]
    have h2 : charOf c ≠ 0 := by
      unfold charOf
      split
      · exact h
      · decide
    rw [if_neg h2, h1]
theorem valC_value {l : List Int} {j : Nat} (hl : Pre l) : (valC l j).2 = (valueF l j).2 ∧ cleanF (valC l j).1 = cleanF (valueF l j).1 := by
  unfold valC valueF
  by_cases h1 : l.length ≤ j + 1
  · have hx : hxB l (j + 1) = false := by
      rcases h : hxB l (j + 1) with _ | _
      · rfl
      · have := lt_of_hxB h; omega
    have hs : hexGo 6 l (j + 1) 0 = (0, j + 1) := hexGo_stop 6 (.inr hx)
    rw [hs, if_pos rfl, if_pos h1, if_pos h1]
    refine ⟨rfl, ?_⟩
    show cleanF 0 = cleanF 65533
    decide
  · rw [if_neg h1, if_neg h1]
    by_cases h2 : (hexGo 6 l (j + 1) 0).2 = j + 1
    · rw [if_pos h2, if_pos h2]; exact ⟨rfl, rfl⟩
    · rw [if_neg h2, if_neg h2]; exact ⟨rfl, (cleanF_clean _).symm⟩
theorem hex_lt {m d : Int} {p : Nat} (h0 : 0 ≤ m) (h : m < 16 ^ p) (hd0 : 0 ≤ d) (hd : d ≤ 15) : 0 ≤ 16 * m + d ∧ 16 * m + d < 16 ^ (p + 1) := by
  rw [Int.pow_succ]; omega
theorem hex_lt6 {m : Int} {p : Nat} (h : m < 16 ^ p) (hp : p ≤ 6) : m < 16777216 := by
  have : p = 0 ∨ p = 1 ∨ p = 2 ∨ p = 3 ∨ p = 4 ∨ p = 5 ∨ p = 6 := by omega
  rcases this with rfl | rfl | rfl | rfl | rfl | rfl | rfl <;> omega
theorem hexV_bdC (c : Int) : hexV c ≤ 15 := by
  unfold hexV
  split
  · omega
  · split <;> omega
theorem ret_ii {k k' : IntKind} {a b c d : Int} (h : a = b) (h2 : c = d) : Ending.returned (.tuple #[.int k a, .int k' c]) = .returned (.tuple #[.int k b, .int k' d]) := by rw [h, h2]

set_option maxRecDepth 100000 in
set_option maxHeartbeats 1000000 in
theorem readEscape_any {a : Option Addr} {n cap : Nat} {l : List Int} {w : World} (i : Int) (k : Nat) (h : Src w a n cap l) (hi : i = (k : Int)) (hk : k < n) :
    Calls Tryz.prog 121 #[.slice a n cap, .int .i64 i] w (Tells (.tuple #[.int .i64 (valC l k).1, .int .i64 ((valC l k).2 : Nat)]) w) := by
  subst hi
  have hsm := h.small
  generalize hV : valC l k = V
  unfold valC at hV
  generalize hH : hexGo 6 l (k + 1) 0 = HX at hV
  have HV := Lib.hid hV
  have HH := Lib.hid hH
  have H := Lib.hid h
  have HL := Lib.hid h.len
  clear hV hH h
  go_enter Tryz.func121, Tryz.ntmps121
  go_wp2_with fail
  go_loopw [4, 5, 7, 8] (fun cv tv _ _ wr => ∃ (T : Nat) (m : Int), cv = .int .i64 m ∧ tv = .int .i64 T ∧ k + 1 ≤ T ∧ T ≤ k + 7 ∧ T ≤ n ∧ Hid (hexGo (k + 7 - T) l T m = HX) ∧ Hid (0 ≤ m ∧ m < 16 ^ (T - (k + 1))) ∧ wr = w) (fun _ tv _ _ _ => n - (intOf tv).toNat)
  case atStart => exact ⟨k + 1, 0, rfl, by go_num, by omega, by omega, by omega, Lib.hid (by rw [show k + 7 - (k + 1) = 6 by omega]; exact HH.out), Lib.hid (by rw [Nat.sub_self]; decide), by first | rfl | trivial⟩
  case round =>
    obtain ⟨T, m, rfl, rfl, hT1, hT7, hTn, hG, hM, rfl⟩ := hrel
    have hm0 := hM.out.1
    have hm1 := hex_lt6 hM.out.2 (by omega)
    have cS := isSp_any (T : Int) T H.out rfl
    by_cases hA : T < n
    · have hA' : (T : Int) < (n : Int) := by omega
      obtain ⟨b, off, rfl, hcell⟩ := H.out.cell T hA
      by_cases hB : T < k + 7
      · have hB' : (T : Int) < (k : Int) + 1 + 6 := by omega
        have hB2 : (T : Int) < (k : Int) + 7 := by omega
        have cH := fun w => hexC_any (chA l T) w (chA_ch H.out.pre T)
        obtain ⟨f, hf⟩ : ∃ f, k + 7 - T = f + 1 := ⟨k + 6 - T, by omega⟩
        rcases hx : hxB l T with _ | _
        · have hGG := hG.out
          rw [hexGo_stop _ (.inr hx)] at hGG
          have hx' := hx
          unfold hxB at hx'
          rw [hx', if_neg (of_decide_eq_false hx')] at cH
          have HVV := HV.out
          rw [← hGG] at HVV
          have HVV := Lib.hid HVV
          clear hGG hx hx' hG hM
          generalize hz : chA l T = z at *
          have HZ := Lib.hid hz
          clear hz
          rcases hs : spB l T with _ | _
          all_goals
            rw [hs] at cS
            have HSP := Lib.hid hs
            clear hs
            by_cases h0 : T = k + 1
            · have hg : ¬ (T : Int) > (k : Int) + 1 := by omega
              have hne : ((T : Int) == (n : Int)) = false := beq_eq_false_iff_ne.2 (by omega)
              have HF := Lib.hid h0
              clear h0
              go_wp2_with (first
                | (go_at_call 145; refine (cH _).mono ?_; rintro e w' ⟨rfl, rfl⟩)
                | (go_at_call 119; refine cS.mono ?_; rintro e w' ⟨rfl, rfl⟩))
              go_ret2
              have HV2 := HVV.out
              rw [if_pos HF.out, if_neg (by rw [HL.out]; omega)] at HV2
              exact ⟨by rw [← HV2]; exact ret_ii (by have := HZ.out; rw [HF.out] at this; exact this.symm) (by have := HF.out; show (_ : Int) = ((k + 2 : Nat) : Int); omega), rfl⟩
            · have hg : (T : Int) > (k : Int) + 1 := by omega
              have HF := Lib.hid h0
              clear h0
              go_wp2_with (first
                | (go_at_call 145; refine (cH _).mono ?_; rintro e w' ⟨rfl, rfl⟩)
                | (go_at_call 119; refine cS.mono ?_; rintro e w' ⟨rfl, rfl⟩))
              go_ret2
              have HV2 := HVV.out
              rw [if_neg HF.out] at HV2
              simp only [HSP.out, if_true, Bool.false_eq_true, if_false] at HV2
              exact ⟨by rw [← HV2]; exact ret_ii rfl (by simp), rfl⟩
        · have hGG := hG.out
          rw [hf, hexGo, if_pos hx] at hGG
          have hx' := hx
          unfold hxB at hx'
          rw [hx', if_pos (of_decide_eq_true hx')] at cH
          have hd0 := of_decide_eq_true hx'
          have hd1 := hexV_bdC (chA l T)
          have hmm := hex_lt (p := T - (k + 1)) hM.out.1 hM.out.2 hd0 hd1
          rw [show T - (k + 1) + 1 = T + 1 - (k + 1) by omega] at hmm
          have HMM := Lib.hid hmm
          have HGG := Lib.hid (show hexGo (k + 7 - (T + 1)) l (T + 1) (16 * m + hexV (chA l T)) = HX from by rw [show k + 7 - (T + 1) = f by omega]; exact hGG)
          clear hGG hx hx' hmm hG hM cS hf
          generalize hexV (chA l T) = d at *
          generalize chA l T = z at *
          go_wp2_with (go_at_call 145; refine (cH _).mono ?_; rintro e w' ⟨rfl, rfl⟩)
          go_roundw
          case rel => exact ⟨T + 1, 16 * m + d, by go_num, by go_num, by omega, by omega, by omega, HGG, HMM, by first | rfl | trivial⟩
          case measure => simp [intOf]; omega
      · have hB' : ¬ (T : Int) < (k : Int) + 1 + 6 := by omega
        have hB2 : ¬ (T : Int) < (k : Int) + 7 := by omega
        have hGG := hG.out
        rw [show k + 7 - T = 0 by omega, hexGo] at hGG
        have HVV := HV.out
        rw [← hGG] at HVV
        have HVV := Lib.hid HVV
        clear hGG hG hM hcell
        have hg : (T : Int) > (k : Int) + 1 := by omega
        have h0 : T ≠ k + 1 := by omega
        rcases hs : spB l T with _ | _
        all_goals
          rw [hs] at cS
          have HSP := Lib.hid hs
          have HF := Lib.hid h0
          clear hs h0
          go_wp2_with (go_at_call 119; refine cS.mono ?_; rintro e w' ⟨rfl, rfl⟩)
          go_ret2
          have HV2 := HVV.out
          rw [if_neg HF.out] at HV2
          simp only [HSP.out, if_true, Bool.false_eq_true, if_false] at HV2
          exact ⟨by rw [← HV2]; exact ret_ii rfl (by simp), rfl⟩
    · have hA' : ¬ (T : Int) < (n : Int) := by omega
      obtain rfl : T = n := by omega
      have hx : hxB l T = false := by
        rcases h : hxB l T with _ | _
        · rfl
        · have := lt_of_hxB h; rw [HL.out] at this; omega
      have hs : spB l T = false := by
        rcases h : spB l T with _ | _
        · rfl
        · have := lt_of_spB h; rw [HL.out] at this; omega
      rw [hs] at cS
      have hGG := hG.out
      rw [hexGo_stop _ (.inr hx)] at hGG
      have HVV := HV.out
      rw [← hGG] at HVV
      have HVV := Lib.hid HVV
      have HSP := Lib.hid hs
      clear hGG hG hx hs
      by_cases h0 : T = k + 1
      · have hg : ¬ (T : Int) > (k : Int) + 1 := by omega
        have hm : m = 0 := by
          have := hM.out.2
          rw [h0, Nat.sub_self] at this
          have e : (16 : Int) ^ 0 = 1 := rfl
          omega
        have hne : ((T : Int) == (T : Int)) = true := beq_self_eq_true _
        have HF := Lib.hid h0
        have HM := Lib.hid hm
        clear h0 hM hm
        go_wp2
        go_ret2
        have HV2 := HVV.out
        rw [if_pos HF.out, if_pos (by rw [HL.out]; have := HF.out; omega)] at HV2
        exact ⟨by rw [← HV2]; exact ret_ii HM.out (by have := HF.out; show (_ : Int) = ((k + 1 : Nat) : Int); omega), rfl⟩
      · have hg : (T : Int) > (k : Int) + 1 := by omega
        have HF := Lib.hid h0
        clear h0 hM
        go_wp2_with (go_at_call 119; refine cS.mono ?_; rintro e w' ⟨rfl, rfl⟩)
        go_ret2
        have HV2 := HVV.out
        rw [if_neg HF.out] at HV2
        simp only [HSP.out, if_true, Bool.false_eq_true, if_false] at HV2
        exact ⟨by rw [← HV2]; exact ret_ii rfl (by simp), rfl⟩
end

section
open Go

theorem index_same (c : UInt8) (l : List UInt8) : Lib.index (c :: l) [c] = 0 := by
  unfold Lib.index
  simp [List.isPrefixOf]
theorem index_other {b c : UInt8} (h : b ≠ c) (l : List UInt8) : Lib.index (b :: l) [c] = if Lib.index l [c] == -1 then -1 else Lib.index l [c] + 1 := by
  rw [Lib.index]
  have : ([c] : List UInt8).isPrefixOf (b :: l) = false := by simp [List.isPrefixOf]; exact fun e => h e.symm
  rw [this]; simp

theorem count_same (c : UInt8) (l : List UInt8) : Lib.count (c :: l) [c] = 1 + Lib.count l [c] :=
  Lib.count_hit (i := 0) (by simp) (index_same c l)
theorem count_other {b c : UInt8} (h : b ≠ c) (l : List UInt8) : Lib.count (b :: l) [c] = Lib.count l [c] := by
  have hi := index_other h l
  by_cases hm : Lib.index l [c] = -1
  · rw [Lib.count_miss hm, Lib.count_miss (by rw [hi, hm]; rfl)]
  · have hge := Lib.index_ge l [c]
    obtain ⟨i, hi2⟩ : ∃ i : Nat, Lib.index l [c] = i := ⟨(Lib.index l [c]).toNat, by omega⟩
    have hq : (Lib.index l [c] == -1) = false := beq_eq_false_iff_ne.2 hm
    rw [hq, hi2] at hi
    rw [Lib.count_hit (i := i) (by simp) hi2, Lib.count_hit (i := i + 1) (by simp) (by rw [hi]; simp)]
    rfl
theorem replaceK_other {b c : UInt8} (h : b ≠ c) (new : List UInt8) (k : Nat) (l : List UInt8) : Lib.replaceK [c] new k (b :: l) = b :: Lib.replaceK [c] new k l := by
  cases k with
  | zero => rfl
  | succ k =>
    have hi := index_other h l
    by_cases hm : Lib.index l [c] = -1
    · rw [Lib.replaceK, Lib.replaceK, if_pos (beq_iff_eq.2 hm), if_pos (by rw [hi, hm]; rfl)]
    · have hge := Lib.index_ge l [c]
      obtain ⟨i, hi2⟩ : ∃ i : Nat, Lib.index l [c] = i := ⟨(Lib.index l [c]).toNat, by omega⟩
      have hq : (Lib.index l [c] == -1) = false := beq_eq_false_iff_ne.2 hm
      rw [hq, hi2] at hi
      rw [Lib.replaceK_hit _ _ _ _ i hi2, Lib.replaceK_hit _ _ _ _ (i + 1) (by rw [hi]; simp)]
      rfl
theorem replaceK_one (c : UInt8) (new : List UInt8) : ∀ (s : List UInt8) (k : Nat), Lib.count s [c] ≤ k → Lib.replaceK [c] new k s = s.flatMap fun b => if b = c then new else [b]
  | [], k, _ => by cases k <;> rfl
  | b :: l, k, h => by
    rw [List.flatMap_cons]
    by_cases hb : b = c
    · subst hb
      rw [count_same] at h
      obtain ⟨k', rfl⟩ : ∃ k', k = k' + 1 := ⟨k - 1, by omega⟩
      rw [Lib.replaceK_hit _ _ _ _ 0 (index_same b l), if_pos rfl]
      show [] ++ new ++ Lib.replaceK [b] new k' l = _
      rw [replaceK_one b new l k' (by omega)]; rfl
    · rw [replaceK_other hb, if_neg hb, replaceK_one c new l k (by rw [count_other hb] at h; exact h)]; rfl
theorem replaceAll_one (c : UInt8) (new : List UInt8) (hn : ([c] == new) = false) (s : List UInt8) : Lib.replaceAll s [c] new = s.flatMap fun b => if b = c then new else [b] := by
  unfold Lib.replaceAll Lib.replace
  rw [hn]
  have : Lib.replaceNum s [c] (-1) = Lib.count s [c] := by unfold Lib.replaceNum; rw [if_pos (.inl (by decide))]
  rw [this]
  exact replaceK_one c new s _ (Nat.le_refl _)
end
end Go.Proofs.YtickcbmfboajiaaGreatDoor
