/- Tokens, the program's side: what stands at a place: walks over any characters. -/
import Derived.Test.YtdopmkiogmejaaaDoorTm
import Derived.Test.YtdopmkiogmejaaaDoorLw
import Derived.Shelf.Abstract
import Derived.Laws.RangeString
import Derived.FnLit
namespace Go.Proofs.YtdopmkiogmejaaaDoor
open Go.RowKit Go.Shelf
set_option linter.unusedVariables false

theorem isB_endC {l : List Int} {k : Nat} {c : Int} (h : l.length ≤ k) (hc : c ≠ 0) : isB l k c = false := by
  unfold isB; rw [chA_end l k h]; exact decide_eq_false (fun e => hc e.symm)

set_option maxRecDepth 100000 in
theorem within_any {a : Option Addr} {n cap : Nat} {w : World} (i : Int) (k : Nat) (hi : i = (k : Int)) (hk : k ≤ 300000) (hn : n ≤ 100000) :
    Calls Tryd.prog 29 #[.slice a n cap, .int .i64 i] w (Tells (.int .i64 ((min k n : Nat) : Int)) w) := by
  subst hi
  go_enter Tryd.func29, Tryd.ntmps29
  go_wp2
  all_goals
    go_ret
    exact ⟨ret_int (by omega), rfl⟩

set_option maxRecDepth 100000 in
theorem stands_any {a : Option Addr} {n cap : Nat} {l : List Int} {w : World} (i : Int) (k : Nat) (c : Int) (h : Src w a n cap l) (hi : i = (k : Int)) (hc : c ≠ 0) :
    Calls Tryd.prog 45 #[.slice a n cap, .int .i64 i, .int .i64 c] w (Tells (.bool (isB l k c)) w) := by
  subst hi
  have hsm := h.small
  by_cases hlt : k < n
  · obtain ⟨b, off, rfl, hcell⟩ := h.cell k hlt
    have hlt' : (k : Int) < (n : Int) := by omega
    have hq : (chA l k == c) = isB l k c := by unfold isB; rfl
    generalize isB l k c = p at *
    generalize chA l k = z at *
    clear h hc
    go_enter Tryd.func45, Tryd.ntmps45
    go_wp2
    go_ret
    exact ⟨rfl, rfl⟩
  · have hlt' : ¬ (k : Int) < (n : Int) := by omega
    rw [isB_endC (by rw [h.len]; omega) hc]
    go_enter Tryd.func45, Tryd.ntmps45
    go_wp2
    go_ret
    exact ⟨rfl, rfl⟩

set_option maxRecDepth 100000 in
theorem isOf_any (g : Nat) (eg : ∀ args w, (callFunc g args).run Tryd.prog w = .ok (.enter g args) w) (f : Int → Bool) (hf : ∀ c w, Ch c → Calls Tryd.prog g #[.int .i64 c] w (Tells (.bool (f c)) w)) (f0 : f 0 = false)
    {a : Option Addr} {n cap : Nat} {l : List Int} {w : World} (i : Int) (k : Nat) (h : Src w a n cap l) (hi : i = (k : Int)) :
    Calls Tryd.prog 46 #[.slice a n cap, .int .i64 i, .func (.func g) #[] #[]] w (Tells (.bool (f (chA l k))) w) := by
  subst hi
  have hsm := h.small
  by_cases hlt : k < n
  · obtain ⟨b, off, rfl, hcell⟩ := h.cell k hlt
    have hlt' : (k : Int) < (n : Int) := by omega
    have cF := fun w => hf (chA l k) w (chA_ch h.pre k)
    generalize f (chA l k) = p at *
    generalize chA l k = z at *
    clear h hf
    go_enter Tryd.func46, Tryd.ntmps46
    go_wp2_with (go_at_fn g; refine (cF _).mono ?_; rintro e w' ⟨rfl, rfl⟩)
    go_ret
    exact ⟨rfl, rfl⟩
  · have hlt' : ¬ (k : Int) < (n : Int) := by omega
    rw [chA_end l k (by rw [h.len]; omega), f0]
    clear hf f0
    go_enter Tryd.func46, Tryd.ntmps46
    go_wp2
    go_ret
    exact ⟨rfl, rfl⟩
section
variable {a : Option Addr} {n cap : Nat} {l : List Int} {w : World} (i : Int) (k : Nat)
theorem isSp_any (h : Src w a n cap l) (hi : i = (k : Int)) :
    Calls Tryd.prog 46 #[.slice a n cap, .int .i64 i, .func (.func 35) #[] #[]] w (Tells (.bool (spB l k)) w) :=
  isOf_any 35 (enters_of Tryd.func35 (by kernel_rfl) rfl) spaceB (fun c w hc => space_any c w hc) (by decide) i k h hi
theorem isDg_any (h : Src w a n cap l) (hi : i = (k : Int)) :
    Calls Tryd.prog 46 #[.slice a n cap, .int .i64 i, .func (.func 51) #[] #[]] w (Tells (.bool (dgB l k)) w) :=
  isOf_any 51 (enters_of Tryd.func51 (by kernel_rfl) rfl) digitB (fun c w hc => digit_any c w hc) (by decide) i k h hi
theorem isSt_any (h : Src w a n cap l) (hi : i = (k : Int)) :
    Calls Tryd.prog 46 #[.slice a n cap, .int .i64 i, .func (.func 55) #[] #[]] w (Tells (.bool (stB l k)) w) :=
  isOf_any 55 (enters_of Tryd.func55 (by kernel_rfl) rfl) startB (fun c w hc => start_any c w hc) (by decide) i k h hi
theorem isNm_any (h : Src w a n cap l) (hi : i = (k : Int)) :
    Calls Tryd.prog 46 #[.slice a n cap, .int .i64 i, .func (.func 58) #[] #[]] w (Tells (.bool (nmB l k)) w) :=
  isOf_any 58 (enters_of Tryd.func58 (by kernel_rfl) rfl) nameB (fun c w hc => name_any c w hc) (by decide) i k h hi

set_option maxRecDepth 100000 in
theorem isEscape_any (h : Src w a n cap l) (hi : i = (k : Int)) (hk : k ≤ 300000) :
    Calls Tryd.prog 47 #[.slice a n cap, .int .i64 i] w (Tells (.bool (escB l k)) w) := by
  subst hi
  have c1 := stands_any (k : Int) k 92 h rfl (by decide)
  have c2 := stands_any ((k : Int) + 1) (k + 1) 10 h (by omega) (by decide)
  unfold escB
  generalize isB l k 92 = p at *
  generalize isB l (k + 1) 10 = q at *
  clear h
  cases p
  all_goals
    go_enter Tryd.func47, Tryd.ntmps47
    go_wp2_with (go_at_call 45; first | ((with_reducible refine c1.mono ?_); rintro e w' ⟨rfl, rfl⟩) | ((with_reducible refine c2.mono ?_); rintro e w' ⟨rfl, rfl⟩))
    go_ret
    exact ⟨rfl, rfl⟩

set_option maxRecDepth 100000 in
theorem isPM_any (h : Src w a n cap l) (hi : i = (k : Int)) :
    Calls Tryd.prog 50 #[.slice a n cap, .int .i64 i] w (Tells (.bool (isB l k 43 || isB l k 45)) w) := by
  have c1 := stands_any i k 43 h hi (by decide)
  have c2 := stands_any i k 45 h hi (by decide)
  generalize isB l k 43 = p at *
  generalize isB l k 45 = q at *
  clear h hi
  cases p
  all_goals
    go_enter Tryd.func50, Tryd.ntmps50
    go_wp2_with (go_at_call 45; first | ((with_reducible refine c1.mono ?_); rintro e w' ⟨rfl, rfl⟩) | ((with_reducible refine c2.mono ?_); rintro e w' ⟨rfl, rfl⟩))
    go_ret
    exact ⟨rfl, rfl⟩

set_option maxRecDepth 100000 in
theorem isFrac_any (h : Src w a n cap l) (hi : i = (k : Int)) (hk : k ≤ 300000) :
    Calls Tryd.prog 52 #[.slice a n cap, .int .i64 i] w (Tells (.bool (fracAt l k)) w) := by
  subst hi
  have c1 := stands_any (k : Int) k 46 h rfl (by decide)
  have c2 := isDg_any ((k : Int) + 1) (k + 1) h (by omega)
  unfold fracAt
  generalize isB l k 46 = p at *
  generalize dgB l (k + 1) = q at *
  clear h
  cases p
  all_goals
    go_enter Tryd.func52, Tryd.ntmps52
    go_wp2_with (first | (go_at_call 45; (with_reducible refine c1.mono ?_); rintro e w' ⟨rfl, rfl⟩) | (go_at_call 46; (with_reducible refine c2.mono ?_); rintro e w' ⟨rfl, rfl⟩))
    go_ret
    exact ⟨rfl, rfl⟩

set_option maxRecDepth 100000 in
theorem hasName_any (h : Src w a n cap l) (hi : i = (k : Int)) (hk : k ≤ 300000) :
    Calls Tryd.prog 43 #[.slice a n cap, .int .i64 i] w (Tells (.bool (nmB l k || escB l k)) w) := by
  have c1 := isNm_any i k h hi
  have c2 := isEscape_any i k h hi hk
  generalize nmB l k = p at *
  generalize escB l k = q at *
  clear h hi
  cases p
  all_goals
    go_enter Tryd.func43, Tryd.ntmps43
    go_wp2_with (first | (go_at_call 46; (with_reducible refine c1.mono ?_); rintro e w' ⟨rfl, rfl⟩) | (go_at_call 47; (with_reducible refine c2.mono ?_); rintro e w' ⟨rfl, rfl⟩))
    go_ret
    exact ⟨rfl, rfl⟩

set_option maxRecDepth 100000 in
theorem startsName_any (h : Src w a n cap l) (hi : i = (k : Int)) (hk : k ≤ 200000) :
    Calls Tryd.prog 40 #[.slice a n cap, .int .i64 i] w (Tells (.bool (nameAt l k)) w) := by
  subst hi
  have c0 := stands_any (k : Int) k 45 h rfl (by decide)
  unfold nameAt
  rcases h0 : isB l k 45 with _ | _
  · rw [h0] at c0
    rw [if_neg (by decide)]
    have c1 := isSt_any (k : Int) k h rfl
    have c2 := isEscape_any (k : Int) k h rfl (by omega)
    generalize stB l k = p at *
    generalize escB l k = q at *
    clear h h0
    cases p
    all_goals
      go_enter Tryd.func40, Tryd.ntmps40
      go_wp2_with (first | (go_at_call 45; (with_reducible refine c0.mono ?_); rintro e w' ⟨rfl, rfl⟩) | (go_at_call 46; (with_reducible refine c1.mono ?_); rintro e w' ⟨rfl, rfl⟩) | (go_at_call 47; (with_reducible refine c2.mono ?_); rintro e w' ⟨rfl, rfl⟩))
      go_ret
      exact ⟨rfl, rfl⟩
  · rw [h0] at c0
    rw [if_pos rfl]
    have c1 := stands_any ((k : Int) + 1) (k + 1) 45 h (by omega) (by decide)
    have c2 := isSt_any ((k : Int) + 1) (k + 1) h (by omega)
    have c3 := isEscape_any ((k : Int) + 1) (k + 1) h (by omega) (by omega)
    generalize isB l (k + 1) 45 = r at *
    generalize stB l (k + 1) = p at *
    generalize escB l (k + 1) = q at *
    clear h h0
    cases r
    · cases p
      all_goals
        go_enter Tryd.func40, Tryd.ntmps40
        go_wp2_with (first | (go_at_call 45; first | ((with_reducible refine c0.mono ?_); rintro e w' ⟨rfl, rfl⟩) | ((with_reducible refine c1.mono ?_); rintro e w' ⟨rfl, rfl⟩)) | (go_at_call 46; (with_reducible refine c2.mono ?_); rintro e w' ⟨rfl, rfl⟩) | (go_at_call 47; (with_reducible refine c3.mono ?_); rintro e w' ⟨rfl, rfl⟩))
        go_ret
        exact ⟨rfl, rfl⟩
    · go_enter Tryd.func40, Tryd.ntmps40
      go_wp2_with (go_at_call 45; first | ((with_reducible refine c0.mono ?_); rintro e w' ⟨rfl, rfl⟩) | ((with_reducible refine c1.mono ?_); rintro e w' ⟨rfl, rfl⟩))
      go_ret
      exact ⟨rfl, rfl⟩

set_option maxRecDepth 100000 in
theorem startsNumber_any (h : Src w a n cap l) (hi : i = (k : Int)) (hk : k ≤ 200000) :
    Calls Tryd.prog 38 #[.slice a n cap, .int .i64 i] w (Tells (.bool (numAt l k)) w) := by
  subst hi
  have c0 := isPM_any (k : Int) k h rfl
  unfold numAt signAt
  rcases h0 : (isB l k 43 || isB l k 45) with _ | _
  · rw [h0] at c0
    rw [if_neg (by decide)]
    have c1 := isDg_any (k : Int) k h rfl
    have c2 := isFrac_any (k : Int) k h rfl (by omega)
    generalize dgB l k = p at *
    generalize fracAt l k = q at *
    clear h h0
    cases p
    all_goals
      go_enter Tryd.func38, Tryd.ntmps38
      go_wp2_with (first | (go_at_call 50; (with_reducible refine c0.mono ?_); rintro e w' ⟨rfl, rfl⟩) | (go_at_call 46; (with_reducible refine c1.mono ?_); rintro e w' ⟨rfl, rfl⟩) | (go_at_call 52; (with_reducible refine c2.mono ?_); rintro e w' ⟨rfl, rfl⟩))
      go_ret
      exact ⟨rfl, rfl⟩
  · rw [h0] at c0
    rw [if_pos rfl]
    have c1 := isDg_any ((k : Int) + 1) (k + 1) h (by omega)
    have c2 := isFrac_any ((k : Int) + 1) (k + 1) h (by omega) (by omega)
    generalize dgB l (k + 1) = p at *
    generalize fracAt l (k + 1) = q at *
    clear h h0
    cases p
    all_goals
      go_enter Tryd.func38, Tryd.ntmps38
      go_wp2_with (first | (go_at_call 50; (with_reducible refine c0.mono ?_); rintro e w' ⟨rfl, rfl⟩) | (go_at_call 46; (with_reducible refine c1.mono ?_); rintro e w' ⟨rfl, rfl⟩) | (go_at_call 52; (with_reducible refine c2.mono ?_); rintro e w' ⟨rfl, rfl⟩))
      go_ret
      exact ⟨rfl, rfl⟩
end
end Go.Proofs.YtdopmkiogmejaaaDoor
