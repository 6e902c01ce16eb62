/- Tokens, the program's side: numbers, comments: walks over any characters. -/
import Derived.Test.YtdopmkiogmejaaaDoorTn2
namespace Go.Proofs.YtdopmkiogmejaaaDoor
open Go.RowKit Go.Shelf
set_option linter.unusedVariables false

theorem expo_ne {l : List Int} {j : Nat} : (((expoF l j : Nat) : Int) == (j : Int)) = !expoB l j := by
  unfold expoF
  rcases h : expoB l j with _ | _
  · rw [if_neg (by decide)]; simp
  · rw [if_pos rfl]
    have h1 := (signAt_le l (j + 1)).1
    have h2 := (digitsF_le l (signAt l (j + 1))).1
    show _ = false
    exact beq_eq_false_iff_ne.2 (by omega)

section
variable {a : Option Addr} {n cap : Nat} {l : List Int} {w : World} (i : Int) (k : Nat)
set_option maxRecDepth 100000 in
set_option maxHeartbeats 1000000 in
theorem passExponent_any (h : Src w a n cap l) (hi : i = (k : Int)) (hk : k ≤ 150000) :
    Calls Tryd.prog 63 #[.slice a n cap, .int .i64 i] w (Tells (.int .i64 (expoF l k : Nat)) w) := by
  subst hi
  have c1 := stands_any (k : Int) k 101 h rfl (by decide)
  have c2 := stands_any (k : Int) k 69 h rfl (by decide)
  have c3 := isPM_any ((k : Int) + 1) (k + 1) h (by omega)
  unfold expoF expoB signAt
  rcases hr : (isB l (k + 1) 43 || isB l (k + 1) 45) with _ | _
  · rw [hr] at c3
    have c4 := isDg_any ((k : Int) + 1) (k + 1) h (by omega)
    have c5 := passDigits_any ((k : Int) + 1) (k + 1) h (by omega) (by omega)
    simp only [Bool.false_eq_true, if_false]
    generalize digitsF l (k + 1) = D at *
    generalize isB l k 101 = p at *
    generalize isB l k 69 = q at *
    generalize dgB l (k + 1) = d at *
    clear h hr
    cases p <;> cases q <;> cases d
    all_goals
      go_enter Tryd.func63, Tryd.ntmps63
      go_wp2_with (first
        | (go_at_call 45; first | ((with_reducible refine c1.mono ?_); rintro e w' ⟨rfl, rfl⟩) | ((with_reducible refine c2.mono ?_); rintro e w' ⟨rfl, rfl⟩))
        | (go_at_call 50; (with_reducible refine c3.mono ?_); rintro e w' ⟨rfl, rfl⟩)
        | (go_at_call 46; (with_reducible refine c4.mono ?_); rintro e w' ⟨rfl, rfl⟩)
        | (go_at_call 62; (with_reducible refine c5.mono ?_); rintro e w' ⟨rfl, rfl⟩))
      go_ret
      exact ⟨rfl, rfl⟩
  · rw [hr] at c3
    have c4 := isDg_any ((k : Int) + 1 + 1) (k + 1 + 1) h (by omega)
    have c5 := passDigits_any ((k : Int) + 1 + 1) (k + 1 + 1) h (by omega) (by omega)
    simp only [if_true]
    generalize digitsF l (k + 1 + 1) = D at *
    generalize isB l k 101 = p at *
    generalize isB l k 69 = q at *
    generalize dgB l (k + 1 + 1) = d at *
    clear h hr
    cases p <;> cases q <;> cases d
    all_goals
      go_enter Tryd.func63, Tryd.ntmps63
      go_wp2_with (first
        | (go_at_call 45; first | ((with_reducible refine c1.mono ?_); rintro e w' ⟨rfl, rfl⟩) | ((with_reducible refine c2.mono ?_); rintro e w' ⟨rfl, rfl⟩))
        | (go_at_call 50; (with_reducible refine c3.mono ?_); rintro e w' ⟨rfl, rfl⟩)
        | (go_at_call 46; refine c4.mono ?_; rintro e w' ⟨rfl, rfl⟩)
        | (go_at_call 62; refine c5.mono ?_; rintro e w' ⟨rfl, rfl⟩))
      go_ret
      exact ⟨rfl, rfl⟩

theorem ret_ib {k : IntKind} {a b : Int} {c d : Bool} (h : a = b) (h2 : c = d) : Ending.returned (.tuple #[.int k a, .bool c]) = .returned (.tuple #[.int k b, .bool d]) := by rw [h, h2]
set_option maxRecDepth 100000 in
set_option maxHeartbeats 1000000 in
theorem passNumber_any (h : Src w a n cap l) (hi : i = (k : Int)) (hk : k < n) :
    Calls Tryd.prog 53 #[.slice a n cap, .int .i64 i] w (Tells (.tuple #[.int .i64 ((numberF l k).1 : Nat), .bool (numberF l k).2]) w) := by
  subst hi
  have hsm := h.small
  have hlen := h.len
  have c1 := isPM_any (k : Int) k h rfl
  have hs1 := (signAt_le l k).1
  have hs2 := (signAt_le l k).2 (by omega)
  have hd2 := (digitsF_le l (signAt l k)).2 hs2
  have hd1 := (digitsF_le l (signAt l k)).1
  have hf1 := (fracF_le l (digitsF l (signAt l k))).1
  have hf2 := (fracF_le l (digitsF l (signAt l k))).2 hd2
  have c3 := isFrac_any ((digitsF l (signAt l k) : Nat) : Int) _ h rfl (by omega)
  have c4 := passDigits_any (((digitsF l (signAt l k) : Nat) : Int) + 1) (digitsF l (signAt l k) + 1) h (by omega) (by omega)
  have c5 := passExponent_any ((fracF l (digitsF l (signAt l k)) : Nat) : Int) _ h rfl (by omega)
  have hne := expo_ne (l := l) (j := fracF l (digitsF l (signAt l k)))
  have c2 := passDigits_any ((signAt l k : Nat) : Int) _ h rfl (by omega)
  unfold numberF
  show Calls _ _ _ _ (Tells (.tuple #[.int .i64 ((expoF l (fracF l (digitsF l (signAt l k))) : Nat) : Int), .bool (!fracAt l (digitsF l (signAt l k)) && !expoB l (fracF l (digitsF l (signAt l k))))]) w)
  have hfr : fracF l (digitsF l (signAt l k)) = if fracAt l (digitsF l (signAt l k)) = true then digitsF l (digitsF l (signAt l k) + 1) else digitsF l (signAt l k) := rfl
  generalize expoB l (fracF l (digitsF l (signAt l k))) = e at *
  generalize expoF l (fracF l (digitsF l (signAt l k))) = E at *
  generalize fracF l (digitsF l (signAt l k)) = F at *
  generalize fracAt l (digitsF l (signAt l k)) = f at *
  generalize digitsF l (digitsF l (signAt l k) + 1) = D2 at *
  generalize digitsF l (signAt l k) = D at *
  unfold signAt at hs1 hs2 c2
  have hD : D ≤ 100000 := by omega
  have hF : F ≤ 100000 := by omega
  generalize (isB l k 43 || isB l k 45) = p at *
  clear h hs1 hs2 hd2 hd1 hf1 hf2
  cases p <;> cases f
  all_goals
    simp only [Bool.false_eq_true, if_false, if_true] at hfr c2
    subst hfr
    go_enter Tryd.func53, Tryd.ntmps53
    go_wp2_with (first
      | (go_at_call 50; (with_reducible refine c1.mono ?_); rintro e w' ⟨rfl, rfl⟩)
      | (go_at_call 52; (with_reducible refine c3.mono ?_); rintro e w' ⟨rfl, rfl⟩)
      | (go_at_call 62; first | ((with_reducible refine c4.mono ?_); rintro e w' ⟨rfl, rfl⟩) | ((with_reducible refine c2.mono ?_); rintro e w' ⟨rfl, rfl⟩) | (refine c2.mono ?_; rintro e w' ⟨rfl, rfl⟩))
      | (go_at_call 63; (with_reducible refine c5.mono ?_); rintro e w' ⟨rfl, rfl⟩))
    go_ret2
    exact ⟨ret_ib rfl (by first | rfl | simp [hne] | exact hne), rfl⟩
end

/-- Comments. -/
theorem skipGo_ge (l : List Int) : ∀ (f j : Nat), j ≤ l.length → min (j + 2) l.length ≤ skipGo f l j ∧ skipGo f l j ≤ l.length
  | 0, j, _ => ⟨Nat.le_refl _, Nat.min_le_right _ _⟩
  | f + 1, j, hj => by
    rw [skipGo]
    by_cases h1 : l.length ≤ j
    · rw [if_pos h1]; exact ⟨Nat.le_refl _, Nat.min_le_right _ _⟩
    · rw [if_neg h1]
      by_cases h2 : (isB l j 42 && isB l (j + 1) 47) = true
      · rw [if_pos h2]; exact ⟨Nat.le_refl _, Nat.min_le_right _ _⟩
      · rw [if_neg h2]
        have := skipGo_ge l f (j + 1) (by omega)
        exact ⟨by omega, this.2⟩
theorem skipGo_fuel (l : List Int) : ∀ (f g j : Nat), l.length < j + f → l.length < j + g → skipGo f l j = skipGo g l j
  | f, g, j, hf, hg => by
    by_cases h1 : l.length ≤ j
    · have : ∀ f, skipGo f l j = min (j + 2) l.length := fun f => by cases f with | zero => rfl | succ f => rw [skipGo, if_pos h1]
      rw [this, this]
    · obtain ⟨f, rfl⟩ : ∃ f', f = f' + 1 := ⟨f - 1, by omega⟩
      obtain ⟨g, rfl⟩ : ∃ g', g = g' + 1 := ⟨g - 1, by omega⟩
      rw [skipGo, skipGo, if_neg h1, if_neg h1]
      by_cases h2 : (isB l j 42 && isB l (j + 1) 47) = true
      · rw [if_pos h2, if_pos h2]
      · rw [if_neg h2, if_neg h2]; exact skipGo_fuel l f g (j + 1) (by omega) (by omega)
def skipF (l : List Int) (j : Nat) : Nat := skipGo (l.length + 1) l j
theorem skipF_end {l : List Int} {j : Nat} (h : l.length ≤ j) : skipF l j = min (j + 2) l.length := by unfold skipF; rw [skipGo, if_pos h]
theorem skipF_hit {l : List Int} {j : Nat} (h : j < l.length) (h2 : (isB l j 42 && isB l (j + 1) 47) = true) : skipF l j = min (j + 2) l.length := by unfold skipF; rw [skipGo, if_neg (by omega), if_pos h2]
theorem skipF_step {l : List Int} {j : Nat} (h : j < l.length) (h2 : (isB l j 42 && isB l (j + 1) 47) = false) : skipF l j = skipF l (j + 1) := by
  unfold skipF
  rw [skipGo, if_neg (by omega), if_neg (by rw [h2]; decide)]
  exact skipGo_fuel l _ _ _ (by omega) (by omega)
theorem openB_lt {l : List Int} {j : Nat} (h : openB l j = true) : j + 2 ≤ l.length := by
  unfold openB at h
  rw [Bool.and_eq_true] at h
  exact lt_of_isB h.2 (by decide)
theorem behindGo_fuel (l : List Int) : ∀ (f g j : Nat), l.length < j + f → l.length < j + g → behindGo f l j = behindGo g l j
  | f, g, j, hf, hg => by
    by_cases h : openB l j = true
    · have h2 := openB_lt h
      obtain ⟨f, rfl⟩ : ∃ f', f = f' + 1 := ⟨f - 1, by omega⟩
      obtain ⟨g, rfl⟩ : ∃ g', g = g' + 1 := ⟨g - 1, by omega⟩
      rw [behindGo, behindGo, if_pos h, if_pos h]
      have := (skipGo_ge l (l.length + 1) (j + 2) h2).1
      exact behindGo_fuel l f g _ (by omega) (by omega)
    · rw [behindGo_stop f (by simpa using h), behindGo_stop g (by simpa using h)]
theorem behindF_step {l : List Int} {j : Nat} (h : openB l j = true) : behindF l j = behindF l (skipF l (j + 2)) := by
  have h2 := openB_lt h
  unfold behindF
  rw [behindGo, if_pos h]
  have := (skipGo_ge l (l.length + 1) (j + 2) h2).1
  exact behindGo_fuel l _ _ _ (by omega) (by omega)
theorem behindF_stop {l : List Int} {j : Nat} (h : openB l j = false) : behindF l j = j := behindGo_stop _ h
theorem asc_open : Asc ⟨#[47, 42]⟩ := ⟨by decide, by decide⟩
theorem asc_close : Asc ⟨#[42, 47]⟩ := ⟨by decide, by decide⟩
theorem beg_open (l : List Int) (k : Nat) : begB l k (ascI ⟨#[47, 42]⟩) = openB l k := by
  show (isB l k 47 && (isB l (k + 1) 42 && true)) = _
  rw [Bool.and_true]; rfl
theorem beg_close (l : List Int) (k : Nat) : begB l k (ascI ⟨#[42, 47]⟩) = (isB l k 42 && isB l (k + 1) 47) := by
  show (isB l k 42 && (isB l (k + 1) 47 && true)) = _
  rw [Bool.and_true]

set_option maxRecDepth 100000 in
set_option maxHeartbeats 1000000 in
theorem passComments_any {a : Option Addr} {n cap : Nat} {l : List Int} {w : World} (i : Int) (k : Nat) (h : Src w a n cap l) (hi : i = (k : Int)) (hk : k ≤ n) :
    Calls Tryd.prog 28 #[.slice a n cap, .int .i64 i] w (Told (.int .i64 (behindF l k : Nat)) w) := by
  subst hi
  have hsm := h.small
  have hlen := h.len
  generalize hR : behindF l k = R
  have H := Lib.hid h
  have HR := Lib.hid hR
  have HL := Lib.hid hlen
  clear h hR hlen
  go_enter Tryd.func28, Tryd.ntmps28
  go_wp2_with fail
  go_loopw [1] (fun v wr => ∃ j : Nat, v = .int .i64 j ∧ j ≤ n ∧ Hid (behindF l j = R) ∧ Below w.heap.size w wr) (fun v _ => n - (intOf v).toNat)
  case atStart => exact ⟨k, rfl, hk, HR, Below.refl _ _⟩
  case round =>
    obtain ⟨j, rfl, hj, hG, hbl⟩ := hrel
    have c := begins_any (j : Int) j ⟨#[47, 42]⟩ (H.out.later hbl) rfl (by omega) asc_open
    rw [beg_open] at c
    have HBL := Lib.hid hbl
    clear hbl
    rcases ho : openB l j with _ | _
    · rw [ho] at c
      have e := Lib.hid ((behindF_stop ho).symm.trans hG.out)
      clear ho
      go_wp2_with (go_at_call 34; (with_reducible refine c.mono ?_); rintro e w' ⟨rfl, hb⟩)
      go_ret
      exact ⟨ret_int (by rw [e.out]), below_trans HBL.out hb⟩
    · rw [ho] at c
      have hj2 : j + 2 ≤ n := by rw [← HL.out]; exact openB_lt ho
      have e := Lib.hid ((behindF_step ho).symm.trans hG.out)
      have hsk := (skipGo_ge l (l.length + 1) (j + 2) (openB_lt ho)).1
      have HSK := Lib.hid (show min (j + 2 + 2) n ≤ skipF l (j + 2) from by have := HL.out; unfold skipF; omega)
      clear ho hG hsk
      generalize hS : skipF l (j + 2) = S at *
      have HS := Lib.hid hS
      clear hS
      go_wp2_with (go_at_call 34; (with_reducible refine c.mono ?_); rintro e w' ⟨rfl, hb⟩; have HB1 := Lib.hid (below_trans HBL.out hb); clear hb)
      go_loopw [1] (fun v wr => ∃ q : Nat, v = .int .i64 q ∧ q ≤ n ∧ Hid (skipF l q = S) ∧ Below w.heap.size w wr) (fun v _ => n - (intOf v).toNat)
      case atStart => exact ⟨j + 2, by go_num, hj2, HS, HB1.out⟩
      case round =>
        obtain ⟨q, rfl, hq, hG, hbl⟩ := hrel
        have c2 := begins_any (q : Int) q ⟨#[42, 47]⟩ (H.out.later hbl) rfl (by omega) asc_close
        rw [beg_close] at c2
        have c3 := fun w => within_any (a := a) (n := n) (cap := cap) (w := w) ((q : Int) + 2) (q + 2) (by omega) (by omega) (by omega)
        have HBL2 := Lib.hid hbl
        clear hbl
        by_cases hlt : q < n
        · have hlt' : (q : Int) < (n : Int) := by omega
          rcases ho : (isB l q 42 && isB l (q + 1) 47) with _ | _
          · rw [ho] at c2
            have e2 := Lib.hid ((skipF_step (by rw [HL.out]; exact hlt) ho).symm.trans hG.out)
            clear ho hG
            go_wp2_with (go_at_call 34; (with_reducible refine c2.mono ?_); rintro e w' ⟨rfl, hb⟩; have HB2 := Lib.hid (below_trans HBL2.out hb); clear hb)
            go_roundw
            case rel => exact ⟨q + 1, by go_num, by omega, e2, HB2.out⟩
            case measure => simp [intOf]; omega
          · rw [ho] at c2
            have e2 := Lib.hid ((skipF_hit (by rw [HL.out]; exact hlt) ho).symm.trans hG.out)
            clear ho hG
            go_wp2_with (first | (go_at_call 34; (with_reducible refine c2.mono ?_); rintro e w' ⟨rfl, hb⟩; have HB2 := Lib.hid (below_trans HBL2.out hb); clear hb) | (go_at_call 29; (with_reducible refine (c3 _).mono ?_); rintro e w' ⟨rfl, rfl⟩))
            go_roundw
            case rel => exact ⟨min (q + 2) n, by go_num, Nat.min_le_right _ _, Lib.hid (by have := e.out; rw [← e2.out, HL.out] at this; exact this), HB2.out⟩
            case measure => have h1 := HSK.out; have h2 := e2.out; rw [HL.out] at h2; simp [intOf]; omega
        · have hlt' : ¬ (q : Int) < (n : Int) := by omega
          have e2 := Lib.hid ((skipF_end (by rw [HL.out]; omega)).symm.trans hG.out)
          clear hG
          go_wp2_with (go_at_call 29; (with_reducible refine (c3 _).mono ?_); rintro e w' ⟨rfl, rfl⟩)
          go_roundw
          case rel => exact ⟨min (q + 2) n, by go_num, Nat.min_le_right _ _, Lib.hid (by have := e.out; rw [← e2.out, HL.out] at this; exact this), HBL2.out⟩
          case measure => have h1 := HSK.out; have h2 := e2.out; rw [HL.out] at h2; simp [intOf]; omega
end Go.Proofs.YtdopmkiogmejaaaDoor
