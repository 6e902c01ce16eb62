/- Texts of mine in one: Raw Kinds Start. -/
import Derived.Test.YtelbjnanpmdnnaaQ09
import Derived.Test.YtelbjnanpmdnnaaQ05
import Derived.Test.YtelbjnanpmdnnaaQ11
namespace Go.Proofs.Ytelbjnanpmdnnaa
section
open Go.RowKit
theorem told_put (c : Int) (h : rightB c = true) : toldF (putF c) = c := by
  have := right_bd h
  unfold putF
  (repeat' split)
  · exact told_1 c
  · rw [told_2]; omega
  · rw [told_3]; omega
  · rw [told_4]; omega
theorem whole_put (c : Int) (h : rightB c = true) : wholeF (putF c) = true := by
  unfold wholeF; rw [told_put c h, h]; simp
theorem putF_pos (c : Int) : 1 ≤ (putF c).length := List.length_pos_iff.2 (putF_ne c)
theorem read_put (c : Int) (h : rightB c = true) (zs : List Int) (hz : U8 zs) : charF (putF c ++ zs) = c ∧ sizeF (putF c ++ zs) = (putF c).length ∧ (readF (putF c ++ zs)).2.2 = true := by
  have hu : U8 (putF c ++ zs) := fun z hm => by
    rcases List.mem_append.1 hm with h1 | h1
    · exact putF_u8 c h z h1
    · exact hz z h1
  have ht : (putF c ++ zs).take (putF c).length = putF c := by simp
  have hw : wholeF ((putF c ++ zs).take (putF c).length) = true := by rw [ht]; exact whole_put c h
  have hf : FirstSpec (putF c ++ zs) c (putF c).length := .inl ⟨putF_pos c, putF_len c, by simp, hw, by rw [ht, told_put c h]⟩
  obtain ⟨h1, h2, h3⟩ := first_eq (putF c ++ zs) hu (by rw [List.length_append]; have := putF_pos c; omega) hf
  exact ⟨h2.symm, h1.symm, h3.2 hw⟩
def rawN : Nat → List Int → List Int
  | 0, _ => []
  | f + 1, ys => if ys = [] then [] else charF ys :: rawN f (ys.drop (sizeF ys))
def rawF (ys : List Int) : List Int := rawN ys.length ys
def dropMark : List Int → List Int
  | [] => []
  | c :: r => if c = 65279 then r else c :: r
theorem size_pos (ys : List Int) (h : ys ≠ []) : 1 ≤ sizeF ys := (readF_size ys h).1
theorem rawN_enough : ∀ (f : Nat) (ys : List Int), ys.length ≤ f → rawN f ys = rawN ys.length ys
  | 0, ys, h => by rw [List.length_eq_zero_iff.1 (Nat.le_zero.1 h)]; rfl
  | f + 1, ys, h => by
    by_cases h0 : ys = []
    · subst h0; rfl
    · obtain ⟨m, hm⟩ : ∃ m, ys.length = m + 1 := ⟨ys.length - 1, by have := List.length_pos_iff.2 h0; omega⟩
      have hs := size_pos ys h0
      rw [hm, rawN, rawN, if_neg h0, if_neg h0]
      congr 1
      rw [rawN_enough f _ (by rw [List.length_drop]; omega), rawN_enough m _ (by rw [List.length_drop]; omega)]
theorem rawF_nil : rawF [] = [] := rfl
theorem rawF_step (ys : List Int) (h : ys ≠ []) : rawF ys = charF ys :: rawF (ys.drop (sizeF ys)) := by
  obtain ⟨m, hm⟩ : ∃ m, ys.length = m + 1 := ⟨ys.length - 1, by have := List.length_pos_iff.2 h; omega⟩
  have hs := size_pos ys h
  unfold rawF
  rw [hm, rawN, if_neg h]
  congr 1
  exact rawN_enough m _ (by rw [List.length_drop]; omega)
theorem charsN_raw : ∀ (f : Nat) (zs : List Int) (k : Nat), zs.length - k ≤ f → 0 < k → charsN f zs k = rawF (zs.drop k)
  | 0, zs, k, h, _ => by rw [List.drop_eq_nil_of_le (by omega)]; rfl
  | f + 1, zs, k, h, hk => by
    by_cases hl : zs.length ≤ k
    · rw [charsN, if_pos hl, List.drop_eq_nil_of_le hl]; rfl
    · have h0 : zs.drop k ≠ [] := by intro e; have := congrArg List.length e; rw [List.length_drop] at this; simp at this; omega
      have hs := size_pos _ h0
      rw [charsN, if_neg hl, if_pos (.inr (by omega)), rawF_step _ h0, charsN_raw f zs _ (by omega) (by omega), List.drop_drop]
      rfl
theorem charsF_raw (zs : List Int) : charsF zs = dropMark (rawF zs) := by
  by_cases h0 : zs = []
  · subst h0; rfl
  · have hl : 0 < zs.length := List.length_pos_iff.2 h0
    have hs := size_pos zs h0
    unfold charsF
    rw [charsFrom_step zs 0 hl, List.drop_zero, rawF_step zs h0]
    have e : charsFrom zs (0 + sizeF zs) = rawF (zs.drop (sizeF zs)) := by
      rw [Nat.zero_add]; exact charsN_raw _ zs _ (Nat.le_refl _) (by omega)
    rw [e, dropMark]
    by_cases hm : charF zs = 65279
    · rw [if_neg (by simp [hm]), if_pos hm]; rfl
    · rw [if_pos (.inl hm), if_neg hm]; rfl
theorem rawF_put (c : Int) (h : rightB c = true) (zs : List Int) (hz : U8 zs) : rawF (putF c ++ zs) = c :: rawF zs := by
  obtain ⟨h1, h2, _⟩ := read_put c h zs hz
  rw [rawF_step _ (by intro e; exact putF_ne c (List.append_eq_nil_iff.1 e).1), h1, h2]
  simp
theorem rawF_all (cs : List Int) (h : ∀ c ∈ cs, rightB c = true) (zs : List Int) (hz : U8 zs) : rawF (cs.flatMap putF ++ zs) = cs ++ rawF zs := by
  induction cs with
  | nil => rfl
  | cons c cs ih =>
    have hu : U8 (cs.flatMap putF ++ zs) := fun z hm => by
      rcases List.mem_append.1 hm with h1 | h1
      · obtain ⟨d, hd, hd2⟩ := List.mem_flatMap.1 h1
        exact putF_u8 d (h d (by simp [hd])) z hd2
      · exact hz z h1
    rw [List.flatMap_cons, List.append_assoc, rawF_put c (h c (by simp)) _ hu, ih (fun d hd => h d (by simp [hd]))]
    rfl
theorem textF_map (zs : List Int) : textF zs = (zs.map charOf).flatMap putF := by
  unfold textF; rw [List.flatMap_map]
theorem chars_text (zs : List Int) : charsF (textF zs) = dropMark (zs.map charOf) := by
  rw [charsF_raw, textF_map]
  have h := rawF_all (zs.map charOf) (fun c hc => by obtain ⟨d, _, rfl⟩ := List.mem_map.1 hc; exact charOf_right d) [] (by intro z hz; simp at hz)
  rw [List.append_nil] at h
  rw [h, rawF_nil, List.append_nil]
end

section
open Go.RowKit
def Ch (c : Int) : Prop := 0 ≤ c ∧ c < 1114112
def smallF (c : Int) : Int := if 65 ≤ c ∧ c ≤ 90 then c + 32 else c
def digitB (c : Int) : Bool := decide (48 ≤ c ∧ c ≤ 57)
def startB (c : Int) : Bool := decide ((97 ≤ smallF c ∧ smallF c ≤ 122) ∨ c = 95 ∨ 128 ≤ c)
def nameB (c : Int) : Bool := startB c || digitB c || decide (c = 45)
def spaceB (c : Int) : Bool := decide (c = 32 ∨ c = 9 ∨ c = 10)
theorem smallF_ch {c : Int} (h : Ch c) : Ch (smallF c) := by unfold Ch at *; unfold smallF; split <;> omega
set_option maxRecDepth 100000 in
set_option maxHeartbeats 1000000 in
theorem small_any (c : Int) (w : World) (hc : Ch c) : Calls Try.prog 65 #[.int .i64 c] w (Tells (.int .i64 (smallF c)) w) := by
  have hs := smallF_ch hc
  obtain ⟨h0, h1⟩ := hc
  obtain ⟨s0, s1⟩ := hs
  have e1 : c - 65 + 97 = c + 32 := by omega
  rcases (show (¬ 65 ≤ c) ∨ (65 ≤ c ∧ c ≤ 90) ∨ (65 ≤ c ∧ ¬ c ≤ 90) from by omega) with ⟨q0⟩ | ⟨q0, q1⟩ | ⟨q0, q1⟩
  · rw [show smallF c = c from by unfold smallF; rw [if_neg (by omega)]]
    go_enter Try.func65, Try.ntmps65
    go_wp2
    go_ret
    exact ⟨rfl, rfl⟩
  · rw [show smallF c = c + 32 from by unfold smallF; rw [if_pos (by omega)]]
    go_enter Try.func65, Try.ntmps65
    go_wp2
    go_ret
    exact ⟨rfl, rfl⟩
  · rw [show smallF c = c from by unfold smallF; rw [if_neg (by omega)]]
    go_enter Try.func65, Try.ntmps65
    go_wp2
    go_ret
    exact ⟨rfl, rfl⟩
set_option maxRecDepth 100000 in
set_option maxHeartbeats 1000000 in
theorem rsmall_any (c : Int) (w : World) (hc : Ch c) : Calls Try.prog 63 #[.int .i64 c] w (Tells (.int .i64 (smallF c)) w) := by
  have hs := smallF_ch hc
  obtain ⟨h0, h1⟩ := hc
  obtain ⟨s0, s1⟩ := hs
  have e1 : c - 65 + 97 = c + 32 := by omega
  rcases (show (¬ 65 ≤ c) ∨ (65 ≤ c ∧ c ≤ 90) ∨ (65 ≤ c ∧ ¬ c ≤ 90) from by omega) with ⟨q0⟩ | ⟨q0, q1⟩ | ⟨q0, q1⟩
  · rw [show smallF c = c from by unfold smallF; rw [if_neg (by omega)]]
    go_enter Try.func63, Try.ntmps63
    go_wp2
    go_ret
    exact ⟨rfl, rfl⟩
  · rw [show smallF c = c + 32 from by unfold smallF; rw [if_pos (by omega)]]
    go_enter Try.func63, Try.ntmps63
    go_wp2
    go_ret
    exact ⟨rfl, rfl⟩
  · rw [show smallF c = c from by unfold smallF; rw [if_neg (by omega)]]
    go_enter Try.func63, Try.ntmps63
    go_wp2
    go_ret
    exact ⟨rfl, rfl⟩
set_option maxRecDepth 100000 in
set_option maxHeartbeats 1000000 in
theorem rdigit_any (c : Int) (w : World) (hc : Ch c) : Calls Try.prog 84 #[.int .i64 c] w (Tells (.bool (digitB c)) w) := by
  have hs := smallF_ch hc
  obtain ⟨h0, h1⟩ := hc
  obtain ⟨s0, s1⟩ := hs
  have e1 : c - 65 + 97 = c + 32 := by omega
  rcases (show (¬ 48 ≤ c) ∨ (48 ≤ c ∧ c ≤ 57) ∨ (48 ≤ c ∧ ¬ c ≤ 57) from by omega) with ⟨q0⟩ | ⟨q0, q1⟩ | ⟨q0, q1⟩
  · rw [show digitB c = false from by exact decide_eq_false (by omega)]
    go_enter Try.func84, Try.ntmps84
    go_wp2
    go_ret
    exact ⟨rfl, rfl⟩
  · rw [show digitB c = true from by exact decide_eq_true (by omega)]
    go_enter Try.func84, Try.ntmps84
    go_wp2
    go_ret
    exact ⟨rfl, rfl⟩
  · rw [show digitB c = false from by exact decide_eq_false (by omega)]
    go_enter Try.func84, Try.ntmps84
    go_wp2
    go_ret
    exact ⟨rfl, rfl⟩
end

section
open Go.RowKit
set_option maxRecDepth 100000 in
set_option maxHeartbeats 1000000 in
theorem rstart_any (c : Int) (w : World) (hc : Ch c) : Calls Try.prog 85 #[.int .i64 c] w (Tells (.bool (startB c)) w) := by
  have hs := smallF_ch hc
  obtain ⟨h0, h1⟩ := hc
  obtain ⟨s0, s1⟩ := hs
  have e1 : c - 65 + 97 = c + 32 := by omega
  rcases (show (97 ≤ smallF c ∧ smallF c ≤ 122) ∨ (¬ 97 ≤ smallF c ∧ c = 95) ∨ (¬ 97 ≤ smallF c ∧ c ≠ 95 ∧ 128 ≤ c) ∨ (¬ 97 ≤ smallF c ∧ c ≠ 95 ∧ ¬ 128 ≤ c) ∨ (97 ≤ smallF c ∧ ¬ smallF c ≤ 122 ∧ c = 95) ∨ (97 ≤ smallF c ∧ ¬ smallF c ≤ 122 ∧ c ≠ 95 ∧ 128 ≤ c) ∨ (97 ≤ smallF c ∧ ¬ smallF c ≤ 122 ∧ c ≠ 95 ∧ ¬ 128 ≤ c) from by omega) with ⟨q0, q1⟩ | ⟨q0, rfl⟩ | ⟨q0, q1, q2⟩ | ⟨q0, q1, q2⟩ | ⟨q0, q1, rfl⟩ | ⟨q0, q1, q2, q3⟩ | ⟨q0, q1, q2, q3⟩
  · rw [show startB c = true from by exact decide_eq_true (by omega)]
    have hk := fun w => rsmall_any c w ⟨h0, h1⟩
    generalize smallF c = s at *
    go_enter Try.func85, Try.ntmps85
    go_wp2_with fail
    refine (hk _).mono ?_
    rintro e w1 ⟨rfl, rfl⟩
    go_wp2
    go_ret
    exact ⟨rfl, rfl⟩
  · rw [show startB 95 = true from by exact decide_eq_true (by omega)]
    have hk := fun w => rsmall_any 95 w ⟨h0, h1⟩
    generalize smallF 95 = s at *
    go_enter Try.func85, Try.ntmps85
    go_wp2_with fail
    refine (hk _).mono ?_
    rintro e w1 ⟨rfl, rfl⟩
    go_wp2
    go_ret
    exact ⟨rfl, rfl⟩
  · rw [show startB c = true from by exact decide_eq_true (by omega)]
    have n95 : (c == 95) = false := beq_eq_false_iff_ne.2 (by omega)
    have hk := fun w => rsmall_any c w ⟨h0, h1⟩
    generalize smallF c = s at *
    go_enter Try.func85, Try.ntmps85
    go_wp2_with fail
    refine (hk _).mono ?_
    rintro e w1 ⟨rfl, rfl⟩
    go_wp2
    go_ret
    exact ⟨rfl, rfl⟩
  · rw [show startB c = false from by exact decide_eq_false (by omega)]
    have n95 : (c == 95) = false := beq_eq_false_iff_ne.2 (by omega)
    have d128 : decide (128 ≤ c) = false := decide_eq_false q2
    have hk := fun w => rsmall_any c w ⟨h0, h1⟩
    generalize smallF c = s at *
    go_enter Try.func85, Try.ntmps85
    go_wp2_with fail
    refine (hk _).mono ?_
    rintro e w1 ⟨rfl, rfl⟩
    go_wp2
    go_ret
    exact ⟨rfl, rfl⟩
  · rw [show startB 95 = true from by exact decide_eq_true (by omega)]
    have hk := fun w => rsmall_any 95 w ⟨h0, h1⟩
    generalize smallF 95 = s at *
    go_enter Try.func85, Try.ntmps85
    go_wp2_with fail
    refine (hk _).mono ?_
    rintro e w1 ⟨rfl, rfl⟩
    go_wp2
    go_ret
    exact ⟨rfl, rfl⟩
  · rw [show startB c = true from by exact decide_eq_true (by omega)]
    have n95 : (c == 95) = false := beq_eq_false_iff_ne.2 (by omega)
    have d122 : decide (smallF c ≤ 122) = false := decide_eq_false q1
    have hk := fun w => rsmall_any c w ⟨h0, h1⟩
    generalize smallF c = s at *
    go_enter Try.func85, Try.ntmps85
    go_wp2_with fail
    refine (hk _).mono ?_
    rintro e w1 ⟨rfl, rfl⟩
    go_wp2
    go_ret
    exact ⟨rfl, rfl⟩
  · rw [show startB c = false from by exact decide_eq_false (by omega)]
    have n95 : (c == 95) = false := beq_eq_false_iff_ne.2 (by omega)
    have d128 : decide (128 ≤ c) = false := decide_eq_false q3
    have d122 : decide (smallF c ≤ 122) = false := decide_eq_false q1
    have hk := fun w => rsmall_any c w ⟨h0, h1⟩
    generalize smallF c = s at *
    go_enter Try.func85, Try.ntmps85
    go_wp2_with fail
    refine (hk _).mono ?_
    rintro e w1 ⟨rfl, rfl⟩
    go_wp2
    go_ret
    exact ⟨rfl, rfl⟩
end
end Go.Proofs.Ytelbjnanpmdnnaa
