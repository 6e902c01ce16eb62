/- Tokens, the program's side: blanks, digits, numbers, comments: walks over any characters. -/
import Derived.Test.YtdopmkiogmejaaaDoorTn1
import Derived.Deep.LoopGhost
namespace Go.Proofs.YtdopmkiogmejaaaDoor
open Go.RowKit Go.Shelf
set_option linter.unusedVariables false

theorem spacesGo_fuel (l : List Int) : ∀ (f g j : Nat), l.length < j + f → l.length < j + g → spacesGo f l j = spacesGo g l j
  | f, g, j, hf, hg => by
    by_cases h : spB l j = true
    · have := lt_of_spB h
      obtain ⟨f, rfl⟩ : ∃ f', f = f' + 1 := ⟨f - 1, by omega⟩
      obtain ⟨g, rfl⟩ : ∃ g', g = g' + 1 := ⟨g - 1, by omega⟩
      rw [spacesGo, spacesGo, if_pos h, if_pos h]
      exact spacesGo_fuel l f g (j + 1) (by omega) (by omega)
    · rw [spacesGo_stop f (by simpa using h), spacesGo_stop g (by simpa using h)]
theorem spacesF_step {l : List Int} {j : Nat} (h : spB l j = true) : spacesF l j = spacesF l (j + 1) := by
  unfold spacesF
  rw [spacesGo, if_pos h]
  have := lt_of_spB h
  exact spacesGo_fuel l _ _ _ (by omega) (by omega)
theorem spacesF_stop {l : List Int} {j : Nat} (h : spB l j = false) : spacesF l j = j := spacesGo_stop _ h
theorem digitsGo_fuel (l : List Int) : ∀ (f g j : Nat), l.length < j + f → l.length < j + g → digitsGo f l j = digitsGo g l j
  | f, g, j, hf, hg => by
    by_cases h : dgB l j = true
    · have := lt_of_dgB h
      obtain ⟨f, rfl⟩ : ∃ f', f = f' + 1 := ⟨f - 1, by omega⟩
      obtain ⟨g, rfl⟩ : ∃ g', g = g' + 1 := ⟨g - 1, by omega⟩
      rw [digitsGo, digitsGo, if_pos h, if_pos h]
      exact digitsGo_fuel l f g (j + 1) (by omega) (by omega)
    · rw [digitsGo_stop f (by simpa using h), digitsGo_stop g (by simpa using h)]
theorem digitsF_step {l : List Int} {j : Nat} (h : dgB l j = true) : digitsF l j = digitsF l (j + 1) := by
  unfold digitsF
  rw [digitsGo, if_pos h]
  have := lt_of_dgB h
  exact digitsGo_fuel l _ _ _ (by omega) (by omega)
theorem digitsF_stop {l : List Int} {j : Nat} (h : dgB l j = false) : digitsF l j = j := digitsGo_stop _ h

section
variable {a : Option Addr} {n cap : Nat} {l : List Int} {w : World} (i : Int) (k : Nat)
set_option maxRecDepth 100000 in
theorem passBlanks_any (h : Src w a n cap l) (hi : i = (k : Int)) (hk : k ≤ 200000) :
    Calls Tryd.prog 36 #[.slice a n cap, .int .i64 i] w (Tells (.int .i64 (spacesF l k : Nat)) w) := by
  subst hi
  have H := Lib.hid h
  have hsm := h.small
  have hlen := h.len
  generalize hR : spacesF l k = R
  have HR := Lib.hid hR
  have HL := Lib.hid hlen
  clear h hR hlen
  go_enter Tryd.func36, Tryd.ntmps36
  go_wp2_with fail
  go_loopw [1] (fun v wr => ∃ j : Nat, v = .int .i64 j ∧ j ≤ 200000 ∧ Hid (spacesF l j = R) ∧ wr = w) (fun v _ => n - (intOf v).toNat)
  case atStart => exact ⟨k, rfl, hk, HR, by first | rfl | trivial⟩
  case round =>
    obtain ⟨j, rfl, hj, hG, rfl⟩ := hrel
    have c := isSp_any (j : Int) j H.out rfl
    rcases hs : spB l j with _ | _
    · rw [hs] at c
      have e := Lib.hid ((spacesF_stop hs).symm.trans hG.out)
      clear hs
      go_wp2_with (go_at_call 46; (with_reducible refine c.mono ?_); rintro e w' ⟨rfl, rfl⟩)
      go_ret
      exact ⟨ret_int (by rw [e.out]), rfl⟩
    · rw [hs] at c
      have hlt : j < n := by rw [← HL.out]; exact lt_of_spB hs
      have e := Lib.hid ((spacesF_step hs).symm.trans hG.out)
      clear hs
      go_wp2_with (go_at_call 46; (with_reducible refine c.mono ?_); rintro e w' ⟨rfl, rfl⟩)
      go_roundw
      case rel => exact ⟨j + 1, by go_num, by omega, e, by first | rfl | trivial⟩
      case measure => simp [intOf]; omega

set_option maxRecDepth 100000 in
theorem passDigits_any (h : Src w a n cap l) (hi : i = (k : Int)) (hk : k ≤ 200000) :
    Calls Tryd.prog 62 #[.slice a n cap, .int .i64 i] w (Tells (.int .i64 (digitsF l k : Nat)) w) := by
  subst hi
  have H := Lib.hid h
  have hsm := h.small
  have hlen := h.len
  generalize hR : digitsF l k = R
  have HR := Lib.hid hR
  have HL := Lib.hid hlen
  clear h hR hlen
  go_enter Tryd.func62, Tryd.ntmps62
  go_wp2_with fail
  go_loopw [1] (fun v wr => ∃ j : Nat, v = .int .i64 j ∧ j ≤ 200000 ∧ Hid (digitsF l j = R) ∧ wr = w) (fun v _ => n - (intOf v).toNat)
  case atStart => exact ⟨k, rfl, hk, HR, by first | rfl | trivial⟩
  case round =>
    obtain ⟨j, rfl, hj, hG, rfl⟩ := hrel
    have c := isDg_any (j : Int) j H.out rfl
    rcases hs : dgB l j with _ | _
    · rw [hs] at c
      have e := Lib.hid ((digitsF_stop hs).symm.trans hG.out)
      clear hs
      go_wp2_with (go_at_call 46; (with_reducible refine c.mono ?_); rintro e w' ⟨rfl, rfl⟩)
      go_ret
      exact ⟨ret_int (by rw [e.out]), rfl⟩
    · rw [hs] at c
      have hlt : j < n := by rw [← HL.out]; exact lt_of_dgB hs
      have e := Lib.hid ((digitsF_step hs).symm.trans hG.out)
      clear hs
      go_wp2_with (go_at_call 46; (with_reducible refine c.mono ?_); rintro e w' ⟨rfl, rfl⟩)
      go_roundw
      case rel => exact ⟨j + 1, by go_num, by omega, e, by first | rfl | trivial⟩
      case measure => simp [intOf]; omega
end

/-- Do characters stand one behind the other? -/
def begB (l : List Int) : Nat → List Int → Bool
  | _, [] => true
  | k, c :: cs => isB l k c && begB l (k + 1) cs
/-- A text of characters of ASCII, none 0. -/
def Asc (s : ByteArray) : Prop := s.size ≤ 10 ∧ ∀ (j : Nat) (h : j < s.size), 1 ≤ (s[j]'h).toNat ∧ (s[j]'h).toNat < 128
def ascI (s : ByteArray) : List Int := (strB s).map fun b => (b.toNat : Int)
theorem dropB_at (s : ByteArray) (j : Nat) (h : j < s.size) : (strB s).drop j = (s[j]'h) :: (strB s).drop (j + 1) := by
  rw [List.drop_eq_getElem_cons (by rw [strB_len]; exact h)]; rfl
theorem ascI_at (s : ByteArray) (j : Nat) (h : j < s.size) : (ascI s).drop j = ((s[j]'h).toNat : Int) :: (ascI s).drop (j + 1) := by
  unfold ascI
  rw [← List.map_drop, ← List.map_drop, dropB_at s j h, List.map_cons]
theorem ascI_end (s : ByteArray) : (ascI s).drop s.size = [] := by
  unfold ascI
  rw [← List.map_drop, List.drop_eq_nil_of_le (by rw [strB_len]; exact Nat.le_refl _)]; rfl

set_option maxRecDepth 100000 in
theorem begins_any {a : Option Addr} {n cap : Nat} {l : List Int} {w : World} (i : Int) (k : Nat) (s : ByteArray) (h : Src w a n cap l) (hi : i = (k : Int)) (hk : k ≤ 200000) (hs : Asc s) :
    Calls Tryd.prog 34 #[.slice a n cap, .int .i64 i, .string s] w (Told (.bool (begB l k (ascI s))) w) := by
  subst hi
  have H := Lib.hid h
  have hsm := h.small
  generalize hR : begB l k (ascI s) = R
  have HR := Lib.hid hR
  have HS := Lib.hid hs
  have hsz := hs.1
  clear h hR hs
  go_enter Tryd.func34, Tryd.ntmps34
  go_wp2_with fail
  go_loopg [7, 8] s.size (fun gf _ _ wr => ∃ p : Nat, p + gf = s.size ∧ Hid (begB l (k + p) ((ascI s).drop p) = R) ∧ wr = w.iter s p)
  case atStart => exact ⟨0, by omega, Lib.hid HR.out, rfl⟩
  case round =>
    obtain ⟨p, hp, hG, rfl⟩ := hrel
    have hbl : Below w.heap.size w (w.iter s (p + 1)) := (Below.refl _ _).alloc (Nat.le_refl _) _
    by_cases hlt : p < s.size
    · obtain ⟨g', rfl⟩ : ∃ g', gk = g' + 1 := ⟨gk - 1, by omega⟩
      have ha := HS.out.2 p hlt
      have hnx := fun ty => run_next_ascii (P := Tryd.prog) w s p ty hlt ha.2
      have hG2 := hG.out
      rw [ascI_at s p hlt, begB] at hG2
      have c := stands_any ((k : Int) + (p : Int)) (k + p) (((s[p]'hlt).toNat : Nat) : Int) (H.out.later hbl) (by omega) (by omega)
      generalize hz : (s[p]'hlt).toNat = z at *
      rcases hq : isB l (k + p) (z : Int) with _ | _
      · rw [hq] at c hG2
        have HG := Lib.hid hG2
        clear hG2 hq hG
        go_wp2_with (go_at_call 45; (with_reducible refine c.mono ?_); rintro e w' ⟨rfl, rfl⟩)
        go_ret
        exact ⟨ret_bool (by rw [← HG.out]; rfl), hbl⟩
      · rw [hq] at c hG2
        have HG := Lib.hid hG2
        clear hG2 hq hG
        go_wp2_with (go_at_call 45; (with_reducible refine c.mono ?_); rintro e w' ⟨rfl, rfl⟩)
        go_roundg g'
        case measure => omega
        case rel => exact ⟨p + 1, by omega, Lib.hid (by rw [← HG.out]; rfl), rfl⟩
    · obtain rfl : p = s.size := by omega
      have hnx := fun ty => run_next_end (P := Tryd.prog) w s s.size ty hlt
      have hG2 := hG.out
      rw [ascI_end, begB] at hG2
      have HG := Lib.hid hG2
      clear hG2 hG
      go_wp2
      go_ret
      exact ⟨ret_bool HG.out, (Below.refl _ _).alloc (Nat.le_refl _) _⟩
end Go.Proofs.YtdopmkiogmejaaaDoor
