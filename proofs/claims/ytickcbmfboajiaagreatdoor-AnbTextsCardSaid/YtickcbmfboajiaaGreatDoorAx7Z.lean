/- An An+B's text, of the program and of the document; the law AnbTexts: walks. -/
import Derived.Test.YtickcbmfboajiaaGreatDoorAx6Z
import Derived.Test.YtickcbmfboajiaaGreatDoorAx4Z
namespace Go.Proofs.YtickcbmfboajiaaGreatDoor
open Go.RowKit Go.Shelf
set_option linter.unusedVariables false
set_option linter.unusedSimpArgs false

set_option maxRecDepth 100000 in
set_option maxHeartbeats 4000000 in
theorem anbText_any (a b : Int) (w : World) (ha : -1099511627776 ≤ a ∧ a ≤ 1099511627776) (hb : -1099511627776 ≤ b ∧ b ≤ 1099511627776) (hp : PwW w) :
    Calls Tryz.prog 19 #[.int .i64 a, .int .i64 b] w (Told (.string (textP a b)) w) := by
  have za := itS_size (n := a) (by omega) (by omega)
  have zb := itS_size (n := b) (by omega) (by omega)
  have fA := fun w' (hb : Below w.heap.size w w') => itoa_any a w' (by omega) (by omega) (hp.later hb)
  have fB := fun w' (hb : Below w.heap.size w w') => itoa_any b w' (by omega) (by omega) (hp.later hb)
  obtain ⟨hb0, hb1'⟩ := hb
  obtain ⟨ha0, ha1'⟩ := ha
  generalize hR0 : textP a b = R
  have HR := Lib.hid hR0.symm
  clear hR0
  have y1 : ¬ 9223372036854775807 < (itS a).size + 1 := by omega
  have y2 : ¬ 9223372036854775807 < (itS a).size + 1 + 1 := by omega
  have y3 : ¬ 9223372036854775807 < (itS a).size + 1 + 1 + (itS b).size := by omega
  have y4 : ¬ 9223372036854775807 < (itS a).size + 1 + (itS b).size := by omega
  have y5 : ¬ 9223372036854775807 < 1 + (itS b).size := by omega
  have y6 : ¬ 9223372036854775807 < 2 + (itS b).size := by omega
  have y7 : ¬ 9223372036854775807 < 3 + (itS b).size := by omega
  have y8 : ¬ 9223372036854775807 < 1 + 1 + (itS b).size := by omega
  have y9 : ¬ 9223372036854775807 < 2 + 1 + (itS b).size := by omega
  clear za zb
  by_cases h0 : a = 0
  · subst h0
    have hR : Hid (R = itS b) := Lib.hid (by rw [HR.out]; unfold textP headP; rw [if_pos rfl])
    clear HR
    generalize itS 0 = A at *
    generalize itS b = B at *
    go_enter Tryz.func19, Tryz.ntmps19
    go_wp2_with (go_at_call 36; first | ((with_reducible refine (fA w (Below.refl _ _)).mono ?_); rintro e w1 ⟨rfl, hb1⟩) | ((with_reducible refine (fB w1 hb1).mono ?_); rintro e w2 ⟨rfl, hb2⟩))
    go_ret
    exact ⟨by rw [hR.out]; rfl, hb1.trans (hb2.mono hb1.size)⟩
  by_cases h1 : a = 1
  · subst h1
    rcases (show 0 < b ∨ b < 0 ∨ b = 0 by omega) with h | h | h
    · have h' : ¬ b < 0 := by omega
      have hR : Hid (R = ((⟨#[110]⟩ : ByteArray) ++ (⟨#[43]⟩ : ByteArray)) ++ itS b) := Lib.hid (by rw [HR.out]; unfold textP headP; rw [if_neg (by decide)]; rw [if_pos h]; rw [if_pos rfl])
      clear HR
      generalize itS 1 = A at *
      generalize itS b = B at *
      go_enter Tryz.func19, Tryz.ntmps19
      go_wp2_with (go_at_call 36; first | ((with_reducible refine (fA w (Below.refl _ _)).mono ?_); rintro e w1 ⟨rfl, hb1⟩) | ((with_reducible refine (fB w1 hb1).mono ?_); rintro e w2 ⟨rfl, hb2⟩))
      go_ret
      exact ⟨by rw [hR.out]; rfl, hb1.trans (hb2.mono hb1.size)⟩
    · have h' : ¬ 0 < b := by omega
      have hR : Hid (R = (⟨#[110]⟩ : ByteArray) ++ itS b) := Lib.hid (by rw [HR.out]; unfold textP headP; rw [if_neg (by decide)]; rw [if_neg h', if_pos h]; rw [if_pos rfl])
      clear HR
      generalize itS 1 = A at *
      generalize itS b = B at *
      go_enter Tryz.func19, Tryz.ntmps19
      go_wp2_with (go_at_call 36; first | ((with_reducible refine (fA w (Below.refl _ _)).mono ?_); rintro e w1 ⟨rfl, hb1⟩) | ((with_reducible refine (fB w1 hb1).mono ?_); rintro e w2 ⟨rfl, hb2⟩))
      go_ret
      exact ⟨by rw [hR.out]; rfl, hb1.trans (hb2.mono hb1.size)⟩
    · subst h
      have hR : Hid (R = (⟨#[110]⟩ : ByteArray)) := Lib.hid (by rw [HR.out]; unfold textP headP; rw [if_neg (by decide)]; rw [if_neg (by decide), if_neg (by decide)]; rw [if_pos rfl])
      clear HR
      generalize itS 1 = A at *
      generalize itS 0 = B at *
      go_enter Tryz.func19, Tryz.ntmps19
      go_wp2_with (go_at_call 36; first | ((with_reducible refine (fA w (Below.refl _ _)).mono ?_); rintro e w1 ⟨rfl, hb1⟩) | ((with_reducible refine (fB w1 hb1).mono ?_); rintro e w2 ⟨rfl, hb2⟩))
      go_ret
      exact ⟨by rw [hR.out]; rfl, hb1⟩
  by_cases h2 : a = -1
  · subst h2
    rcases (show 0 < b ∨ b < 0 ∨ b = 0 by omega) with h | h | h
    · have h' : ¬ b < 0 := by omega
      have hR : Hid (R = ((⟨#[45, 110]⟩ : ByteArray) ++ (⟨#[43]⟩ : ByteArray)) ++ itS b) := Lib.hid (by rw [HR.out]; unfold textP headP; rw [if_neg (by decide)]; rw [if_pos h]; rw [if_neg (by decide), if_pos rfl])
      clear HR
      generalize itS (-1) = A at *
      generalize itS b = B at *
      go_enter Tryz.func19, Tryz.ntmps19
      go_wp2_with (go_at_call 36; first | ((with_reducible refine (fA w (Below.refl _ _)).mono ?_); rintro e w1 ⟨rfl, hb1⟩) | ((with_reducible refine (fB w1 hb1).mono ?_); rintro e w2 ⟨rfl, hb2⟩))
      go_ret
      exact ⟨by rw [hR.out]; rfl, hb1.trans (hb2.mono hb1.size)⟩
    · have h' : ¬ 0 < b := by omega
      have hR : Hid (R = (⟨#[45, 110]⟩ : ByteArray) ++ itS b) := Lib.hid (by rw [HR.out]; unfold textP headP; rw [if_neg (by decide)]; rw [if_neg h', if_pos h]; rw [if_neg (by decide), if_pos rfl])
      clear HR
      generalize itS (-1) = A at *
      generalize itS b = B at *
      go_enter Tryz.func19, Tryz.ntmps19
      go_wp2_with (go_at_call 36; first | ((with_reducible refine (fA w (Below.refl _ _)).mono ?_); rintro e w1 ⟨rfl, hb1⟩) | ((with_reducible refine (fB w1 hb1).mono ?_); rintro e w2 ⟨rfl, hb2⟩))
      go_ret
      exact ⟨by rw [hR.out]; rfl, hb1.trans (hb2.mono hb1.size)⟩
    · subst h
      have hR : Hid (R = (⟨#[45, 110]⟩ : ByteArray)) := Lib.hid (by rw [HR.out]; unfold textP headP; rw [if_neg (by decide)]; rw [if_neg (by decide), if_neg (by decide)]; rw [if_neg (by decide), if_pos rfl])
      clear HR
      generalize itS (-1) = A at *
      generalize itS 0 = B at *
      go_enter Tryz.func19, Tryz.ntmps19
      go_wp2_with (go_at_call 36; first | ((with_reducible refine (fA w (Below.refl _ _)).mono ?_); rintro e w1 ⟨rfl, hb1⟩) | ((with_reducible refine (fB w1 hb1).mono ?_); rintro e w2 ⟨rfl, hb2⟩))
      go_ret
      exact ⟨by rw [hR.out]; rfl, hb1⟩
  have q0 : (a == 0) = false := beq_eq_false_iff_ne.2 h0
  have q1 : (a == 1) = false := beq_eq_false_iff_ne.2 h1
  have q2 : (a == -1) = false := beq_eq_false_iff_ne.2 h2
  have HH := Lib.hid (And.intro h0 (And.intro h1 h2))
  clear h0 h1 h2
  rcases (show 0 < b ∨ b < 0 ∨ b = 0 by omega) with h | h | h
  · have h' : ¬ b < 0 := by omega
    have hR : Hid (R = ((itS a ++ (⟨#[110]⟩ : ByteArray)) ++ (⟨#[43]⟩ : ByteArray)) ++ itS b) := Lib.hid (by rw [HR.out]; unfold textP headP; rw [if_neg HH.out.1]; rw [if_pos h]; rw [if_neg HH.out.2.1, if_neg HH.out.2.2])
    clear HR
    generalize itS a = A at *
    generalize itS b = B at *
    go_enter Tryz.func19, Tryz.ntmps19
    go_wp2_with (go_at_call 36; first | ((with_reducible refine (fA w (Below.refl _ _)).mono ?_); rintro e w1 ⟨rfl, hb1⟩) | ((with_reducible refine (fB w1 hb1).mono ?_); rintro e w2 ⟨rfl, hb2⟩))
    go_ret
    exact ⟨by rw [hR.out]; rfl, hb1.trans (hb2.mono hb1.size)⟩
  · have h' : ¬ 0 < b := by omega
    have hR : Hid (R = (itS a ++ (⟨#[110]⟩ : ByteArray)) ++ itS b) := Lib.hid (by rw [HR.out]; unfold textP headP; rw [if_neg HH.out.1]; rw [if_neg h', if_pos h]; rw [if_neg HH.out.2.1, if_neg HH.out.2.2])
    clear HR
    generalize itS a = A at *
    generalize itS b = B at *
    go_enter Tryz.func19, Tryz.ntmps19
    go_wp2_with (go_at_call 36; first | ((with_reducible refine (fA w (Below.refl _ _)).mono ?_); rintro e w1 ⟨rfl, hb1⟩) | ((with_reducible refine (fB w1 hb1).mono ?_); rintro e w2 ⟨rfl, hb2⟩))
    go_ret
    exact ⟨by rw [hR.out]; rfl, hb1.trans (hb2.mono hb1.size)⟩
  · subst h
    have hR : Hid (R = (itS a ++ (⟨#[110]⟩ : ByteArray))) := Lib.hid (by rw [HR.out]; unfold textP headP; rw [if_neg HH.out.1]; rw [if_neg (by decide), if_neg (by decide)]; rw [if_neg HH.out.2.1, if_neg HH.out.2.2])
    clear HR
    generalize itS a = A at *
    generalize itS 0 = B at *
    go_enter Tryz.func19, Tryz.ntmps19
    go_wp2_with (go_at_call 36; first | ((with_reducible refine (fA w (Below.refl _ _)).mono ?_); rintro e w1 ⟨rfl, hb1⟩) | ((with_reducible refine (fB w1 hb1).mono ?_); rintro e w2 ⟨rfl, hb2⟩))
    go_ret
    exact ⟨by rw [hR.out]; rfl, hb1⟩

set_option maxRecDepth 100000 in
set_option maxHeartbeats 4000000 in
theorem ranbText_any (a b : Int) (w : World) (ha : -1099511627776 ≤ a ∧ a ≤ 1099511627776) (hb : -1099511627776 ≤ b ∧ b ≤ 1099511627776)  :
    Calls Tryz.prog 20 #[.int .i64 a, .int .i64 b] w (Told (.string (textP a b)) w) := by
  have za := itS_size (n := a) (by omega) (by omega)
  have zb := itS_size (n := b) (by omega) (by omega)
  have fA := fun w' => rsigned_any a w' (by omega) (by omega)
  have fB := fun w' => rsigned_any b w' (by omega) (by omega)
  obtain ⟨hb0, hb1'⟩ := hb
  obtain ⟨ha0, ha1'⟩ := ha
  generalize hR0 : textP a b = R
  have HR := Lib.hid hR0.symm
  clear hR0
  have y1 : ¬ 9223372036854775807 < (itS a).size + 1 := by omega
  have y2 : ¬ 9223372036854775807 < (itS a).size + 1 + 1 := by omega
  have y3 : ¬ 9223372036854775807 < (itS a).size + 1 + 1 + (itS b).size := by omega
  have y4 : ¬ 9223372036854775807 < (itS a).size + 1 + (itS b).size := by omega
  have y5 : ¬ 9223372036854775807 < 1 + (itS b).size := by omega
  have y6 : ¬ 9223372036854775807 < 2 + (itS b).size := by omega
  have y7 : ¬ 9223372036854775807 < 3 + (itS b).size := by omega
  have y8 : ¬ 9223372036854775807 < 1 + 1 + (itS b).size := by omega
  have y9 : ¬ 9223372036854775807 < 2 + 1 + (itS b).size := by omega
  clear za zb
  by_cases h0 : a = 0
  · subst h0
    have hR : Hid (R = itS b) := Lib.hid (by rw [HR.out]; unfold textP headP; rw [if_pos rfl])
    clear HR
    generalize itS 0 = A at *
    generalize itS b = B at *
    go_enter Tryz.func20, Tryz.ntmps20
    go_wp2_with (go_at_call 37; first | ((with_reducible refine (fA _).mono ?_); rintro e wq ⟨rfl, q, rfl⟩) | ((with_reducible refine (fB _).mono ?_); rintro e wq ⟨rfl, q, rfl⟩))
    go_ret
    exact ⟨by rw [hR.out]; rfl, by first | exact Below.refl _ _ | exact below_drewN (Below.refl _ _) _ | exact below_drewN (below_drewN (Below.refl _ _) _) _⟩
  by_cases h1 : a = 1
  · subst h1
    rcases (show 0 < b ∨ b < 0 ∨ b = 0 by omega) with h | h | h
    · have h' : ¬ b < 0 := by omega
      have hR : Hid (R = ((⟨#[110]⟩ : ByteArray) ++ (⟨#[43]⟩ : ByteArray)) ++ itS b) := Lib.hid (by rw [HR.out]; unfold textP headP; rw [if_neg (by decide)]; rw [if_pos h]; rw [if_pos rfl])
      clear HR
      generalize itS 1 = A at *
      generalize itS b = B at *
      go_enter Tryz.func20, Tryz.ntmps20
      go_wp2_with (go_at_call 37; first | ((with_reducible refine (fA _).mono ?_); rintro e wq ⟨rfl, q, rfl⟩) | ((with_reducible refine (fB _).mono ?_); rintro e wq ⟨rfl, q, rfl⟩))
      go_ret
      exact ⟨by rw [hR.out]; rfl, by first | exact Below.refl _ _ | exact below_drewN (Below.refl _ _) _ | exact below_drewN (below_drewN (Below.refl _ _) _) _⟩
    · have h' : ¬ 0 < b := by omega
      have hR : Hid (R = (⟨#[110]⟩ : ByteArray) ++ itS b) := Lib.hid (by rw [HR.out]; unfold textP headP; rw [if_neg (by decide)]; rw [if_neg h', if_pos h]; rw [if_pos rfl])
      clear HR
      generalize itS 1 = A at *
      generalize itS b = B at *
      go_enter Tryz.func20, Tryz.ntmps20
      go_wp2_with (go_at_call 37; first | ((with_reducible refine (fA _).mono ?_); rintro e wq ⟨rfl, q, rfl⟩) | ((with_reducible refine (fB _).mono ?_); rintro e wq ⟨rfl, q, rfl⟩))
      go_ret
      exact ⟨by rw [hR.out]; rfl, by first | exact Below.refl _ _ | exact below_drewN (Below.refl _ _) _ | exact below_drewN (below_drewN (Below.refl _ _) _) _⟩
    · subst h
      have hR : Hid (R = (⟨#[110]⟩ : ByteArray)) := Lib.hid (by rw [HR.out]; unfold textP headP; rw [if_neg (by decide)]; rw [if_neg (by decide), if_neg (by decide)]; rw [if_pos rfl])
      clear HR
      generalize itS 1 = A at *
      generalize itS 0 = B at *
      go_enter Tryz.func20, Tryz.ntmps20
      go_wp2_with (go_at_call 37; first | ((with_reducible refine (fA _).mono ?_); rintro e wq ⟨rfl, q, rfl⟩) | ((with_reducible refine (fB _).mono ?_); rintro e wq ⟨rfl, q, rfl⟩))
      go_ret
      exact ⟨by rw [hR.out]; rfl, by first | exact Below.refl _ _ | exact below_drewN (Below.refl _ _) _ | exact below_drewN (below_drewN (Below.refl _ _) _) _⟩
  by_cases h2 : a = -1
  · subst h2
    rcases (show 0 < b ∨ b < 0 ∨ b = 0 by omega) with h | h | h
    · have h' : ¬ b < 0 := by omega
      have hR : Hid (R = ((⟨#[45, 110]⟩ : ByteArray) ++ (⟨#[43]⟩ : ByteArray)) ++ itS b) := Lib.hid (by rw [HR.out]; unfold textP headP; rw [if_neg (by decide)]; rw [if_pos h]; rw [if_neg (by decide), if_pos rfl])
      clear HR
      generalize itS (-1) = A at *
      generalize itS b = B at *
      go_enter Tryz.func20, Tryz.ntmps20
      go_wp2_with (go_at_call 37; first | ((with_reducible refine (fA _).mono ?_); rintro e wq ⟨rfl, q, rfl⟩) | ((with_reducible refine (fB _).mono ?_); rintro e wq ⟨rfl, q, rfl⟩))
      go_ret
      exact ⟨by rw [hR.out]; rfl, by first | exact Below.refl _ _ | exact below_drewN (Below.refl _ _) _ | exact below_drewN (below_drewN (Below.refl _ _) _) _⟩
    · have h' : ¬ 0 < b := by omega
      have hR : Hid (R = (⟨#[45, 110]⟩ : ByteArray) ++ itS b) := Lib.hid (by rw [HR.out]; unfold textP headP; rw [if_neg (by decide)]; rw [if_neg h', if_pos h]; rw [if_neg (by decide), if_pos rfl])
      clear HR
      generalize itS (-1) = A at *
      generalize itS b = B at *
      go_enter Tryz.func20, Tryz.ntmps20
      go_wp2_with (go_at_call 37; first | ((with_reducible refine (fA _).mono ?_); rintro e wq ⟨rfl, q, rfl⟩) | ((with_reducible refine (fB _).mono ?_); rintro e wq ⟨rfl, q, rfl⟩))
      go_ret
      exact ⟨by rw [hR.out]; rfl, by first | exact Below.refl _ _ | exact below_drewN (Below.refl _ _) _ | exact below_drewN (below_drewN (Below.refl _ _) _) _⟩
    · subst h
      have hR : Hid (R = (⟨#[45, 110]⟩ : ByteArray)) := Lib.hid (by rw [HR.out]; unfold textP headP; rw [if_neg (by decide)]; rw [if_neg (by decide), if_neg (by decide)]; rw [if_neg (by decide), if_pos rfl])
      clear HR
      generalize itS (-1) = A at *
      generalize itS 0 = B at *
      go_enter Tryz.func20, Tryz.ntmps20
      go_wp2_with (go_at_call 37; first | ((with_reducible refine (fA _).mono ?_); rintro e wq ⟨rfl, q, rfl⟩) | ((with_reducible refine (fB _).mono ?_); rintro e wq ⟨rfl, q, rfl⟩))
      go_ret
      exact ⟨by rw [hR.out]; rfl, by first | exact Below.refl _ _ | exact below_drewN (Below.refl _ _) _ | exact below_drewN (below_drewN (Below.refl _ _) _) _⟩
  have q0 : (a == 0) = false := beq_eq_false_iff_ne.2 h0
  have q1 : (a == 1) = false := beq_eq_false_iff_ne.2 h1
  have q2 : (a == -1) = false := beq_eq_false_iff_ne.2 h2
  have HH := Lib.hid (And.intro h0 (And.intro h1 h2))
  clear h0 h1 h2
  rcases (show 0 < b ∨ b < 0 ∨ b = 0 by omega) with h | h | h
  · have h' : ¬ b < 0 := by omega
    have hR : Hid (R = ((itS a ++ (⟨#[110]⟩ : ByteArray)) ++ (⟨#[43]⟩ : ByteArray)) ++ itS b) := Lib.hid (by rw [HR.out]; unfold textP headP; rw [if_neg HH.out.1]; rw [if_pos h]; rw [if_neg HH.out.2.1, if_neg HH.out.2.2])
    clear HR
    generalize itS a = A at *
    generalize itS b = B at *
    go_enter Tryz.func20, Tryz.ntmps20
    go_wp2_with (go_at_call 37; first | ((with_reducible refine (fA _).mono ?_); rintro e wq ⟨rfl, q, rfl⟩) | ((with_reducible refine (fB _).mono ?_); rintro e wq ⟨rfl, q, rfl⟩))
    go_ret
    exact ⟨by rw [hR.out]; rfl, by first | exact Below.refl _ _ | exact below_drewN (Below.refl _ _) _ | exact below_drewN (below_drewN (Below.refl _ _) _) _⟩
  · have h' : ¬ 0 < b := by omega
    have hR : Hid (R = (itS a ++ (⟨#[110]⟩ : ByteArray)) ++ itS b) := Lib.hid (by rw [HR.out]; unfold textP headP; rw [if_neg HH.out.1]; rw [if_neg h', if_pos h]; rw [if_neg HH.out.2.1, if_neg HH.out.2.2])
    clear HR
    generalize itS a = A at *
    generalize itS b = B at *
    go_enter Tryz.func20, Tryz.ntmps20
    go_wp2_with (go_at_call 37; first | ((with_reducible refine (fA _).mono ?_); rintro e wq ⟨rfl, q, rfl⟩) | ((with_reducible refine (fB _).mono ?_); rintro e wq ⟨rfl, q, rfl⟩))
    go_ret
    exact ⟨by rw [hR.out]; rfl, by first | exact Below.refl _ _ | exact below_drewN (Below.refl _ _) _ | exact below_drewN (below_drewN (Below.refl _ _) _) _⟩
  · subst h
    have hR : Hid (R = (itS a ++ (⟨#[110]⟩ : ByteArray))) := Lib.hid (by rw [HR.out]; unfold textP headP; rw [if_neg HH.out.1]; rw [if_neg (by decide), if_neg (by decide)]; rw [if_neg HH.out.2.1, if_neg HH.out.2.2])
    clear HR
    generalize itS a = A at *
    generalize itS 0 = B at *
    go_enter Tryz.func20, Tryz.ntmps20
    go_wp2_with (go_at_call 37; first | ((with_reducible refine (fA _).mono ?_); rintro e wq ⟨rfl, q, rfl⟩) | ((with_reducible refine (fB _).mono ?_); rintro e wq ⟨rfl, q, rfl⟩))
    go_ret
    exact ⟨by rw [hR.out]; rfl, by first | exact Below.refl _ _ | exact below_drewN (Below.refl _ _) _ | exact below_drewN (below_drewN (Below.refl _ _) _) _⟩
end Go.Proofs.YtickcbmfboajiaaGreatDoor
