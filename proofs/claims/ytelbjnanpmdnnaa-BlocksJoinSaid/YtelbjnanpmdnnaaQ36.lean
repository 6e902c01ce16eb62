/- Texts of mine in one: R6. -/
import Derived.Test.YtelbjnanpmdnnaaQ34
namespace Go.Proofs.Ytelbjnanpmdnnaa
section
open Go.RowKit
set_option maxRecDepth 100000 in
set_option maxHeartbeats 4000000 in
theorem rnames_any {a : Option Addr} {n cap : Nat} {l : List Int} {w : World} (i : Int) (k : Nat) (h : Src w a n cap l) (hi : i = (k : Int)) (hk : k ≤ n) :
    Calls Try.prog 56 #[.slice a n cap, .int .i64 i] w (Told (.tuple #[.string (strOfNums (bytesF (namesF l k).1)), .int .i64 ((namesF l k).2 : Nat)]) w) := by
  subst hi
  obtain ⟨i0, hi, hz0, hz1, hz2⟩ := info_parts Try.info3
  have hlen := h.len
  have hsm := h.small
  obtain ⟨hcap1, hcap2⟩ := h.cap
  have own0 := World.ownsRow_made (base := w.heap.size) (e := 3) (size := 1) w #[] 0 (Nat.le_refl _) (by simp [maxLen]) (by simp)
  generalize hR : namesF l k = R
  unfold namesF at hR
  rw [hlen] at hR
  have HR := Lib.hid hR; clear hR
  have HL := Lib.hid hlen; clear hlen
  have HP := Lib.hid h; clear h
  go_enter Try.func56, Try.ntmps56
  go_wp2_with fail
  go_loopw [1, 6] (fun at_ v wr => ∃ (f j : Nat) (acc : List Int), at_ = .int .i64 j ∧ wr.ownsRow w.heap.size 3 1 v acc.length (acc.map (Value.int .i64)) ∧ Hid (namesGo f l j acc = R) ∧ n < j + f ∧ j ≤ n ∧ acc.length ≤ j ∧ Below w.heap.size w wr)
    (fun at_ _ _ => n - (intOf at_).toNat)
  case atStart => exact ⟨n + 1, k, [], rfl, own0, HR, by omega, hk, by simp, (Below.refl _ w).alloc (Nat.le_refl _) _⟩
  case round =>
    obtain ⟨f, j, acc, rfl, hown, hG, hf, hj, hal, hbl⟩ := hrel
    have hS := Lib.hid (HP.out.later hbl)
    have hsz := hbl.size
    obtain ⟨f, rfl⟩ : ∃ g, f = g + 1 := ⟨f - 1, by omega⟩
    have f0 := rinnerAt (j : Int) j hS.out rfl
    rcases hnm : nmB l j with _ | _
    · have f1 := resc_any (j : Int) j hS.out rfl (by omega)
      rw [hnm] at f0
      rcases hes : escB l j with _ | _
      · have hE : R = (acc, j) := by rw [← hG.out, namesGo, if_neg (by rw [hnm]; decide), if_neg (by rw [hes]; decide)]
        rw [hes] at f1
        obtain ⟨a2, c2, hv, hrd⟩ := Reads.of_owns hown
        subst hv
        clear hG hnm hes hown
        go_wp2_with ((first | (go_at_call 57; with_reducible refine f0.mono ?_) | (go_at_call 58; with_reducible refine f1.mono ?_)); rintro e w1 ⟨rfl, hw1⟩; replace hw1 := hw1.symm; subst hw1)
        refine (rtext_any a2 c2 acc.length acc wr rfl hrd (by omega)).mono ?_
        rintro e w2 ⟨rfl, hb2⟩
        go_wp2
        go_ret2
        exact ⟨by rw [hE]; rfl, hbl.trans (hb2.mono hbl.size)⟩
      · have hjn : j < n := by have := lt_of_escB hes; rw [HL.out] at this; exact this
        obtain ⟨hv1, hv2⟩ := valueF_bd (l := l) (j := j) (by rw [HL.out]; exact hjn)
        rw [HL.out] at hv2
        have hG2 : Hid (namesGo f l (valueF l j).2 (acc ++ [(valueF l j).1]) = R) := Lib.hid (by rw [← hG.out]; conv => rhs; rw [namesGo, if_neg (by rw [hnm]; decide), if_pos hes])
        rw [hes] at f1
        have f2 := rvalue_any (j : Int) j hS.out rfl (by omega)
        clear hG hnm hes
        generalize (valueF l j).2 = j2 at *
        generalize (valueF l j).1 = c at *
        go_wp2_with ((first | (go_at_call 57; with_reducible refine f0.mono ?_) | (go_at_call 58; with_reducible refine f1.mono ?_)); rintro e w1 ⟨rfl, hw1⟩; replace hw1 := hw1.symm; subst hw1)
        refine f2.mono ?_
        rintro e w2 ⟨rfl, hb2⟩
        have hown2 := owns_later hown hb2
        have hbl2 := hbl.trans (hb2.mono hbl.size)
        have hsz2 := hbl2.size
        clear hown f0 f1 f2
        go_wp2_with (at_builtin; refine wpList_append_reads rfl _ _ 43 rfl w.heap.size 3 i0 .i64 8 Try.underlying43 hi hz0 hz1 hz2 _ acc.length acc rfl (hown2.alloc _) rfl (some ⟨w2.heap.size, 0, none⟩) 1 1 [c] rfl rfl (reads_new w2 .i64 _ 3 1 rfl (by unfold maxLen; omega)) (fun h => by cases h) (by unfold maxLen; omega) (by omega) (by simp <;> omega) ?_; intro v' w3 hown3 hgrow3)
        have hbl3 : Below w.heap.size w w3 := (hbl2.alloc hsz2 _).grown hgrow3 (by simp <;> omega) (fun j hj => (hown2.lt j hj).1)
        go_roundw
        case rel => exact ⟨f, j2, acc ++ [c], by go_num, hown3, hG2, by omega, by omega, by rw [List.length_append]; simp; omega, hbl3⟩
        case measure => simp [intOf]; omega
    · have hjn : j < n := by have := lt_of_nmB hnm; rw [HL.out] at this; exact this
      have hG2 : Hid (namesGo f l (j + 1) (acc ++ [chA l j]) = R) := Lib.hid (by rw [← hG.out]; conv => rhs; rw [namesGo, if_pos hnm])
      obtain ⟨b, off, rfl, hc⟩ := hS.out.cell j hjn
      rw [hnm] at f0
      clear hG hnm
      generalize chA l j = c at *
      go_wp2_with ((first | (go_at_call 57; (with_reducible refine f0.mono ?_); rintro e w1 ⟨rfl, hw1⟩; replace hw1 := hw1.symm; subst hw1) | (at_builtin; refine wpList_append_reads rfl _ _ 43 rfl w.heap.size 3 i0 .i64 8 Try.underlying43 hi hz0 hz1 hz2 _ acc.length acc rfl (hown.alloc _) rfl (some ⟨wr.heap.size, 0, none⟩) 1 1 [c] rfl rfl (reads_new wr .i64 _ 3 1 rfl (by unfold maxLen; omega)) (fun h => by cases h) (by unfold maxLen; omega) (by omega) (by simp <;> omega) ?_; intro v' w3 hown3 hgrow3)))
      have hbl3 : Below w.heap.size w w3 := (hbl.alloc hsz _).grown hgrow3 (by simp <;> omega) (fun j hj => (hown.lt j hj).1)
      go_roundw
      case rel => exact ⟨f, j + 1, acc ++ [c], by go_num, hown3, hG2, by omega, by omega, by rw [List.length_append]; simp; omega, hbl3⟩
      case measure => simp [intOf]; omega
end
end Go.Proofs.Ytelbjnanpmdnnaa
