/- Tokens, the program's side: names: a walk over any characters. -/
import Derived.Test.YtoepldjjoeidoaaDoorTn5
import Derived.Test.YtoepldjjoeidoaaDoorAppend
namespace Go.Proofs.YtoepldjjoeidoaaDoor
open Go.RowKit Go.Shelf
set_option linter.unusedVariables false
set_option linter.unusedSimpArgs false

theorem nm_esc {l : List Int} {j : Nat} (h : nmB l j = true) : escB l j = false := by
  unfold escB
  rcases hq : isB l j 92 with _ | _
  · rfl
  · unfold nmB at h
    rw [isB_iff.1 hq] at h
    exact absurd h (by decide)
theorem map_snoc2 {f : Int → Int} {xs ys : List Int} {x y : Int} (h : xs.map f = ys.map f) (h2 : f x = f y) : (xs ++ [x]).map f = (ys ++ [y]).map f := by
  rw [List.map_append, List.map_append, h, List.map_cons, List.map_cons, h2]
theorem bytesF_same {xs ys : List Int} (h : xs.map cleanF = ys.map cleanF) : bytesF xs = bytesF ys := by unfold bytesF; rw [h]
theorem ret_si {k : IntKind} {a b : ByteArray} {c d : Int} (h : a = b) (h2 : c = d) : Ending.returned (.tuple #[.string a, .int k c]) = .returned (.tuple #[.string b, .int k d]) := by rw [h, h2]

set_option maxRecDepth 100000 in
set_option maxHeartbeats 4000000 in
theorem readName_any {a : Option Addr} {n cap : Nat} {l : List Int} {w : World} (i : Int) (k : Nat) (h : Src w a n cap l) (hM : MxW w) (hi : i = (k : Int)) (hk : k ≤ n) :
    Calls Tryd.prog 50 #[.slice a n cap, .int .i64 i] w (Told (.tuple #[.string (strOfNums (bytesF (namesF l k).1)), .int .i64 ((namesF l k).2 : Nat)]) w) := by
  subst hi
  obtain ⟨i0, hi, hz0, hz1, hz2⟩ := info_parts Tryd.info3
  have hlen := h.len
  have hsm := h.small
  have own0 := World.ownsRow_nil w w.heap.size 3 1
  generalize hR : namesF l k = R
  unfold namesF at hR
  rw [hlen] at hR
  have HR := Lib.hid hR; clear hR
  have HL := Lib.hid hlen; clear hlen
  have HP := Lib.hid h; clear h
  have HM := Lib.hid hM; clear hM
  go_enter Tryd.func50, Tryd.ntmps50
  go_wp2_with fail
  go_loopw [1, 6, 7, 8] (fun at_ v _ _ wr => ∃ (f j : Nat) (acc acc' : List Int), at_ = .int .i64 j ∧ wr.ownsRow w.heap.size 3 1 v acc.length (acc.map (Value.int .i64)) ∧ Hid (namesGo f l j acc' = R) ∧ Hid (acc.map cleanF = acc'.map cleanF) ∧ n < j + f ∧ j ≤ n ∧ acc.length ≤ j ∧ Below w.heap.size w wr)
    (fun at_ _ _ _ _ => n - (intOf at_).toNat)
  case atStart => exact ⟨n + 1, k, [], [], rfl, own0, HR, Lib.hid rfl, by omega, hk, by simp, Below.refl _ _⟩
  case round =>
    obtain ⟨f, j, acc, acc', rfl, hown, hG, hE, hf, hj, hal, hbl⟩ := hrel
    have hS := Lib.hid (HP.out.later hbl)
    have hsz := hbl.size
    obtain ⟨f, rfl⟩ : ∃ g, f = g + 1 := ⟨f - 1, by omega⟩
    have f0 := hasName_any (j : Int) j hS.out rfl (by omega)
    have f1 := isEscape_any (j : Int) j hS.out rfl (by omega)
    rcases hnm : nmB l j with _ | _
    · rw [hnm] at f0
      rcases hes : escB l j with _ | _
      · have hEE : R = (acc', j) := by rw [← hG.out, namesGo, if_neg (by rw [hnm]; decide), if_neg (by rw [hes]; decide)]
        rw [hes] at f0
        obtain ⟨a2, c2, hv, hrd⟩ := Reads.of_owns hown
        subst hv
        have cT := tokText_any a2 c2 acc.length acc wr rfl hrd (by omega) (HM.out.later hbl)
        have HQ := Lib.hid hEE
        clear hG hnm hes hown f1 hEE
        go_wp2_with ((go_at_call 51; (with_reducible refine f0.mono ?_)); rintro e w1 ⟨rfl, hw1⟩; replace hw1 := hw1.symm; subst hw1)
        refine cT.mono ?_
        rintro e w2 ⟨rfl, hb2⟩
        go_wp2
        go_ret2
        exact ⟨by rw [HQ.out]; exact ret_si (by rw [bytesF_same hE.out]) rfl, hbl.trans (hb2.mono hbl.size)⟩
      · have hjn : j < n := by have := lt_of_escB hes; rw [HL.out] at this; exact this
        obtain ⟨hv1, hv2⟩ := valueF_bd (l := l) (j := j) (by rw [HL.out]; exact hjn)
        rw [HL.out] at hv2
        have hvv := valC_value (l := l) (j := j) HP.out.pre
        have hG2 : Hid (namesGo f l (valueF l j).2 (acc' ++ [(valueF l j).1]) = R) := Lib.hid (by rw [← hG.out]; conv => rhs; rw [namesGo, if_neg (by rw [hnm]; decide), if_pos hes])
        have hE2 := Lib.hid (map_snoc2 hE.out hvv.2)
        rw [hes] at f0 f1
        have f2 := readEscape_any (j : Int) j hS.out rfl hjn
        rw [hvv.1] at f2
        obtain ⟨b, off, rfl, hc⟩ := hS.out.cell j hjn
        clear hG hnm hes hvv
        generalize (valueF l j).2 = j2 at *
        generalize (valueF l j).1 = c' at *
        generalize (valC l j).1 = c at *
        generalize chA l j = z at *
        go_wp2_with (first
          | (go_at_call 51; (with_reducible refine f0.mono ?_); rintro e w1 ⟨rfl, hw1⟩; replace hw1 := hw1.symm; subst hw1)
          | (go_at_call 55; (with_reducible refine f1.mono ?_); rintro e w1 ⟨rfl, hw1⟩; replace hw1 := hw1.symm; subst hw1)
          | (go_at_call 56; (with_reducible refine f2.mono ?_); rintro e w1 ⟨rfl, hw1⟩; replace hw1 := hw1.symm; subst hw1)
          | (at_builtin; refine wpList_append_reads rfl _ _ 22 rfl w.heap.size 3 i0 .i64 8 Tryd.underlying22 hi hz0 hz1 hz2 _ acc.length acc rfl (hown.alloc _) rfl (some ⟨wr.heap.size, 0, none⟩) 1 1 [c] rfl rfl (reads_new wr .i64 _ 3 1 rfl (by unfold maxLen; omega)) (fun h => by cases h) (by unfold maxLen; omega) (by omega) (by simp <;> omega) ?_; intro v' w3 hown3 hgrow3))
        have hbl3 : Below w.heap.size w w3 := (hbl.alloc hsz _).grown hgrow3 (by simp <;> omega) (fun j hj => (hown.lt j hj).1)
        go_roundw
        case rel => exact ⟨f, j2, acc ++ [c], acc' ++ [c'], by go_num, hown3, hG2, hE2, by omega, by omega, by rw [List.length_append]; simp; omega, hbl3⟩
        case measure => simp [intOf]; omega
    · have hjn : j < n := by have := lt_of_nmB hnm; rw [HL.out] at this; exact this
      have hG2 : Hid (namesGo f l (j + 1) (acc' ++ [chA l j]) = R) := Lib.hid (by rw [← hG.out]; conv => rhs; rw [namesGo, if_pos hnm])
      have hE2 := Lib.hid (map_snoc2 hE.out (rfl : cleanF (chA l j) = cleanF (chA l j)))
      obtain ⟨b, off, rfl, hc⟩ := hS.out.cell j hjn
      rw [nm_esc hnm] at f1
      rw [hnm] at f0
      clear hG hnm
      generalize escB l j = q at *
      generalize chA l j = c at *
      go_wp2_with (first
        | (go_at_call 51; (with_reducible refine f0.mono ?_); rintro e w1 ⟨rfl, hw1⟩; replace hw1 := hw1.symm; subst hw1)
        | (go_at_call 55; (with_reducible refine f1.mono ?_); rintro e w1 ⟨rfl, hw1⟩; replace hw1 := hw1.symm; subst hw1)
        | (at_builtin; refine wpList_append_reads rfl _ _ 22 rfl w.heap.size 3 i0 .i64 8 Tryd.underlying22 hi hz0 hz1 hz2 _ acc.length acc rfl (hown.alloc _) rfl (some ⟨wr.heap.size, 0, none⟩) 1 1 [c] rfl rfl (reads_new wr .i64 _ 3 1 rfl (by unfold maxLen; omega)) (fun h => by cases h) (by unfold maxLen; omega) (by omega) (by simp <;> omega) ?_; intro v' w3 hown3 hgrow3))
      have hbl3 : Below w.heap.size w w3 := (hbl.alloc hsz _).grown hgrow3 (by simp <;> omega) (fun j hj => (hown.lt j hj).1)
      go_roundw
      case rel => exact ⟨f, j + 1, acc ++ [c], acc' ++ [c], by go_num, hown3, hG2, hE2, by omega, by omega, by rw [List.length_append]; simp; omega, hbl3⟩
      case measure => simp [intOf]; omega
end Go.Proofs.YtoepldjjoeidoaaDoor
