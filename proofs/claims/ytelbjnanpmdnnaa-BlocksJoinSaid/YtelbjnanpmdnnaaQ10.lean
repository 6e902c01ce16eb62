/- Texts of mine in one: Prep. -/
import Derived.Test.YtelbjnanpmdnnaaQ09
namespace Go.Proofs.Ytelbjnanpmdnnaa
section
open Go.RowKit
def prepAt (zs : List Int) (k : Nat) : List Int :=
  if zs[k]?.getD 0 = 13 ∧ k + 1 < zs.length ∧ zs[k + 1]?.getD 0 = 10 then []
  else if zs[k]?.getD 0 = 13 ∨ zs[k]?.getD 0 = 12 then [10]
  else if zs[k]?.getD 0 = 0 then [65533] else [charOf (zs[k]?.getD 0)]
def prepTo (zs : List Int) : Nat → List Int
  | 0 => []
  | k + 1 => prepTo zs k ++ prepAt zs k
def prepF (zs : List Int) : List Int := prepTo zs zs.length
theorem prepTo_len (zs : List Int) (k : Nat) : (prepTo zs k).length ≤ k := by
  induction k with
  | zero => simp [prepTo]
  | succ k ih =>
    rw [prepTo, List.length_append]
    have : (prepAt zs k).length ≤ 1 := by unfold prepAt; (repeat' split) <;> simp
    omega
theorem prep_cases (zs : List Int) (k : Nat) : (zs[k]?.getD 0 = 13 ∧ k + 1 < zs.length ∧ zs[k + 1]?.getD 0 = 10 ∧ prepAt zs k = []) ∨
    (zs[k]?.getD 0 = 13 ∧ zs.length ≤ k + 1 ∧ prepAt zs k = [10]) ∨ (zs[k]?.getD 0 = 13 ∧ k + 1 < zs.length ∧ zs[k + 1]?.getD 0 ≠ 10 ∧ prepAt zs k = [10]) ∨
    (zs[k]?.getD 0 = 12 ∧ prepAt zs k = [10]) ∨ (zs[k]?.getD 0 = 0 ∧ prepAt zs k = [65533]) ∨
    (zs[k]?.getD 0 ≠ 13 ∧ zs[k]?.getD 0 ≠ 12 ∧ zs[k]?.getD 0 ≠ 0 ∧ prepAt zs k = [charOf (zs[k]?.getD 0)]) := by
  unfold prepAt
  by_cases h1 : zs[k]?.getD 0 = 13
  · by_cases h2 : k + 1 < zs.length
    · by_cases h3 : zs[k + 1]?.getD 0 = 10
      · left; exact ⟨h1, h2, h3, by rw [if_pos ⟨h1, h2, h3⟩]⟩
      · right; right; left; exact ⟨h1, h2, h3, by rw [if_neg (fun h => h3 h.2.2), if_pos (.inl h1)]⟩
    · right; left; exact ⟨h1, by omega, by rw [if_neg (fun h => h2 h.2.1), if_pos (.inl h1)]⟩
  · by_cases h4 : zs[k]?.getD 0 = 12
    · right; right; right; left; exact ⟨h4, by rw [if_neg (fun h => h1 h.1), if_pos (.inr h4)]⟩
    · by_cases h5 : zs[k]?.getD 0 = 0
      · right; right; right; right; left; exact ⟨h5, by rw [if_neg (fun h => h1 h.1), if_neg (by omega), if_pos h5]⟩
      · right; right; right; right; right; exact ⟨h1, h4, h5, by rw [if_neg (fun h => h1 h.1), if_neg (by omega), if_neg h5]⟩
set_option maxRecDepth 100000 in
set_option maxHeartbeats 2000000 in
theorem refPrepare_some (b off len cap : Nat) (zs : List Int) (w : World) (hlen : zs.length = len) (h1 : 1 ≤ len) (hl : len ≤ cap) (hcap : cap ≤ maxLen) (hat : At w .i64 b off zs) (hz : I64 zs) (hsm : len ≤ 100000) :
    Calls Try.prog 19 #[.slice (some ⟨b, off, none⟩) len cap] w (NewPost .i64 (prepF zs) w) := by
  obtain ⟨i0, hi, hz0, hz1, hz2⟩ := info_parts Try.info3
  unfold maxLen at hcap
  have H0 := Lib.hid hlen; clear hlen
  have own0 := World.ownsRow_made (base := w.heap.size) (e := 3) (size := 1) w #[] 0 (Nat.le_refl _) (by simp [maxLen]) (by simp)
  go_enter Try.func19, Try.ntmps19
  go_wp2
  go_loopw [3, 4] (fun v i wr => ∃ k : Nat, k ≤ len ∧ i = .int .i64 k ∧ wr.ownsRow w.heap.size 3 1 v (prepTo zs k).length ((prepTo zs k).map (Value.int .i64)) ∧ Below w.heap.size w wr)
    (fun _ i _ => len - (intOf i).toNat)
  case atStart => exact ⟨0, by omega, rfl, own0, (Below.refl _ w).alloc (Nat.le_refl _) _⟩
  case round =>
    obtain ⟨k, hk, rfl, hown, hbl⟩ := hrel
    by_cases hlt : k < len
    · have hkz : k < zs.length := by rw [H0.out]; exact hlt
      have HT : Hid (prepTo zs (k + 1) = prepTo zs k ++ prepAt zs k) := Lib.hid rfl
      have hll := prepTo_len zs k
      have hc := (hat.later hbl hat.1).2 k hkz
      have hc1 := (hat.later hbl hat.1).2 (k + 1)
      have hcz := hz.at k
      have hlt' : (k : Int) < (len : Int) := by omega
      clear hkz
      have key := prep_cases zs k
      rw [H0.out] at key hc1
      generalize prepTo zs k = acc at *
      rcases key with ⟨e1, e2, e3, HP⟩ | ⟨e1, e2, HP⟩ | ⟨e1, e2, e3, HP⟩ | ⟨e1, HP⟩ | ⟨e1, HP⟩ | ⟨e1, e2, e3, HP⟩
      · have hd := hc1 e2
        have e2' : (k : Int) + 1 < (len : Int) := by omega
        rw [e1] at hc
        rw [e3] at hd
        have HP := Lib.hid HP
        clear e1 e3 hcz hc1
        go_wp2
        go_roundw
        case rel => exact ⟨k + 1, by omega, by go_num, by rw [HT.out, HP.out, List.append_nil]; exact hown, hbl⟩
        case measure => simp [intOf]; omega
      · have HP := Lib.hid HP
        have e2' : (len : Int) ≤ (k : Int) + 1 := by omega
        rw [e1] at hc
        clear e1 hcz hc1
        · go_wp2_with fail
          refine (refRight_any 10 wr).mono ?_
          rintro e w2 ⟨he, rfl⟩
          rw [show rightB 10 = true from by decide] at he
          subst he
          go_wp2_with (at_builtin; refine wpList_append_reads rfl _ _ 43 rfl w.heap.size 3 i0 .i64 8 Try.underlying43 hi hz0 hz1 hz2 _ acc.length acc rfl (hown.alloc _) rfl (some ⟨wr.heap.size, 0, none⟩) 1 1 [10] rfl rfl (reads_new wr .i64 _ 3 1 rfl (by unfold maxLen; omega)) (fun h => by cases h) (by unfold maxLen; omega) (by omega) (by have := hbl.size; simp; omega) ?_; intro v' w4 hown4 hgrow4)
          have hbl4 : Below w.heap.size w w4 := (hbl.alloc hbl.size _).grown hgrow4 (by have := hbl.size; simp; omega) (fun j hj => (hown.lt j hj).1)
          go_roundw
          case rel => exact ⟨k + 1, by omega, by go_num, by rw [HT.out, HP.out]; exact hown4, hbl4⟩
          case measure => simp [intOf]; omega
      · have hd := hc1 e2
        have e2' : (k : Int) + 1 < (len : Int) := by omega
        have e3' : (zs[k + 1]?.getD 0 == 10) = false := by rw [beq_eq_false_iff_ne]; exact e3
        generalize zs[k + 1]?.getD 0 = d at hd e3'
        rw [e1] at hc
        have HP := Lib.hid HP
        clear e1 e3 hcz hc1
        · go_wp2_with fail
          refine (refRight_any 10 wr).mono ?_
          rintro e w2 ⟨he, rfl⟩
          rw [show rightB 10 = true from by decide] at he
          subst he
          go_wp2_with (at_builtin; refine wpList_append_reads rfl _ _ 43 rfl w.heap.size 3 i0 .i64 8 Try.underlying43 hi hz0 hz1 hz2 _ acc.length acc rfl (hown.alloc _) rfl (some ⟨wr.heap.size, 0, none⟩) 1 1 [10] rfl rfl (reads_new wr .i64 _ 3 1 rfl (by unfold maxLen; omega)) (fun h => by cases h) (by unfold maxLen; omega) (by omega) (by have := hbl.size; simp; omega) ?_; intro v' w4 hown4 hgrow4)
          have hbl4 : Below w.heap.size w w4 := (hbl.alloc hbl.size _).grown hgrow4 (by have := hbl.size; simp; omega) (fun j hj => (hown.lt j hj).1)
          go_roundw
          case rel => exact ⟨k + 1, by omega, by go_num, by rw [HT.out, HP.out]; exact hown4, hbl4⟩
          case measure => simp [intOf]; omega
      · have HP := Lib.hid HP
        rw [e1] at hc
        clear e1 hcz hc1
        · go_wp2_with fail
          refine (refRight_any 10 wr).mono ?_
          rintro e w2 ⟨he, rfl⟩
          rw [show rightB 10 = true from by decide] at he
          subst he
          go_wp2_with (at_builtin; refine wpList_append_reads rfl _ _ 43 rfl w.heap.size 3 i0 .i64 8 Try.underlying43 hi hz0 hz1 hz2 _ acc.length acc rfl (hown.alloc _) rfl (some ⟨wr.heap.size, 0, none⟩) 1 1 [10] rfl rfl (reads_new wr .i64 _ 3 1 rfl (by unfold maxLen; omega)) (fun h => by cases h) (by unfold maxLen; omega) (by omega) (by have := hbl.size; simp; omega) ?_; intro v' w4 hown4 hgrow4)
          have hbl4 : Below w.heap.size w w4 := (hbl.alloc hbl.size _).grown hgrow4 (by have := hbl.size; simp; omega) (fun j hj => (hown.lt j hj).1)
          go_roundw
          case rel => exact ⟨k + 1, by omega, by go_num, by rw [HT.out, HP.out]; exact hown4, hbl4⟩
          case measure => simp [intOf]; omega
      · have HP := Lib.hid HP
        rw [e1] at hc
        clear e1 hcz hc1
        · go_wp2_with (at_builtin; refine wpList_append_reads rfl _ _ 43 rfl w.heap.size 3 i0 .i64 8 Try.underlying43 hi hz0 hz1 hz2 _ acc.length acc rfl (hown.alloc _) rfl (some ⟨wr.heap.size, 0, none⟩) 1 1 [65533] rfl rfl (reads_new wr .i64 _ 3 1 rfl (by unfold maxLen; omega)) (fun h => by cases h) (by unfold maxLen; omega) (by omega) (by have := hbl.size; simp; omega) ?_; intro v' w4 hown4 hgrow4)
          have hbl4 : Below w.heap.size w w4 := (hbl.alloc hbl.size _).grown hgrow4 (by have := hbl.size; simp; omega) (fun j hj => (hown.lt j hj).1)
          go_roundw
          case rel => exact ⟨k + 1, by omega, by go_num, by rw [HT.out, HP.out]; exact hown4, hbl4⟩
          case measure => simp [intOf]; omega
      · have HP := Lib.hid HP
        have q1 : (zs[k]?.getD 0 == 13) = false := by rw [beq_eq_false_iff_ne]; exact e1
        have q2 : (zs[k]?.getD 0 == 12) = false := by rw [beq_eq_false_iff_ne]; exact e2
        have q3 : (zs[k]?.getD 0 == 0) = false := by rw [beq_eq_false_iff_ne]; exact e3
        generalize zs[k]?.getD 0 = c at hc q1 q2 q3 HP
        clear e1 e2 e3 hcz hc1
        by_cases hrc : rightB c = true
        · have HC : Hid (charOf c = c) := Lib.hid (by unfold charOf; rw [if_pos hrc])
          go_wp2_with fail
          refine (refRight_any c wr).mono ?_
          rintro e w2 ⟨he, rfl⟩
          rw [hrc] at he
          subst he
          clear hrc
          go_wp2_with (at_builtin; refine wpList_append_reads rfl _ _ 43 rfl w.heap.size 3 i0 .i64 8 Try.underlying43 hi hz0 hz1 hz2 _ acc.length acc rfl (hown.alloc _) rfl (some ⟨wr.heap.size, 0, none⟩) 1 1 [c] rfl rfl (reads_new wr .i64 _ 3 1 rfl (by unfold maxLen; omega)) (fun h => by cases h) (by unfold maxLen; omega) (by omega) (by have := hbl.size; simp; omega) ?_; intro v' w4 hown4 hgrow4)
          have hbl4 : Below w.heap.size w w4 := (hbl.alloc hbl.size _).grown hgrow4 (by have := hbl.size; simp; omega) (fun j hj => (hown.lt j hj).1)
          go_roundw
          case rel => exact ⟨k + 1, by omega, by go_num, by rw [HT.out, HP.out, HC.out]; exact hown4, hbl4⟩
          case measure => simp [intOf]; omega
        · have hrf : rightB c = false := by simpa using hrc
          have HC : Hid (charOf c = 65533) := Lib.hid (by unfold charOf; rw [if_neg hrc])
          go_wp2_with fail
          refine (refRight_any c wr).mono ?_
          rintro e w2 ⟨he, rfl⟩
          rw [hrf] at he
          subst he
          clear hrc hrf
          go_wp2_with (at_builtin; refine wpList_append_reads rfl _ _ 43 rfl w.heap.size 3 i0 .i64 8 Try.underlying43 hi hz0 hz1 hz2 _ acc.length acc rfl (hown.alloc _) rfl (some ⟨wr.heap.size, 0, none⟩) 1 1 [65533] rfl rfl (reads_new wr .i64 _ 3 1 rfl (by unfold maxLen; omega)) (fun h => by cases h) (by unfold maxLen; omega) (by omega) (by have := hbl.size; simp; omega) ?_; intro v' w4 hown4 hgrow4)
          have hbl4 : Below w.heap.size w w4 := (hbl.alloc hbl.size _).grown hgrow4 (by have := hbl.size; simp; omega) (fun j hj => (hown.lt j hj).1)
          go_roundw
          case rel => exact ⟨k + 1, by omega, by go_num, by rw [HT.out, HP.out, HC.out]; exact hown4, hbl4⟩
          case measure => simp [intOf]; omega
    · have hkl : k = len := by omega
      go_wp2
      go_ret
      have he : prepTo zs k = prepF zs := by unfold prepF; rw [H0.out, hkl]
      rw [he] at hown
      exact newPost_of_owns hown hbl
theorem refPrepare_none (a : Option Addr) (cap : Nat) (w : World) : Calls Try.prog 19 #[.slice a 0 cap] w (NewPost .i64 (prepF []) w) := by
  have own0 := World.ownsRow_made (base := w.heap.size) (e := 3) (size := 1) w #[] 0 (Nat.le_refl _) (by simp [maxLen]) (by simp)
  go_enter Try.func19, Try.ntmps19
  go_wp2
  refine wp_loop_rounds 1 ?_; rw [rounds_succ]
  go_wp2
  go_ret
  exact newPost_of_owns (zs := prepF []) own0 ((Below.refl _ w).alloc (Nat.le_refl _) _)
theorem refPrepare_any (a : Option Addr) (cap n : Nat) (zs : List Int) (w : World) (hn : zs.length = n) (hr : Reads w .i64 a cap zs) (hz : I64 zs) (hsm : n ≤ 100000) :
    Calls Try.prog 19 #[.slice a n cap] w (NewPost .i64 (prepF zs) w) := by
  obtain ⟨h1, h2, h3⟩ := hr
  by_cases h0 : zs = []
  · subst h0; subst hn; exact refPrepare_none _ cap w
  · obtain ⟨b, off, rfl, hat⟩ := h3.resolve_left h0
    exact refPrepare_some b off n cap zs w hn (by rw [← hn]; exact List.length_pos_iff.2 h0) (by omega) h2 hat hz hsm
end
end Go.Proofs.Ytelbjnanpmdnnaa
