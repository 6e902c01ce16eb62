/- NthOver: a set that is refused, and the law's walk. -/
import Derived.Test.YtcfcoojnjdoeeaaDoorNthSm
import Derived.Test.YtcfcoojnjdoeeaaDoorErr
namespace Go.Proofs.YtcfcoojnjdoeeaaDoor
open Go.RowKit

/-- What is answered where a set is refused. -/
def Refused (w : World) (e : Ending) (w' : World) : Prop := ∃ f, e = .returned (.tuple #[.agg #[.int .i64 0, .slice none 0 0], fltV f]) ∧ Blk w' f [.int .i64 3, .int .i64 0, .nilIface] 61 ∧ Below w.heap.size w w'

set_option maxRecDepth 100000 in
set_option maxHeartbeats 2000000 in
theorem bounded_over (h p : Nat) (fv : Value) (hsz : ¬ h + p ≤ 4096) (_hh : h ≤ 1099511627776) (hp : 1 ≤ p ∧ p ≤ 1099511627776) (w : World) :
    Calls Tryd.prog 29 #[.int .i64 h, .int .i64 p, fv] w (Refused w) := by
  obtain ⟨p1, p2⟩ := hp
  have hw : wrap64 (4096 - (p : Int)) = 4096 - p := by unfold wrap64; omega
  have hcmp : 4096 - (p : Int) < (h : Int) := by omega
  have hA := Blk.alloc (w := w) [.int .i64 0, .slice none 0 0] 28
  have B1 : Below w.heap.size w (w.alloc (.cells #[.int .i64 0, .slice none 0 0] 28)) := (Below.refl _ w).alloc (Nat.le_refl _) _
  have hF := Blk.alloc (w := w.alloc (.cells #[.int .i64 0, .slice none 0 0] 28)) [.int .i64 3, .int .i64 0, .nilIface] 61
  have hA2 := hA.alloc_old (.cells #[.int .i64 3, .int .i64 0, .nilIface] 61)
  have hA0 := hA2.cell 0 _ rfl
  have hA1 := hA2.cell 1 _ rfl
  have fA0 := hA2.frozen 0
  have fA1 := hA2.frozen 1
  have hs : (w.alloc (.cells #[.int .i64 0, .slice none 0 0] 28)).heap.size = w.heap.size + 1 := by simp
  rw [hs] at hF
  have HF := Lib.hid hF
  have HB := Lib.hid (B1.alloc (by simp) (.cells #[.int .i64 3, .int .i64 0, .nilIface] 61))
  clear hA hA2 hF B1 hs
  go_enter Tryd.func29, Tryd.ntmps29
  go_wp2_with (go_at_call 48; refine (fail_any _ _ _).mono ?_; rintro e w' ⟨rfl, hw2⟩; replace hw2 := hw2.symm; subst hw2)
  exact bodyPost_ret (v := .tuple #[.agg #[.int .i64 0, .slice none 0 0], fltV (w.heap.size + 1)]) (by simp [results, Tryd.results29, go_sem, hA0, hA1]) rfl ⟨w.heap.size + 1, rfl, HF.out, HB.out⟩

set_option maxRecDepth 100000 in
set_option maxHeartbeats 2000000 in
theorem of_over (a b : Int) (w : World) (ha : -1099511627776 ≤ a ∧ a ≤ 1099511627776) (hb : -1099511627776 ≤ b ∧ b ≤ 1099511627776) (hsz : ¬ headF a b + roundF a ≤ 4096) :
    Calls Tryd.prog 11 #[.agg #[.int .i64 a, .int .i64 b]] w (Refused w) := by
  have hbd : headF a b ≤ 1099511627776 ∧ 1 ≤ roundF a ∧ roundF a ≤ 1099511627776 := by
    unfold headF roundF
    split <;> omega
  obtain ⟨q1, q2, q3⟩ := hbd
  have B1 : Below w.heap.size w ((w.alloc (.cells #[.int .i64 a, .int .i64 b] 23)).alloc (.cells #[.int .i64 0, .slice none 0 0] 28)) := ((Below.refl _ w).alloc (Nat.le_refl _) _).alloc (by simp) _
  have hA := Lib.hid (Blk.alloc (w := w.alloc (.cells #[.int .i64 a, .int .i64 b] 23)) [.int .i64 0, .slice none 0 0] 28)
  have hP := fun w => partsF_any a b w ha hb
  have cB := fun fv w => bounded_over (headF a b) (roundF a) fv hsz q1 ⟨q2, q3⟩ w
  generalize headF a b = h at *
  generalize roundF a = p at *
  clear ha hb
  go_enter Tryd.func11, Tryd.ntmps11
  go_wp2_with (first
    | (go_at_call 28; refine (hP _).mono ?_; rintro e w1 ⟨rfl, hb1⟩))
  have hAl := lt_of_block hA.out
  have hA1 := Lib.hid (hA.out.later hb1 hAl)
  have B2 := B1.trans (hb1.mono B1.size)
  clear hA hP
  refine (cB _ _).mono ?_
  rintro e w2 ⟨f, rfl, hF, hb2⟩
  have hA2 := hA1.out.later hb2 (lt_of_block hA1.out)
  have e1 : (w.alloc (.cells #[.int .i64 a, .int .i64 b] 23)).heap.size = w.heap.size + 1 := by simp
  rw [e1] at hA2
  have hA20 := hA2.cell 0 _ rfl
  have hA21 := hA2.cell 1 _ rfl
  have fA20 := hA2.frozen 0
  have fA21 := hA2.frozen 1
  have B3 := B2.trans (hb2.mono B2.size)
  have B4 := (B3.setCell (p := ⟨w.heap.size + 1, 0, none⟩) (by simp) (.int .i64 0)).setCell (p := ⟨w.heap.size + 1, 1, none⟩) (by simp) (.slice none 0 0)
  have hne : f ≠ w.heap.size + 1 := fun e => by
    subst e
    have x1 := hF.cell 2 _ rfl
    have x2 := cell_of_row w2 (w.heap.size + 1) 2 _ _ _ hA2
    rw [x1] at x2
    simp at x2
  have HF2 := Lib.hid ((hF.kept (grown_setCell _ (w.heap.size + 1) 0 (.int .i64 0)) (by simpa using hne.symm)).kept (grown_setCell _ (w.heap.size + 1) 1 (.slice none 0 0)) (by simpa using hne.symm))
  have HB := Lib.hid B4
  clear hF hA2 hA1 cB
  go_wp2
  exact bodyPost_ret (v := .tuple #[.agg #[.int .i64 0, .slice none 0 0], fltV f]) (by simp [results, Tryd.results11, go_sem, hA20, hA21]) rfl ⟨f, rfl, HF2.out, HB.out⟩

set_option maxRecDepth 100000 in
set_option maxHeartbeats 2000000 in
theorem lawOver_early (x y n : Int) (w : World) (hn : -9223372036854775808 ≤ n ∧ n ≤ 9223372036854775807) (h : smallB x y 1099511627776 = false ∨ 1099511627776 < n) :
    Calls Tryd.prog 3 #[.agg #[.int .i64 x, .int .i64 y], .int .i64 n] w (ToldB (.bool true) w) := by
  have B1 : Below w.heap.size w (w.alloc (.cells #[.int .i64 x, .int .i64 y] 23)) := ((Below.refl _ w).alloc (Nat.le_refl _) _)
  have hX := Lib.hid (Blk.alloc (w := w) [.int .i64 x, .int .i64 y] 23)
  have cS := fun w => small_any x y 1099511627776 w (by omega)
  obtain ⟨n1, n2⟩ := hn
  cases hs : smallB x y 1099511627776
  all_goals
    rw [hs] at cS h
    first
      | (have hn : (1099511627776 : Int) < n := (by rcases h with h | h; cases h; exact h))
      | skip
    clear h hs
    go_enter Tryd.func3, Tryd.ntmps3
    go_wp2_with fail
    refine (speaks5_any _).mono ?_
    rintro e w1 ⟨rfl, hb1⟩
    have B2 := below_from B1 hb1
    have hX1 := hX.out.later hb1 (lt_of_block hX.out)
    have c0 := hX1.cell 0 _ rfl
    have c1 := hX1.cell 1 _ rfl
    go_wp2_with fail
    refine (cS _).mono ?_
    rintro e w2 ⟨rfl, hb2⟩
    have B3 := below_from B2 hb2
    have hX2 := hX1.later hb2 (lt_of_block hX1)
    have c0 := hX2.cell 0 _ rfl
    have c1 := hX2.cell 1 _ rfl
    go_wp2
    go_ret
    exact ⟨rfl, B3⟩

set_option maxRecDepth 100000 in
set_option maxHeartbeats 4000000 in
theorem lawOver_not (x y n : Int) (w : World) (hg : HasET w) (hn : -9223372036854775808 ≤ n ∧ n ≤ 1099511627776) (hs : smallB x y 1099511627776 = true) (hsz : ¬ headF x y + roundF x ≤ 4096) :
    Calls Tryd.prog 3 #[.agg #[.int .i64 x, .int .i64 y], .int .i64 n] w (ToldB (.bool true) w) := by
  have B1 : Below w.heap.size w (w.alloc (.cells #[.int .i64 x, .int .i64 y] 23)) := ((Below.refl _ w).alloc (Nat.le_refl _) _)
  have hX := Lib.hid (Blk.alloc (w := w) [.int .i64 x, .int .i64 y] 23)
  have cS := fun w => small_any x y 1099511627776 w (by omega)
  obtain ⟨n1, n2⟩ := hn
  rw [hs] at cS
  obtain ⟨⟨x1, x2⟩, y1, y2⟩ := smallB_yes hs
  have cO := fun w => of_over x y w ⟨x1, x2⟩ ⟨y1, y2⟩ hsz
  have hgl := World.block_lt_of_cell? w _ hg
  have HG := Lib.hid hg
  have hc : (0 < x ∧ 4096 < max (y - 1) 0 + x) ∨ (x ≤ 0 ∧ 4096 ≤ y) := by
    unfold headF roundF at hsz
    by_cases h : 0 < x
    · rw [if_pos h, if_pos h] at hsz; exact .inl ⟨h, by omega⟩
    · rw [if_neg h, if_neg h] at hsz; exact .inr ⟨by omega, by omega⟩
  clear hs hsz hg
  rcases hc with ⟨hx0, hc⟩ | ⟨hx0, hc⟩
  · have hx0' : ¬ x ≤ 0 := by omega
    by_cases hy1 : 1 < y
    · have hc' : 4096 < y - 1 + x := by omega
      have hy0 : 0 < y := by omega
      go_enter Tryd.func3, Tryd.ntmps3
      go_wp2_with fail
      refine (speaks5_any _).mono ?_
      rintro e w1 ⟨rfl, hb1⟩
      have B2 := below_from B1 hb1
      have hX1 := hX.out.later hb1 (lt_of_block hX.out)
      have c0 := hX1.cell 0 _ rfl
      have c1 := hX1.cell 1 _ rfl
      go_wp2_with fail
      refine (cS _).mono ?_
      rintro e w2 ⟨rfl, hb2⟩
      have B3 := below_from B2 hb2
      have hX2 := hX1.later hb2 (lt_of_block hX1)
      have c0 := hX2.cell 0 _ rfl
      have c1 := hX2.cell 1 _ rfl
      go_wp2_with fail
      refine (cO _).mono ?_
      rintro e w3 ⟨f, rfl, hF, hb3⟩
      have B4 := below_from B3 hb3
      have hX3 := hX2.later hb3 (lt_of_block hX2)
      have al := (Below.refl _ w3).alloc (Nat.le_refl _) (.cells #[.int .i64 0, .slice none 0 0] 28)
      have hX4 := hX3.alloc_old (.cells #[.int .i64 0, .slice none 0 0] 28)
      have c0 := hX4.cell 0 _ rfl
      have c1 := hX4.cell 1 _ rfl
      have B5 := below_from B4 al
      have HF := Lib.hid (hF.later al (lt_of_block hF))
      clear hX1 hX2 hX3 hF
      have HE := Lib.hid (HG.out.below B5 hgl)
      unfold fltV
      go_wp2
      all_goals
        go_quiet (fail)
        go_wp2_with (first
          | (go_at_call 14; refine (kind_hit f 3 0 .nilIface _ (by exact HF.out) (by exact HE.out)).mono ?_; rintro r w5 ⟨rfl, hb5⟩)
          | (go_at_call 15; refine (at_hit f 3 0 .nilIface _ (Blk.later (by exact HF.out) hb5 (lt_of_block (by exact HF.out))) (HasET.below (by exact HE.out) hb5 (World.block_lt_of_cell? _ _ HE.out))).mono ?_; rintro r w6 ⟨rfl, hb6⟩))
        go_ret
        exact ⟨rfl, below_from (below_from B5 (below_drewN (Below.refl _ _) _)) (hb5.trans (hb6.mono hb5.size))⟩
    · have hc' : 4096 < x := by omega
      by_cases hy0 : 0 < y
      all_goals
        go_enter Tryd.func3, Tryd.ntmps3
        go_wp2_with fail
        refine (speaks5_any _).mono ?_
        rintro e w1 ⟨rfl, hb1⟩
        have B2 := below_from B1 hb1
        have hX1 := hX.out.later hb1 (lt_of_block hX.out)
        have c0 := hX1.cell 0 _ rfl
        have c1 := hX1.cell 1 _ rfl
        go_wp2_with fail
        refine (cS _).mono ?_
        rintro e w2 ⟨rfl, hb2⟩
        have B3 := below_from B2 hb2
        have hX2 := hX1.later hb2 (lt_of_block hX1)
        have c0 := hX2.cell 0 _ rfl
        have c1 := hX2.cell 1 _ rfl
        go_wp2_with fail
        refine (cO _).mono ?_
        rintro e w3 ⟨f, rfl, hF, hb3⟩
        have B4 := below_from B3 hb3
        have hX3 := hX2.later hb3 (lt_of_block hX2)
        have al := (Below.refl _ w3).alloc (Nat.le_refl _) (.cells #[.int .i64 0, .slice none 0 0] 28)
        have hX4 := hX3.alloc_old (.cells #[.int .i64 0, .slice none 0 0] 28)
        have c0 := hX4.cell 0 _ rfl
        have c1 := hX4.cell 1 _ rfl
        have B5 := below_from B4 al
        have HF := Lib.hid (hF.later al (lt_of_block hF))
        clear hX1 hX2 hX3 hF
        have HE := Lib.hid (HG.out.below B5 hgl)
        unfold fltV
        go_wp2
        all_goals
          go_quiet (fail)
          go_wp2_with (first
            | (go_at_call 14; refine (kind_hit f 3 0 .nilIface _ (by exact HF.out) (by exact HE.out)).mono ?_; rintro r w5 ⟨rfl, hb5⟩)
            | (go_at_call 15; refine (at_hit f 3 0 .nilIface _ (Blk.later (by exact HF.out) hb5 (lt_of_block (by exact HF.out))) (HasET.below (by exact HE.out) hb5 (World.block_lt_of_cell? _ _ HE.out))).mono ?_; rintro r w6 ⟨rfl, hb6⟩))
          go_ret
          exact ⟨rfl, below_from (below_from B5 (below_drewN (Below.refl _ _) _)) (hb5.trans (hb6.mono hb5.size))⟩
  · have hx0' : ¬ 0 < x := by omega
    have hy0 : 0 < y := by omega
    have hc' : ¬ y < 4096 := by omega
    go_enter Tryd.func3, Tryd.ntmps3
    go_wp2_with fail
    refine (speaks5_any _).mono ?_
    rintro e w1 ⟨rfl, hb1⟩
    have B2 := below_from B1 hb1
    have hX1 := hX.out.later hb1 (lt_of_block hX.out)
    have c0 := hX1.cell 0 _ rfl
    have c1 := hX1.cell 1 _ rfl
    go_wp2_with fail
    refine (cS _).mono ?_
    rintro e w2 ⟨rfl, hb2⟩
    have B3 := below_from B2 hb2
    have hX2 := hX1.later hb2 (lt_of_block hX1)
    have c0 := hX2.cell 0 _ rfl
    have c1 := hX2.cell 1 _ rfl
    go_wp2_with fail
    refine (cO _).mono ?_
    rintro e w3 ⟨f, rfl, hF, hb3⟩
    have B4 := below_from B3 hb3
    have hX3 := hX2.later hb3 (lt_of_block hX2)
    have al := (Below.refl _ w3).alloc (Nat.le_refl _) (.cells #[.int .i64 0, .slice none 0 0] 28)
    have hX4 := hX3.alloc_old (.cells #[.int .i64 0, .slice none 0 0] 28)
    have c0 := hX4.cell 0 _ rfl
    have c1 := hX4.cell 1 _ rfl
    have B5 := below_from B4 al
    have HF := Lib.hid (hF.later al (lt_of_block hF))
    clear hX1 hX2 hX3 hF
    have HE := Lib.hid (HG.out.below B5 hgl)
    unfold fltV
    all_goals
      go_wp2_with (first
        | (go_at_call 14; refine (kind_hit f 3 0 .nilIface _ (by exact HF.out) (by exact HE.out)).mono ?_; rintro r w5 ⟨rfl, hb5⟩)
        | (go_at_call 15; refine (at_hit f 3 0 .nilIface _ (Blk.later (by exact HF.out) hb5 (lt_of_block (by exact HF.out))) (HasET.below (by exact HE.out) hb5 (World.block_lt_of_cell? _ _ HE.out))).mono ?_; rintro r w6 ⟨rfl, hb6⟩))
      go_ret
      exact ⟨rfl, below_from B5 (hb5.trans (hb6.mono hb5.size))⟩

set_option maxRecDepth 100000 in
set_option maxHeartbeats 4000000 in
theorem lawOver_low (x y : Int) (n : Int) (w : World) (hn : -9223372036854775808 ≤ n ∧ n ≤ 0) (hs : smallB x y 1099511627776 = true) (hsz : headF x y + roundF x ≤ 4096) :
    Calls Tryd.prog 3 #[.agg #[.int .i64 x, .int .i64 y], .int .i64 n] w (ToldB (.bool true) w) := by
  have B1 : Below w.heap.size w (w.alloc (.cells #[.int .i64 x, .int .i64 y] 23)) := ((Below.refl _ w).alloc (Nat.le_refl _) _)
  have hX := Lib.hid (Blk.alloc (w := w) [.int .i64 x, .int .i64 y] 23)
  have cS := fun w => small_any x y 1099511627776 w (by omega)
  obtain ⟨n1, n2⟩ := hn
  rw [hs] at cS
  obtain ⟨⟨x1, x2⟩, y1, y2⟩ := smallB_yes hs
  have cO := fun w => of_any x y w ⟨x1, x2⟩ ⟨y1, y2⟩ hsz
  have cH := fun W v (h : IsSet W v (hasN x y) (headF x y) (roundF x)) => hasS_low W v _ _ _ h n ⟨n1, n2⟩
  have m1 : ¬ (1 : Int) ≤ n := by omega
  have hc : (0 < x ∧ (1 < y ∨ (y ≤ 1 ∧ x ≤ 4096))) ∨ (x ≤ 0 ∧ y < 4096) := by
    unfold headF roundF at hsz
    by_cases h : 0 < x
    · rw [if_pos h, if_pos h] at hsz; exact .inl ⟨h, by omega⟩
    · rw [if_neg h, if_neg h] at hsz; exact .inr ⟨by omega, by omega⟩
  clear hs hsz
  generalize hasN x y = S at *
  generalize headF x y = hd at *
  generalize roundF x = p at *
  rcases hc with ⟨hx0, hc | ⟨hc, hc2⟩⟩ | ⟨hx0, hc⟩
  · have hx0' : ¬ x ≤ 0 := by omega
    have hy0 : 0 < y := by omega
    by_cases hq : y - 1 + x ≤ 4096
    all_goals
      go_enter Tryd.func3, Tryd.ntmps3
      go_wp2_with fail
      refine (speaks5_any _).mono ?_
      rintro e w1 ⟨rfl, hb1⟩
      have B2 := below_from B1 hb1
      have hX1 := hX.out.later hb1 (lt_of_block hX.out)
      have c0 := hX1.cell 0 _ rfl
      have c1 := hX1.cell 1 _ rfl
      go_wp2_with fail
      refine (cS _).mono ?_
      rintro e w2 ⟨rfl, hb2⟩
      have B3 := below_from B2 hb2
      have hX2 := hX1.later hb2 (lt_of_block hX1)
      have c0 := hX2.cell 0 _ rfl
      have c1 := hX2.cell 1 _ rfl
      go_wp2_with fail
      refine (cO _).mono ?_
      rintro e w3 ⟨vs, rfl, hs3, -, hb3⟩
      obtain ⟨as0, ns0, cs0, rfl⟩ := isSet_val hs3
      have B4 := below_from B3 hb3
      have hX3 := hX2.later hb3 (lt_of_block hX2)
      have al := (Below.refl _ w3).alloc (Nat.le_refl _) (.cells #[.int .i64 hd, .slice as0 ns0 cs0] 28)
      have hX4 := hX3.alloc_old (.cells #[.int .i64 hd, .slice as0 ns0 cs0] 28)
      have c0 := hX4.cell 0 _ rfl
      have c1 := hX4.cell 1 _ rfl
      have B5 := below_from B4 al
      have IS := Lib.hid (hs3.later al)
      have hXl := Lib.hid (lt_of_block hX4)
      clear hX1 hX2 hX3 hs3 hX4 cO cS hX
      go_wp2
      all_goals
        go_quiet (fail)
        go_wp2_with (first
          | (go_at_call 12; refine (cH _ _ (by first | exact IS.out | exact IS.out.later (below_drewN (Below.refl _ _) _))).mono ?_; rintro e w5 ⟨rfl, hb5⟩; have d0 := hb5.cell (p := ⟨w.heap.size, 0, none⟩) (by exact hXl.out); have d1 := hb5.cell (p := ⟨w.heap.size, 1, none⟩) (by exact hXl.out)))
        go_ret
        exact ⟨rfl, below_from (below_from B5 (below_drewN (Below.refl _ _) _)) hb5⟩
  · by_cases hy0 : 0 < y
    all_goals
      go_enter Tryd.func3, Tryd.ntmps3
      go_wp2_with fail
      refine (speaks5_any _).mono ?_
      rintro e w1 ⟨rfl, hb1⟩
      have B2 := below_from B1 hb1
      have hX1 := hX.out.later hb1 (lt_of_block hX.out)
      have c0 := hX1.cell 0 _ rfl
      have c1 := hX1.cell 1 _ rfl
      go_wp2_with fail
      refine (cS _).mono ?_
      rintro e w2 ⟨rfl, hb2⟩
      have B3 := below_from B2 hb2
      have hX2 := hX1.later hb2 (lt_of_block hX1)
      have c0 := hX2.cell 0 _ rfl
      have c1 := hX2.cell 1 _ rfl
      go_wp2_with fail
      refine (cO _).mono ?_
      rintro e w3 ⟨vs, rfl, hs3, -, hb3⟩
      obtain ⟨as0, ns0, cs0, rfl⟩ := isSet_val hs3
      have B4 := below_from B3 hb3
      have hX3 := hX2.later hb3 (lt_of_block hX2)
      have al := (Below.refl _ w3).alloc (Nat.le_refl _) (.cells #[.int .i64 hd, .slice as0 ns0 cs0] 28)
      have hX4 := hX3.alloc_old (.cells #[.int .i64 hd, .slice as0 ns0 cs0] 28)
      have c0 := hX4.cell 0 _ rfl
      have c1 := hX4.cell 1 _ rfl
      have B5 := below_from B4 al
      have IS := Lib.hid (hs3.later al)
      have hXl := Lib.hid (lt_of_block hX4)
      clear hX1 hX2 hX3 hs3 hX4 cO cS hX
      go_wp2
      all_goals
        go_quiet (fail)
        go_wp2_with (first
          | (go_at_call 12; refine (cH _ _ (by first | exact IS.out | exact IS.out.later (below_drewN (Below.refl _ _) _))).mono ?_; rintro e w5 ⟨rfl, hb5⟩; have d0 := hb5.cell (p := ⟨w.heap.size, 0, none⟩) (by exact hXl.out); have d1 := hb5.cell (p := ⟨w.heap.size, 1, none⟩) (by exact hXl.out)))
        go_ret
        exact ⟨rfl, below_from (below_from B5 (below_drewN (Below.refl _ _) _)) hb5⟩
  · have hx0' : ¬ 0 < x := by omega
    by_cases hy0 : 0 < y
    all_goals
      go_enter Tryd.func3, Tryd.ntmps3
      go_wp2_with fail
      refine (speaks5_any _).mono ?_
      rintro e w1 ⟨rfl, hb1⟩
      have B2 := below_from B1 hb1
      have hX1 := hX.out.later hb1 (lt_of_block hX.out)
      have c0 := hX1.cell 0 _ rfl
      have c1 := hX1.cell 1 _ rfl
      go_wp2_with fail
      refine (cS _).mono ?_
      rintro e w2 ⟨rfl, hb2⟩
      have B3 := below_from B2 hb2
      have hX2 := hX1.later hb2 (lt_of_block hX1)
      have c0 := hX2.cell 0 _ rfl
      have c1 := hX2.cell 1 _ rfl
      go_wp2_with fail
      refine (cO _).mono ?_
      rintro e w3 ⟨vs, rfl, hs3, -, hb3⟩
      obtain ⟨as0, ns0, cs0, rfl⟩ := isSet_val hs3
      have B4 := below_from B3 hb3
      have hX3 := hX2.later hb3 (lt_of_block hX2)
      have al := (Below.refl _ w3).alloc (Nat.le_refl _) (.cells #[.int .i64 hd, .slice as0 ns0 cs0] 28)
      have hX4 := hX3.alloc_old (.cells #[.int .i64 hd, .slice as0 ns0 cs0] 28)
      have c0 := hX4.cell 0 _ rfl
      have c1 := hX4.cell 1 _ rfl
      have B5 := below_from B4 al
      have IS := Lib.hid (hs3.later al)
      have hXl := Lib.hid (lt_of_block hX4)
      clear hX1 hX2 hX3 hs3 hX4 cO cS hX
      all_goals
        go_wp2_with (first
          | (go_at_call 12; refine (cH _ _ (by first | exact IS.out | exact IS.out.later (below_drewN (Below.refl _ _) _))).mono ?_; rintro e w5 ⟨rfl, hb5⟩; have d0 := hb5.cell (p := ⟨w.heap.size, 0, none⟩) (by exact hXl.out); have d1 := hb5.cell (p := ⟨w.heap.size, 1, none⟩) (by exact hXl.out)))
        all_goals
          go_ret
          exact ⟨rfl, below_from B5 hb5⟩

set_option maxRecDepth 100000 in
set_option maxHeartbeats 4000000 in
theorem lawOver_pos (x y : Int) (m : Nat) (w : World) (hn : 1 ≤ m ∧ m ≤ 1099511627776) (hs : smallB x y 1099511627776 = true) (hsz : headF x y + roundF x ≤ 4096) :
    Calls Tryd.prog 3 #[.agg #[.int .i64 x, .int .i64 y], .int .i64 m] w (ToldB (.bool true) w) := by
  have B1 : Below w.heap.size w (w.alloc (.cells #[.int .i64 x, .int .i64 y] 23)) := ((Below.refl _ w).alloc (Nat.le_refl _) _)
  have hX := Lib.hid (Blk.alloc (w := w) [.int .i64 x, .int .i64 y] 23)
  have cS := fun w => small_any x y 1099511627776 w (by omega)
  obtain ⟨n1, n2⟩ := hn
  rw [hs] at cS
  obtain ⟨⟨x1, x2⟩, y1, y2⟩ := smallB_yes hs
  have cO := fun w => of_any x y w ⟨x1, x2⟩ ⟨y1, y2⟩ hsz
  have cH := fun W v (h : IsSet W v (hasN x y) (headF x y) (roundF x)) => hasS_any W v _ _ _ h m ⟨n1, by omega⟩
  have cR := fun w => rhas_any x y (m : Nat) w ⟨x1, x2⟩ ⟨y1, y2⟩ ⟨by omega, by omega⟩
  have e1 : hasF x y (m : Nat) = hasN x y m := rfl
  rw [e1] at cR
  have m1 : (1 : Int) ≤ (m : Int) := by omega
  clear e1
  have hc : (0 < x ∧ (1 < y ∨ (y ≤ 1 ∧ x ≤ 4096))) ∨ (x ≤ 0 ∧ y < 4096) := by
    unfold headF roundF at hsz
    by_cases h : 0 < x
    · rw [if_pos h, if_pos h] at hsz; exact .inl ⟨h, by omega⟩
    · rw [if_neg h, if_neg h] at hsz; exact .inr ⟨by omega, by omega⟩
  clear hs hsz
  generalize hasN x y = S at *
  generalize headF x y = hd at *
  generalize roundF x = p at *
  generalize S m = r at *
  have nr : (r == r) = true := beq_self_eq_true _
  rcases hc with ⟨hx0, hc | ⟨hc, hc2⟩⟩ | ⟨hx0, hc⟩
  · have hx0' : ¬ x ≤ 0 := by omega
    have hy0 : 0 < y := by omega
    by_cases hq : y - 1 + x ≤ 4096
    all_goals
      go_enter Tryd.func3, Tryd.ntmps3
      go_wp2_with fail
      refine (speaks5_any _).mono ?_
      rintro e w1 ⟨rfl, hb1⟩
      have B2 := below_from B1 hb1
      have hX1 := hX.out.later hb1 (lt_of_block hX.out)
      have c0 := hX1.cell 0 _ rfl
      have c1 := hX1.cell 1 _ rfl
      go_wp2_with fail
      refine (cS _).mono ?_
      rintro e w2 ⟨rfl, hb2⟩
      have B3 := below_from B2 hb2
      have hX2 := hX1.later hb2 (lt_of_block hX1)
      have c0 := hX2.cell 0 _ rfl
      have c1 := hX2.cell 1 _ rfl
      go_wp2_with fail
      refine (cO _).mono ?_
      rintro e w3 ⟨vs, rfl, hs3, -, hb3⟩
      obtain ⟨as0, ns0, cs0, rfl⟩ := isSet_val hs3
      have B4 := below_from B3 hb3
      have hX3 := hX2.later hb3 (lt_of_block hX2)
      have al := (Below.refl _ w3).alloc (Nat.le_refl _) (.cells #[.int .i64 hd, .slice as0 ns0 cs0] 28)
      have hX4 := hX3.alloc_old (.cells #[.int .i64 hd, .slice as0 ns0 cs0] 28)
      have c0 := hX4.cell 0 _ rfl
      have c1 := hX4.cell 1 _ rfl
      have B5 := below_from B4 al
      have IS := Lib.hid (hs3.later al)
      have hXl := Lib.hid (lt_of_block hX4)
      clear hX1 hX2 hX3 hs3 hX4 cO cS hX
      go_wp2
      all_goals
        go_quiet (fail)
        go_wp2_with (first
          | (go_at_call 12; refine (cH _ _ (by first | exact IS.out | exact IS.out.later (below_drewN (Below.refl _ _) _))).mono ?_; rintro e w5 ⟨rfl, hb5⟩; have d0 := hb5.cell (p := ⟨w.heap.size, 0, none⟩) (by exact hXl.out); have d1 := hb5.cell (p := ⟨w.heap.size, 1, none⟩) (by exact hXl.out))
          | (go_at_call 13; refine (cR _).mono ?_; rintro e w6 ⟨rfl, hw6⟩; replace hw6 := hw6.symm; subst hw6))
        go_ret
        exact ⟨rfl, below_from (below_from B5 (below_drewN (Below.refl _ _) _)) hb5⟩
  · by_cases hy0 : 0 < y
    all_goals
      go_enter Tryd.func3, Tryd.ntmps3
      go_wp2_with fail
      refine (speaks5_any _).mono ?_
      rintro e w1 ⟨rfl, hb1⟩
      have B2 := below_from B1 hb1
      have hX1 := hX.out.later hb1 (lt_of_block hX.out)
      have c0 := hX1.cell 0 _ rfl
      have c1 := hX1.cell 1 _ rfl
      go_wp2_with fail
      refine (cS _).mono ?_
      rintro e w2 ⟨rfl, hb2⟩
      have B3 := below_from B2 hb2
      have hX2 := hX1.later hb2 (lt_of_block hX1)
      have c0 := hX2.cell 0 _ rfl
      have c1 := hX2.cell 1 _ rfl
      go_wp2_with fail
      refine (cO _).mono ?_
      rintro e w3 ⟨vs, rfl, hs3, -, hb3⟩
      obtain ⟨as0, ns0, cs0, rfl⟩ := isSet_val hs3
      have B4 := below_from B3 hb3
      have hX3 := hX2.later hb3 (lt_of_block hX2)
      have al := (Below.refl _ w3).alloc (Nat.le_refl _) (.cells #[.int .i64 hd, .slice as0 ns0 cs0] 28)
      have hX4 := hX3.alloc_old (.cells #[.int .i64 hd, .slice as0 ns0 cs0] 28)
      have c0 := hX4.cell 0 _ rfl
      have c1 := hX4.cell 1 _ rfl
      have B5 := below_from B4 al
      have IS := Lib.hid (hs3.later al)
      have hXl := Lib.hid (lt_of_block hX4)
      clear hX1 hX2 hX3 hs3 hX4 cO cS hX
      go_wp2
      all_goals
        go_quiet (fail)
        go_wp2_with (first
          | (go_at_call 12; refine (cH _ _ (by first | exact IS.out | exact IS.out.later (below_drewN (Below.refl _ _) _))).mono ?_; rintro e w5 ⟨rfl, hb5⟩; have d0 := hb5.cell (p := ⟨w.heap.size, 0, none⟩) (by exact hXl.out); have d1 := hb5.cell (p := ⟨w.heap.size, 1, none⟩) (by exact hXl.out))
          | (go_at_call 13; refine (cR _).mono ?_; rintro e w6 ⟨rfl, hw6⟩; replace hw6 := hw6.symm; subst hw6))
        go_ret
        exact ⟨rfl, below_from (below_from B5 (below_drewN (Below.refl _ _) _)) hb5⟩
  · have hx0' : ¬ 0 < x := by omega
    by_cases hy0 : 0 < y
    all_goals
      go_enter Tryd.func3, Tryd.ntmps3
      go_wp2_with fail
      refine (speaks5_any _).mono ?_
      rintro e w1 ⟨rfl, hb1⟩
      have B2 := below_from B1 hb1
      have hX1 := hX.out.later hb1 (lt_of_block hX.out)
      have c0 := hX1.cell 0 _ rfl
      have c1 := hX1.cell 1 _ rfl
      go_wp2_with fail
      refine (cS _).mono ?_
      rintro e w2 ⟨rfl, hb2⟩
      have B3 := below_from B2 hb2
      have hX2 := hX1.later hb2 (lt_of_block hX1)
      have c0 := hX2.cell 0 _ rfl
      have c1 := hX2.cell 1 _ rfl
      go_wp2_with fail
      refine (cO _).mono ?_
      rintro e w3 ⟨vs, rfl, hs3, -, hb3⟩
      obtain ⟨as0, ns0, cs0, rfl⟩ := isSet_val hs3
      have B4 := below_from B3 hb3
      have hX3 := hX2.later hb3 (lt_of_block hX2)
      have al := (Below.refl _ w3).alloc (Nat.le_refl _) (.cells #[.int .i64 hd, .slice as0 ns0 cs0] 28)
      have hX4 := hX3.alloc_old (.cells #[.int .i64 hd, .slice as0 ns0 cs0] 28)
      have c0 := hX4.cell 0 _ rfl
      have c1 := hX4.cell 1 _ rfl
      have B5 := below_from B4 al
      have IS := Lib.hid (hs3.later al)
      have hXl := Lib.hid (lt_of_block hX4)
      clear hX1 hX2 hX3 hs3 hX4 cO cS hX
      all_goals
        go_wp2_with (first
          | (go_at_call 12; refine (cH _ _ (by first | exact IS.out | exact IS.out.later (below_drewN (Below.refl _ _) _))).mono ?_; rintro e w5 ⟨rfl, hb5⟩; have d0 := hb5.cell (p := ⟨w.heap.size, 0, none⟩) (by exact hXl.out); have d1 := hb5.cell (p := ⟨w.heap.size, 1, none⟩) (by exact hXl.out))
          | (go_at_call 13; refine (cR _).mono ?_; rintro e w6 ⟨rfl, hw6⟩; replace hw6 := hw6.symm; subst hw6))
        all_goals
          go_ret
          exact ⟨rfl, below_from B5 hb5⟩

theorem lawOver_any (x y n : Int) (w : World) (hg : HasET w) (hn : -9223372036854775808 ≤ n ∧ n ≤ 9223372036854775807) :
    Calls Tryd.prog 3 #[.agg #[.int .i64 x, .int .i64 y], .int .i64 n] w (ToldB (.bool true) w) := by
  cases hs : smallB x y 1099511627776
  · exact lawOver_early x y n w hn (.inl hs)
  · by_cases h1 : 1099511627776 < n
    · exact lawOver_early x y n w hn (.inr h1)
    · by_cases hf : headF x y + roundF x ≤ 4096
      · by_cases h2 : n ≤ 0
        · exact lawOver_low x y n w ⟨hn.1, h2⟩ hs hf
        · obtain ⟨m, rfl⟩ : ∃ m : Nat, n = m := ⟨n.toNat, by omega⟩
          exact lawOver_pos x y m w ⟨by omega, by omega⟩ hs hf
      · exact lawOver_not x y n w hg ⟨hn.1, by omega⟩ hs hf
end Go.Proofs.YtcfcoojnjdoeeaaDoor
