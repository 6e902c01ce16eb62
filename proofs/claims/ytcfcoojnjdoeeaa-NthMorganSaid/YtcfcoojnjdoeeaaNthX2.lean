/- What of a ring meets another one: walks. -/
import Derived.Test.YtcfcoojnjdoeeaaNthX
import Derived.RegionTactic
import Derived.BigRegion
namespace Go.Proofs.Ytcfcoojnjdoeeaa
open Go.RowKit

theorem metB_succ (b : Nat → Bool) (k g r : Nat) : metB b (k + 1) g r = (metB b k g r || (k % g == r && b k)) := by
  unfold metB
  rw [List.range_succ, List.any_append]
  simp
theorem metB_zero (b : Nat → Bool) (g r : Nat) : metB b 0 g r = false := rfl

set_option maxRecDepth 100000 in
set_option maxHeartbeats 4000000 in
theorem meeting_any (b1 o1 P c1 b2 o2 Q c2 g : Nat) (a b : Nat → Bool) (w : World) (hP : P ≤ 4096) (hQ : Q ≤ 4096) (hg : 1 ≤ g ∧ g ≤ 4096) (hr1 : RdB w (some ⟨b1, o1, none⟩) P c1 a) (hr2 : RdB w (some ⟨b2, o2, none⟩) Q c2 b) :
    Calls Try.prog 45 #[.slice (some ⟨b1, o1, none⟩) P c1, .slice (some ⟨b2, o2, none⟩) Q c2, .int .i64 g] w (fun e w' => ∃ x, e = .returned (.slice (some ⟨x, 0, none⟩) P P) ∧ RdB w' (some ⟨x, 0, none⟩) P P (meet a b Q g) ∧ Below w.heap.size w w') := by
  obtain ⟨g1, g2⟩ := hg
  have HR1 := Lib.hid hr1
  have HR2 := Lib.hid hr2
  clear hr1 hr2
  have mk1 := run_make_row' (P := Try.prog) 26 4 (.bool false) 1 Try.underlying26 TryinfoBool rfl .i64 .i64 g (by omega) (by omega)
  have mk2 := run_make_row' (P := Try.prog) 26 4 (.bool false) 1 Try.underlying26 TryinfoBool rfl .i64 .i64 P (by omega) (by omega)
  have R0 := (World.rowIs_made w (.bool false) g 4).congr (g := fun r => .bool (metB b 0 g r)) (fun i _ => by rw [metB_zero])
  go_enter Try.func45, Try.ntmps45
  go_wp2
  go_loopw [8, 9, 17] (fun _ _ i wr => ∃ k : Nat, k ≤ Q ∧ i = .int .i64 k ∧ wr.rowIs w.heap.size 4 g (fun r => .bool (metB b k g r)) ∧ Below w.heap.size w wr) (fun _ _ i _ => Q - (intOf i).toNat)
  case atStart => exact ⟨0, by omega, rfl, R0, (Below.refl _ w).alloc (Nat.le_refl _) _⟩
  case round =>
    obtain ⟨k, hk, rfl, hrow, hbl⟩ := hrel
    clear R0
    have ng : ((g : Int) == 0) = false := beq_eq_false_iff_ne.2 (by omega)
    by_cases hlt : k < Q
    · obtain ⟨bb, oo, hA, hc⟩ := rdB_at (HR2.out.later hbl) k hlt
      obtain ⟨rfl, rfl⟩ : b2 = bb ∧ o2 = oo := by injection hA with e; injection e with e1 e2; exact ⟨e1, e2⟩
      clear hA
      have hmg := Nat.mod_lt k g1
      have hmm : (k : Int) % (g : Int) = ((k % g : Nat) : Int) := by simp
      have hrc := hrow.cell hmg
      have hrf := hrow.frozen (k % g)
      have hset := hrow.set (k % g) (.bool (metB b (k + 1) g (k % g)))
      have HSET := Lib.hid (hset.congr (g := fun r => .bool (metB b (k + 1) g r)) (fun i hi => by
        by_cases e : i = k % g
        · rw [if_pos e, e]
        · rw [if_neg e, metB_succ, beq_eq_false_iff_ne.2 (fun h => e h.symm)]; simp))
      have hms := metB_succ b k g (k % g)
      rw [beq_self_eq_true, Bool.true_and] at hms
      rw [hms] at HSET
      have HB := Lib.hid (hbl.setCell (p := ⟨w.heap.size, k % g, none⟩) (Nat.le_refl _) (.bool (metB b k g (k % g) || b k)))
      have HROW := Lib.hid hrow
      clear hset hms hrow
      have hkI : (0 : Int) ≤ (k : Int) := by omega
      have hkI2 : (k : Int) < (Q : Int) := by omega
      have hb1 : (0 : Int) ≤ ((k % g : Nat) : Int) := by omega
      have hb2 : ((k % g : Nat) : Int) < (g : Int) := by omega
      have hww : wrap64 ((k : Int) % (g : Int)) = ((k % g : Nat) : Int) := by rw [hmm]; unfold wrap64; omega
      generalize metB b k g (k % g) = r at *
      generalize b k = s at *
      generalize hkg : k % g = kg at *
      clear hkg
      cases r
      all_goals
        go_wp2_with fail
        go_region
        go_wp2
        go_roundw
        case rel => exact ⟨k + 1, by omega, by go_num, by first | exact HSET.out | (have h := HSET.out; simpa using h), by first | exact HB.out.drew | exact HB.out | (have h := HB.out.drew; simpa using h)⟩
        case measure => simp [intOf]; omega
    · obtain rfl : k = Q := by omega
      obtain ⟨w1, rfl⟩ : ∃ x, x = wr := ⟨_, rfl⟩
      have R0 := (World.rowIs_made w1 (.bool false) P 4).congr (g := fun i => .bool (if i < 0 then meet a b k g i else false)) (fun i _ => by rw [if_neg (by omega)])
      have HM := Lib.hid (hrow.alloc (.cells (madeCells #[.bool false] P) 4))
      have hml := hrow.lt
      have HB0 := Lib.hid (hbl.alloc hbl.size (.cells (madeCells #[.bool false] P) 4))
      clear hrow
      go_wp2
      go_loopw [11, 12, 42] (fun _ _ i wx => ∃ j : Nat, j ≤ P ∧ i = .int .i64 j ∧ wx.rowIs w.heap.size 4 g (fun r => .bool (metB b k g r)) ∧ wx.rowIs w1.heap.size 4 P (fun i => .bool (if i < j then meet a b k g i else false)) ∧ Below w.heap.size w wx) (fun _ _ i _ => P - (intOf i).toNat)
      case atStart => exact ⟨0, by omega, rfl, HM.out, R0, HB0.out⟩
      case round =>
        obtain ⟨j, hj, rfl, hmet, hrow, hbx⟩ := hrel
        clear R0 HM HB0
        by_cases hlt : j < P
        · obtain ⟨bb, oo, hA, hc⟩ := rdB_at (HR1.out.later hbx) j hlt
          obtain ⟨rfl, rfl⟩ : b1 = bb ∧ o1 = oo := by injection hA with e; injection e with e1 e2; exact ⟨e1, e2⟩
          clear hA
          have hmg := Nat.mod_lt j g1
          have hmm : (j : Int) % (g : Int) = ((j % g : Nat) : Int) := by simp
          have hmc := hmet.cell hmg
          have hrf := hrow.frozen j
          have hrc := hrow.cell hlt
          have hme : meet a b k g j = (a j && metB b k g (j % g)) := rfl
          have hset := hrow.set j (.bool (meet a b k g j))
          have HSET := Lib.hid (hset.congr (g := fun i => .bool (if i < j + 1 then meet a b k g i else false)) (fun i hi => by
            by_cases e : i = j
            · subst e; rw [if_pos rfl, if_pos (by omega)]
            · rw [if_neg e]
              by_cases c : i < j
              · rw [if_pos c, if_pos (by omega)]
              · rw [if_neg c, if_neg (by omega)]))
          have HMET := Lib.hid (hmet.setOther (a := ⟨w1.heap.size, j, none⟩) (Nat.ne_of_lt hml) (.bool (meet a b k g j)))
          have HB := Lib.hid (hbx.setCell (p := ⟨w1.heap.size, j, none⟩) (Nat.le_of_lt hml) (.bool (meet a b k g j)))
          rw [hme] at HMET HB
          have hset2 := HSET.out
          rw [hme] at hset2
          have HSET2 := Lib.hid hset2
          have hkI : (0 : Int) ≤ (j : Int) := by omega
          have hkI2 : (j : Int) < (P : Int) := by omega
          have hb1 : (0 : Int) ≤ ((j % g : Nat) : Int) := by omega
          have hb2 : ((j % g : Nat) : Int) < (g : Int) := by omega
          clear hset hset2 HSET hme hmet hrow
          generalize metB b k g (j % g) = r at *
          generalize a j = s at *
          generalize hkg : j % g = kg at *
          clear hkg
          cases s
          · go_wp2
            go_roundw
            case rel => exact ⟨j + 1, by omega, by go_num, by first | exact HMET.out | (have h := HMET.out; simpa using h), by first | exact HSET2.out | (have h := HSET2.out; simpa using h), by first | exact HB.out | (have h := HB.out; simpa using h)⟩
            case measure => simp [intOf]; omega
          · go_wp2
            go_roundw
            case rel => exact ⟨j + 1, by omega, by go_num, by first | exact HMET.out | (have h := HMET.out; simpa using h), by first | exact HSET2.out | (have h := HSET2.out; simpa using h), by first | exact HB.out | (have h := HB.out; simpa using h)⟩
            case measure => simp [intOf]; omega
        · obtain rfl : j = P := by omega
          have HF := Lib.hid (RdB.of_row (hrow.congr (g := fun i => .bool (meet a b k g i)) (fun i hi => by rw [if_pos hi])) (by unfold maxLen; omega))
          clear hrow hmet
          go_wp2
          go_ret
          exact ⟨_, rfl, HF.out, hbx⟩
end Go.Proofs.Ytcfcoojnjdoeeaa
