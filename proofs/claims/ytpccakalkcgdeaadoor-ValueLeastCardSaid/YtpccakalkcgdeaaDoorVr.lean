/- Whether a condition holds of a value, by the document: the walk. -/
import Derived.Test.YtpccakalkcgdeaaDoorVp
namespace Go.Proofs.YtpccakalkcgdeaaDoor
open Go.RowKit
set_option linter.unusedVariables false
set_option linter.unusedSimpArgs false


set_option maxRecDepth 100000 in
set_option maxHeartbeats 4000000 in
theorem rholds_word_no (fold : Bool) (t v T V : ByteArray) (w : World) (eT : nS fold t = T) (eV : nS fold v = V) (ht : t.size ≤ 1000000) (hv : v.size ≤ 1000000) (hT : T.size ≤ 1000000) (hV : V.size ≤ 1000000) (h0 : strB T ≠ []) (hbk : (strB T).any blankB = true) :
    Calls Tryd.prog 22 #[.agg #[.int .i64 3, .string t, .bool fold], .string v] w (Told (.bool false) w) := by
  have hA := Blk.alloc (w := w) [.int .i64 3, .string t, .bool fold] 34
  have B1 : Below w.heap.size w (w.alloc (.cells #[.int .i64 3, .string t, .bool fold] 34)) := (Below.refl _ w).alloc (Nat.le_refl _) _
  obtain ⟨a0, a1, a2⟩ := cellsC hA
  have hlt := hA.lt
  have HA := Lib.hid hA
  clear hA
  cases fold
  · obtain rfl : T = t := eT.symm
    obtain rfl : V = v := eV.symm
    have hbx := B1
    have HAx := HA
    have hn := ne_empty h0
    go_enter Tryd.func22, Tryd.ntmps22
    go_wp2_with fail
    refine (rblank_any T _ (by omega)).mono ?_
    rintro e w4 ⟨rfl, hb4⟩
    rw [hbk]
    have HA4 := Lib.hid (HAx.out.later hb4 HAx.out.lt)
    have hb4' := below_trans hbx hb4
    clear a0 a1 a2
    obtain ⟨a0, a1, a2⟩ := cellsC HA4.out
    clear HAx
    go_wp2
    go_ret
    exact ⟨rfl, hb4'⟩
  · have c1 := fun w => rlower_any t w (by omega)
    have c2 := fun w => rlower_any v w (by omega)
    rw [show lowS t = T from eT] at c1
    rw [show lowS v = V from eV] at c2
    clear eT eV
    go_enter Tryd.func22, Tryd.ntmps22
    go_wp2_with fail
    refine (c1 _).mono ?_
    rintro e w2 ⟨rfl, hb2⟩
    go_wp2_with fail
    refine (c2 _).mono ?_
    rintro e w3 ⟨rfl, hb3⟩
    have hb23 := below_trans hb2 hb3
    have HAx := Lib.hid (HA.out.later hb23 hlt)
    have hbx := below_trans B1 hb23
    clear a0 a1 a2 c1 c2 HA
    obtain ⟨a0, a1, a2⟩ := cellsC HAx.out
    have hn := ne_empty h0
    go_wp2_with fail
    refine (rblank_any T _ (by omega)).mono ?_
    rintro e w4 ⟨rfl, hb4⟩
    rw [hbk]
    have HA4 := Lib.hid (HAx.out.later hb4 HAx.out.lt)
    have hb4' := below_trans hbx hb4
    clear a0 a1 a2
    obtain ⟨a0, a1, a2⟩ := cellsC HA4.out
    clear HAx
    go_wp2
    go_ret
    exact ⟨rfl, hb4'⟩

set_option maxRecDepth 100000 in
set_option maxHeartbeats 4000000 in
theorem rholds_word (fold : Bool) (t v T V : ByteArray) (w : World) (eT : nS fold t = T) (eV : nS fold v = V) (ht : t.size ≤ 1000000) (hv : v.size ≤ 1000000) (hT : T.size ≤ 1000000) (hV : V.size ≤ 1000000) (h0 : strB T ≠ []) (hbk : (strB T).any blankB = false) :
    Calls Tryd.prog 22 #[.agg #[.int .i64 3, .string t, .bool fold], .string v] w (Told (.bool (decide (strB T ∈ words (strB V)))) w) := by
  have hA := Blk.alloc (w := w) [.int .i64 3, .string t, .bool fold] 34
  have B1 : Below w.heap.size w (w.alloc (.cells #[.int .i64 3, .string t, .bool fold] 34)) := (Below.refl _ w).alloc (Nat.le_refl _) _
  obtain ⟨a0, a1, a2⟩ := cellsC hA
  have hlt := hA.lt
  have HA := Lib.hid hA
  clear hA
  cases fold
  · obtain rfl : T = t := eT.symm
    obtain rfl : V = v := eV.symm
    have hbx := B1
    have HAx := HA
    have hn := ne_empty h0
    go_enter Tryd.func22, Tryd.ntmps22
    go_wp2_with fail
    refine (rblank_any T _ (by omega)).mono ?_
    rintro e w4 ⟨rfl, hb4⟩
    rw [hbk]
    have HA4 := Lib.hid (HAx.out.later hb4 HAx.out.lt)
    have hb4' := below_trans hbx hb4
    clear a0 a1 a2
    obtain ⟨a0, a1, a2⟩ := cellsC HA4.out
    clear HAx
    go_wp2_with fail
    refine (rnames_any V _ (by omega)).mono ?_
    rintro e w5 ⟨av, ss, rfl, hown, hwords, hlen, hb5⟩
    have HA5 := Lib.hid (HA4.out.later hb5 HA4.out.lt)
    have hb5' := below_trans hb4' hb5
    clear a0 a1 a2
    obtain ⟨a0, a1, a2⟩ := cellsC HA5.out
    obtain ⟨n, hn⟩ : ∃ n, ss.length = n := ⟨_, rfl⟩
    rw [hn] at hown hlen
    have hres : decide (strB T ∈ words (strB V)) = amongK ss T n := by rw [← hn, amongK_all, hwords]
    have HRES := Lib.hid hres
    have hcell := cellsOf_own hn hown
    obtain ⟨aa, ca, rfl⟩ := own_slice hown
    have HCELL := Lib.hid hcell
    have HN := Lib.hid hn
    clear hown hwords hcell hres hn HA4 hb5 hb4 hb4'
    go_wp2_with fail
    go_loopw [7, 9] (fun th i wr => ∃ k : Nat, k ≤ n ∧ i = .int .i64 k ∧ th = .bool (amongK ss T k) ∧ Hid (CellsOf ss (.slice aa n ca) n wr) ∧ Hid (Blk wr w.heap.size [.int .i64 3, .string T, .bool false] 34) ∧ Below w.heap.size w wr) (fun _ i _ => n - (intOf i).toNat)
    case atStart => exact ⟨0, by omega, rfl, rfl, HCELL, HA5, hb5'⟩
    case round =>
      obtain ⟨k, hk, rfl, rfl, hcl, hAr, hbr⟩ := hrel
      clear HCELL HA5 a0 a1 a2
      obtain ⟨a0, a1, a2⟩ := cellsC hAr.out
      by_cases hlk : k < n
      · have hlk' : (k : Int) < (n : Int) := by omega
        obtain ⟨x, hx⟩ : ∃ x, ss[k]? = some x := ⟨_, List.getElem?_eq_getElem (by rw [HN.out]; exact hlk)⟩
        have HS := Lib.hid (amongK_succ ss T x k hx)
        obtain ⟨g, cap, hav, hnc, hc⟩ := hcl.out k x hx
        have hkc : (n : Int) ≤ (cap : Int) := by omega
        injection hav with e1 e2 e3
        subst e1; subst e3
        clear hx
        cases hth : amongK ss T k
        · cases hq : (x.toList == T.toList)
          all_goals
            rw [hth, hq] at HS
            clear hth
            go_wp2
            go_roundw
            case rel => exact ⟨k + 1, by omega, by go_num, by rw [HS.out]; rfl, hcl, hAr, hbr⟩
            case measure => simp [intOf]; omega
        · rw [hth] at HS
          clear hth
          go_wp2
          go_roundw
          case rel => exact ⟨k + 1, by omega, by go_num, by rw [HS.out]; rfl, hcl, hAr, hbr⟩
          case measure => simp [intOf]; omega
      · obtain rfl : k = n := by omega
        clear HN hcl
        go_wp2
        go_ret
        exact ⟨by rw [HRES.out]; rfl, hbr⟩
  · have c1 := fun w => rlower_any t w (by omega)
    have c2 := fun w => rlower_any v w (by omega)
    rw [show lowS t = T from eT] at c1
    rw [show lowS v = V from eV] at c2
    clear eT eV
    go_enter Tryd.func22, Tryd.ntmps22
    go_wp2_with fail
    refine (c1 _).mono ?_
    rintro e w2 ⟨rfl, hb2⟩
    go_wp2_with fail
    refine (c2 _).mono ?_
    rintro e w3 ⟨rfl, hb3⟩
    have hb23 := below_trans hb2 hb3
    have HAx := Lib.hid (HA.out.later hb23 hlt)
    have hbx := below_trans B1 hb23
    clear a0 a1 a2 c1 c2 HA
    obtain ⟨a0, a1, a2⟩ := cellsC HAx.out
    have hn := ne_empty h0
    go_wp2_with fail
    refine (rblank_any T _ (by omega)).mono ?_
    rintro e w4 ⟨rfl, hb4⟩
    rw [hbk]
    have HA4 := Lib.hid (HAx.out.later hb4 HAx.out.lt)
    have hb4' := below_trans hbx hb4
    clear a0 a1 a2
    obtain ⟨a0, a1, a2⟩ := cellsC HA4.out
    clear HAx
    go_wp2_with fail
    refine (rnames_any V _ (by omega)).mono ?_
    rintro e w5 ⟨av, ss, rfl, hown, hwords, hlen, hb5⟩
    have HA5 := Lib.hid (HA4.out.later hb5 HA4.out.lt)
    have hb5' := below_trans hb4' hb5
    clear a0 a1 a2
    obtain ⟨a0, a1, a2⟩ := cellsC HA5.out
    obtain ⟨n, hn⟩ : ∃ n, ss.length = n := ⟨_, rfl⟩
    rw [hn] at hown hlen
    have hres : decide (strB T ∈ words (strB V)) = amongK ss T n := by rw [← hn, amongK_all, hwords]
    have HRES := Lib.hid hres
    have hcell := cellsOf_own hn hown
    obtain ⟨aa, ca, rfl⟩ := own_slice hown
    have HCELL := Lib.hid hcell
    have HN := Lib.hid hn
    clear hown hwords hcell hres hn HA4 hb5 hb4 hb4'
    go_wp2_with fail
    go_loopw [7, 9] (fun th i wr => ∃ k : Nat, k ≤ n ∧ i = .int .i64 k ∧ th = .bool (amongK ss T k) ∧ Hid (CellsOf ss (.slice aa n ca) n wr) ∧ Hid (Blk wr w.heap.size [.int .i64 3, .string t, .bool true] 34) ∧ Below w.heap.size w wr) (fun _ i _ => n - (intOf i).toNat)
    case atStart => exact ⟨0, by omega, rfl, rfl, HCELL, HA5, hb5'⟩
    case round =>
      obtain ⟨k, hk, rfl, rfl, hcl, hAr, hbr⟩ := hrel
      clear HCELL HA5 a0 a1 a2
      obtain ⟨a0, a1, a2⟩ := cellsC hAr.out
      by_cases hlk : k < n
      · have hlk' : (k : Int) < (n : Int) := by omega
        obtain ⟨x, hx⟩ : ∃ x, ss[k]? = some x := ⟨_, List.getElem?_eq_getElem (by rw [HN.out]; exact hlk)⟩
        have HS := Lib.hid (amongK_succ ss T x k hx)
        obtain ⟨g, cap, hav, hnc, hc⟩ := hcl.out k x hx
        have hkc : (n : Int) ≤ (cap : Int) := by omega
        injection hav with e1 e2 e3
        subst e1; subst e3
        clear hx
        cases hth : amongK ss T k
        · cases hq : (x.toList == T.toList)
          all_goals
            rw [hth, hq] at HS
            clear hth
            go_wp2
            go_roundw
            case rel => exact ⟨k + 1, by omega, by go_num, by rw [HS.out]; rfl, hcl, hAr, hbr⟩
            case measure => simp [intOf]; omega
        · rw [hth] at HS
          clear hth
          go_wp2
          go_roundw
          case rel => exact ⟨k + 1, by omega, by go_num, by rw [HS.out]; rfl, hcl, hAr, hbr⟩
          case measure => simp [intOf]; omega
      · obtain rfl : k = n := by omega
        clear HN hcl
        go_wp2
        go_ret
        exact ⟨by rw [HRES.out]; rfl, hbr⟩

set_option maxRecDepth 100000 in
set_option maxHeartbeats 4000000 in
theorem rholds_part (fold : Bool) (t v T V : ByteArray) (w : World) (eT : nS fold t = T) (eV : nS fold v = V) (ht : t.size ≤ 1000000) (hv : v.size ≤ 1000000) (hT : T.size ≤ 1000000) (hV : V.size ≤ 1000000) (h0 : strB T ≠ []) :
    Calls Tryd.prog 22 #[.agg #[.int .i64 7, .string t, .bool fold], .string v] w (Told (.bool (someAt (strB V) (strB T) V.size)) w) := by
  have hA := Blk.alloc (w := w) [.int .i64 7, .string t, .bool fold] 34
  have B1 : Below w.heap.size w (w.alloc (.cells #[.int .i64 7, .string t, .bool fold] 34)) := (Below.refl _ w).alloc (Nat.le_refl _) _
  obtain ⟨a0, a1, a2⟩ := cellsC hA
  have hlt := hA.lt
  have HA := Lib.hid hA
  clear hA
  cases fold
  · obtain rfl : T = t := eT.symm
    obtain rfl : V = v := eV.symm
    have hbx := B1
    have HAx := HA
    have hn := ne_empty h0
    go_enter Tryd.func22, Tryd.ntmps22
    have HP := Lib.hid (fun (k : Nat) (hk : k ≤ 1000000) (w : World) => rat_any V T k w hV hT hk)
    have hz0 : someAt (strB V) (strB T) 0 = false := rfl
    go_wp2_with fail
    go_loopw [7, 10] (fun th i wr => ∃ k : Nat, k ≤ V.size ∧ i = .int .i64 k ∧ th = .bool (someAt (strB V) (strB T) k) ∧ Below w.heap.size w wr) (fun _ i _ => V.size - (intOf i).toNat)
    case atStart => exact ⟨0, by omega, rfl, rfl, hbx⟩
    case round =>
      obtain ⟨k, hk, rfl, rfl, hbr⟩ := hrel
      by_cases hlk : k < V.size
      · have hlk' : (k : Int) < (V.size : Int) := by omega
        have HS := Lib.hid (someAt_succ (strB V) (strB T) k)
        have hat := HP.out k (by omega)
        cases hth : someAt (strB V) (strB T) k
        · cases hq : atB (strB V) k (strB T)
          all_goals
            rw [hth, hq] at HS
            rw [hq] at hat
            clear hth hq
            go_wp2_with (go_at_call 54; refine (hat _).mono ?_; rintro e w4 ⟨rfl, hw4⟩; replace hw4 := hw4.symm; subst hw4)
            go_roundw
            case rel => exact ⟨k + 1, by omega, by go_num, by rw [HS.out]; rfl, hbr⟩
            case measure => simp [intOf]; omega
        · rw [hth] at HS
          clear hth hat
          go_wp2
          go_roundw
          case rel => exact ⟨k + 1, by omega, by go_num, by rw [HS.out]; rfl, hbr⟩
          case measure => simp [intOf]; omega
      · obtain rfl : k = V.size := by omega
        clear HP hz0
        go_wp2
        go_ret
        exact ⟨rfl, hbr⟩
  · have c1 := fun w => rlower_any t w (by omega)
    have c2 := fun w => rlower_any v w (by omega)
    rw [show lowS t = T from eT] at c1
    rw [show lowS v = V from eV] at c2
    clear eT eV
    go_enter Tryd.func22, Tryd.ntmps22
    go_wp2_with fail
    refine (c1 _).mono ?_
    rintro e w2 ⟨rfl, hb2⟩
    go_wp2_with fail
    refine (c2 _).mono ?_
    rintro e w3 ⟨rfl, hb3⟩
    have hb23 := below_trans hb2 hb3
    have HAx := Lib.hid (HA.out.later hb23 hlt)
    have hbx := below_trans B1 hb23
    clear a0 a1 a2 c1 c2 HA
    obtain ⟨a0, a1, a2⟩ := cellsC HAx.out
    have hn := ne_empty h0
    have HP := Lib.hid (fun (k : Nat) (hk : k ≤ 1000000) (w : World) => rat_any V T k w hV hT hk)
    have hz0 : someAt (strB V) (strB T) 0 = false := rfl
    go_wp2_with fail
    go_loopw [7, 10] (fun th i wr => ∃ k : Nat, k ≤ V.size ∧ i = .int .i64 k ∧ th = .bool (someAt (strB V) (strB T) k) ∧ Below w.heap.size w wr) (fun _ i _ => V.size - (intOf i).toNat)
    case atStart => exact ⟨0, by omega, rfl, rfl, hbx⟩
    case round =>
      obtain ⟨k, hk, rfl, rfl, hbr⟩ := hrel
      by_cases hlk : k < V.size
      · have hlk' : (k : Int) < (V.size : Int) := by omega
        have HS := Lib.hid (someAt_succ (strB V) (strB T) k)
        have hat := HP.out k (by omega)
        cases hth : someAt (strB V) (strB T) k
        · cases hq : atB (strB V) k (strB T)
          all_goals
            rw [hth, hq] at HS
            rw [hq] at hat
            clear hth hq
            go_wp2_with (go_at_call 54; refine (hat _).mono ?_; rintro e w4 ⟨rfl, hw4⟩; replace hw4 := hw4.symm; subst hw4)
            go_roundw
            case rel => exact ⟨k + 1, by omega, by go_num, by rw [HS.out]; rfl, hbr⟩
            case measure => simp [intOf]; omega
        · rw [hth] at HS
          clear hth hat
          go_wp2
          go_roundw
          case rel => exact ⟨k + 1, by omega, by go_num, by rw [HS.out]; rfl, hbr⟩
          case measure => simp [intOf]; omega
      · obtain rfl : k = V.size := by omega
        clear HP hz0
        go_wp2
        go_ret
        exact ⟨rfl, hbr⟩
end Go.Proofs.YtpccakalkcgdeaaDoor
