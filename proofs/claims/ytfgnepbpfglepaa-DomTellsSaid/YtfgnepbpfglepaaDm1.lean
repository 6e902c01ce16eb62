/- Lists of texts, and of attributes, held against one another: walks. -/
import Derived.Test.YtfgnepbpfglepaaDm0
namespace Go.Proofs.Ytfgnepbpfglepaa
open Go.RowKit
set_option linter.unusedVariables false
set_option linter.unusedSimpArgs false
theorem toList_inj {a b : ByteArray} (h : a.toList = b.toList) : a = b := by
  rw [ByteArray.toList_eq, ByteArray.toList_eq] at h
  cases a; cases b
  simp at h
  rw [h]

set_option maxRecDepth 100000 in
set_option maxHeartbeats 2000000 in
theorem eqS_any (xs ys : List ByteArray) (a a' : Option Addr) (n n' c c' : Nat) (ok ok' : Nat → Prop) (w : World) (hx : RdOf ok 1 (StrAt w) a n c xs) (hy : RdOf ok' 1 (StrAt w) a' n' c' ys) :
    Calls Try.prog 58 #[.slice a n c, .slice a' n' c'] w fun e w' => e = .returned (.bool (decide (xs = ys))) ∧ ∃ q, w' = w.drewN q := by
  have hm : n ≤ 9223372036854775807 := by have := hx.2.1; have := hx.2.2.1; unfold maxLen at this; omega
  have hm' : n' ≤ 9223372036854775807 := by have := hy.2.1; have := hy.2.2.1; unfold maxLen at this; omega
  have HN := Lib.hid hx.1
  have HN' := Lib.hid hy.1
  have HX := Lib.hid hx
  have HY := Lib.hid hy
  clear hx hy
  by_cases hl : n = n'
  · subst hl
    have n0 : ((n : Int) != (n : Int)) = false := by simp
    go_enter Try.func58, Try.ntmps58
    go_wp2_with fail
    go_loopw [13] (fun i wr => ∃ k : Nat, k ≤ n ∧ i = .int .i64 k ∧ Hid (xs.take k = ys.take k) ∧ ∃ q, wr = w.drewN q) (fun i _ => n - (intOf i).toNat)
    case atStart => exact ⟨0, Nat.zero_le _, rfl, Lib.hid rfl, 0, rfl⟩
    case round =>
      obtain ⟨k, hk, rfl, hp, q, rfl⟩ := hrel
      by_cases hlt : k < n
      · obtain ⟨x, hx⟩ : ∃ x, xs[k]? = some x := ⟨_, List.getElem?_eq_getElem (by rw [← HN.out]; exact hlt)⟩
        obtain ⟨y, hy⟩ : ∃ y, ys[k]? = some y := ⟨_, List.getElem?_eq_getElem (by rw [← HN'.out]; exact hlt)⟩
        obtain ⟨b, off, rfl, hb, hcx⟩ := HX.out.at k x hx
        obtain ⟨b', off', rfl, hb', hcy⟩ := HY.out.at k y hy
        have cx : w.cell? ⟨b, off + k, none⟩ = some (.string x) := by have := hcx.1; rwa [Nat.mul_one] at this
        have cy : w.cell? ⟨b', off' + k, none⟩ = some (.string y) := by have := hcy.1; rwa [Nat.mul_one] at this
        clear hcx hcy
        have hkI : (0 : Int) ≤ (k : Int) := by omega
        have hkI2 : (k : Int) < (n : Int) := by omega
        have HXK := Lib.hid hx
        have HYK := Lib.hid hy
        clear hx hy
        by_cases hxy : x = y
        · subst hxy
          have hst := Lib.hid (show xs.take (k + 1) = ys.take (k + 1) from by rw [List.take_add_one, List.take_add_one, HXK.out, HYK.out, hp.out])
          clear hp
          go_wp2
          go_region
          go_wp2
          go_roundw
          case rel => exact ⟨k + 1, by omega, by go_num, hst, q + 1, rfl⟩
          case measure => simp [intOf]; omega
        · have hres := Lib.hid (show decide (xs = ys) = false from decide_eq_false (fun e => hxy (by
            have h1 := HXK.out
            rw [e, HYK.out] at h1
            exact (Option.some.inj h1).symm)))
          clear hp
          have qb : (x.toList == y.toList) = false := by rw [str_beq, decide_eq_false hxy]
          clear hxy
          all_goals
            go_wp2
            go_region
            all_goals
              go_wp2
              go_ret
              exact ⟨by rw [hres.out]; rfl, q + 1, rfl⟩
      · have hres := Lib.hid (show decide (xs = ys) = true from decide_eq_true (by
          have := hp.out
          rwa [List.take_of_length_le (by rw [← HN.out]; omega), List.take_of_length_le (by rw [← HN'.out]; omega)] at this))
        have hkI : ¬ (k : Int) < (n : Int) := by omega
        clear hp
        go_wp2
        go_ret
        exact ⟨by rw [hres.out]; rfl, q, rfl⟩
  · have hres := Lib.hid (show decide (xs = ys) = false from decide_eq_false (fun e => hl (by rw [HN.out, HN'.out, e])))
    have n0 : ((n : Int) != (n' : Int)) = true := by rw [bne, show ((n : Int) == (n' : Int)) = false from beq_eq_false_iff_ne.2 (by omega)]; rfl
    clear hl
    go_enter Try.func58, Try.ntmps58
    go_wp2
    go_ret
    exact ⟨by rw [hres.out]; rfl, 0, rfl⟩

set_option maxRecDepth 100000 in
set_option maxHeartbeats 2000000 in
theorem texts_any (xs ys : List ByteArray) (a a' : Option Addr) (n n' c c' : Nat) (ok ok' : Nat → Prop) (w : World) (hx : RdOf ok 1 (StrAt w) a n c xs) (hy : RdOf ok' 1 (StrAt w) a' n' c' ys) :
    Calls Try.prog 59 #[.slice a n c, .slice a' n' c'] w fun e w' => e = .returned (.bool (decide (xs = ys))) ∧ ∃ q, w' = w.drewN q := by
  have hm : n ≤ 9223372036854775807 := by have := hx.2.1; have := hx.2.2.1; unfold maxLen at this; omega
  have hm' : n' ≤ 9223372036854775807 := by have := hy.2.1; have := hy.2.2.1; unfold maxLen at this; omega
  have HN := Lib.hid hx.1
  have HN' := Lib.hid hy.1
  have HX := Lib.hid hx
  have HY := Lib.hid hy
  clear hx hy
  by_cases hl : n = n'
  · subst hl
    have n0 : ((n : Int) != (n : Int)) = false := by simp
    go_enter Try.func59, Try.ntmps59
    go_wp2_with fail
    go_loopw [5] (fun i wr => ∃ k : Nat, k ≤ n ∧ i = .int .i64 k ∧ Hid (xs.take k = ys.take k) ∧ ∃ q, wr = w.drewN q) (fun i _ => n - (intOf i).toNat)
    case atStart => exact ⟨0, Nat.zero_le _, rfl, Lib.hid rfl, 0, rfl⟩
    case round =>
      obtain ⟨k, hk, rfl, hp, q, rfl⟩ := hrel
      by_cases hlt : k < n
      · obtain ⟨x, hx⟩ : ∃ x, xs[k]? = some x := ⟨_, List.getElem?_eq_getElem (by rw [← HN.out]; exact hlt)⟩
        obtain ⟨y, hy⟩ : ∃ y, ys[k]? = some y := ⟨_, List.getElem?_eq_getElem (by rw [← HN'.out]; exact hlt)⟩
        obtain ⟨b, off, rfl, hb, hcx⟩ := HX.out.at k x hx
        obtain ⟨b', off', rfl, hb', hcy⟩ := HY.out.at k y hy
        have cx : w.cell? ⟨b, off + k, none⟩ = some (.string x) := by have := hcx.1; rwa [Nat.mul_one] at this
        have cy : w.cell? ⟨b', off' + k, none⟩ = some (.string y) := by have := hcy.1; rwa [Nat.mul_one] at this
        clear hcx hcy
        have hkI : (0 : Int) ≤ (k : Int) := by omega
        have hkI2 : (k : Int) < (n : Int) := by omega
        have HXK := Lib.hid hx
        have HYK := Lib.hid hy
        clear hx hy
        by_cases hxy : x = y
        · subst hxy
          have hst := Lib.hid (show xs.take (k + 1) = ys.take (k + 1) from by rw [List.take_add_one, List.take_add_one, HXK.out, HYK.out, hp.out])
          clear hp
          go_wp2
          go_region
          go_wp2
          go_roundw
          case rel => exact ⟨k + 1, by omega, by go_num, hst, q + 1, rfl⟩
          case measure => simp [intOf]; omega
        · have hres := Lib.hid (show decide (xs = ys) = false from decide_eq_false (fun e => hxy (by
            have h1 := HXK.out
            rw [e, HYK.out] at h1
            exact (Option.some.inj h1).symm)))
          clear hp
          have qb : (x.toList == y.toList) = false := by rw [str_beq, decide_eq_false hxy]
          clear hxy
          all_goals
            go_wp2
            go_region
            all_goals
              go_wp2
              go_ret
              exact ⟨by rw [hres.out]; rfl, q + 1, rfl⟩
      · have hres := Lib.hid (show decide (xs = ys) = true from decide_eq_true (by
          have := hp.out
          rwa [List.take_of_length_le (by rw [← HN.out]; omega), List.take_of_length_le (by rw [← HN'.out]; omega)] at this))
        have hkI : ¬ (k : Int) < (n : Int) := by omega
        clear hp
        go_wp2
        go_ret
        exact ⟨by rw [hres.out]; rfl, q, rfl⟩
  · have hres := Lib.hid (show decide (xs = ys) = false from decide_eq_false (fun e => hl (by rw [HN.out, HN'.out, e])))
    have n0 : ((n : Int) != (n' : Int)) = true := by rw [bne, show ((n : Int) == (n' : Int)) = false from beq_eq_false_iff_ne.2 (by omega)]; rfl
    clear hl
    go_enter Try.func59, Try.ntmps59
    go_wp2
    go_ret
    exact ⟨by rw [hres.out]; rfl, 0, rfl⟩

set_option maxRecDepth 100000 in
set_option maxHeartbeats 2000000 in
theorem eqA_any (xs ys : List At3) (a a' : Option Addr) (n n' c c' : Nat) (ok ok' : Nat → Prop) (w : World) (hx : RdOf ok 3 (AttrAt w) a n c xs) (hy : RdOf ok' 3 (AttrAt w) a' n' c' ys) :
    Calls Try.prog 57 #[.slice a n c, .slice a' n' c'] w fun e w' => e = .returned (.bool (decide (xs = ys))) ∧ ∃ q, w' = w.drewN q := by
  have hm : n ≤ 9223372036854775807 := by have := hx.2.1; have := hx.2.2.1; unfold maxLen at this; omega
  have hm' : n' ≤ 9223372036854775807 := by have := hy.2.1; have := hy.2.2.1; unfold maxLen at this; omega
  have HN := Lib.hid hx.1
  have HN' := Lib.hid hy.1
  have HX := Lib.hid hx
  have HY := Lib.hid hy
  clear hx hy
  by_cases hl : n = n'
  · subst hl
    have n0 : ((n : Int) != (n : Int)) = false := by simp
    go_enter Try.func57, Try.ntmps57
    go_wp2_with fail
    go_loopw [13] (fun i wr => ∃ k : Nat, k ≤ n ∧ i = .int .i64 k ∧ Hid (xs.take k = ys.take k) ∧ ∃ q, wr = w.drewN q) (fun i _ => n - (intOf i).toNat)
    case atStart => exact ⟨0, Nat.zero_le _, rfl, Lib.hid rfl, 0, rfl⟩
    case round =>
      obtain ⟨k, hk, rfl, hp, q, rfl⟩ := hrel
      by_cases hlt : k < n
      · obtain ⟨x, hx⟩ : ∃ x, xs[k]? = some x := ⟨_, List.getElem?_eq_getElem (by rw [← HN.out]; exact hlt)⟩
        obtain ⟨y, hy⟩ : ∃ y, ys[k]? = some y := ⟨_, List.getElem?_eq_getElem (by rw [← HN'.out]; exact hlt)⟩
        obtain ⟨b, off, rfl, hb, hcx⟩ := HX.out.at k x hx
        obtain ⟨b', off', rfl, hb', hcy⟩ := HY.out.at k y hy
        obtain ⟨cx0, cx1, cx2, _⟩ := hcx
        obtain ⟨cy0, cy1, cy2, _⟩ := hcy
        obtain ⟨x0, x1, x2⟩ := x
        obtain ⟨y0, y1, y2⟩ := y
        dsimp only at cx0 cx1 cx2 cy0 cy1 cy2
        have hkI : (0 : Int) ≤ (k : Int) := by omega
        have hkI2 : (k : Int) < (n : Int) := by omega
        have HXK := Lib.hid hx
        have HYK := Lib.hid hy
        clear hx hy
        by_cases hxy : (⟨x0, x1, x2⟩ : At3) = ⟨y0, y1, y2⟩
        · obtain ⟨rfl, rfl, rfl⟩ : x0 = y0 ∧ x1 = y1 ∧ x2 = y2 := by cases hxy; exact ⟨rfl, rfl, rfl⟩
          have hst := Lib.hid (show xs.take (k + 1) = ys.take (k + 1) from by rw [List.take_add_one, List.take_add_one, HXK.out, HYK.out, hp.out])
          clear hp
          have q0 : (x0.toList == x0.toList) = true := by simp
          have q1 : (x1.toList == x1.toList) = true := by simp
          have q2 : (x2.toList == x2.toList) = true := by simp
          go_wp2
          go_region
          go_wp2
          go_roundw
          case rel => exact ⟨k + 1, by omega, by go_num, hst, q + 1, rfl⟩
          case measure => simp [intOf]; omega
        · have hres := Lib.hid (show decide (xs = ys) = false from decide_eq_false (fun e => hxy (by
            have h1 := HXK.out
            rw [e, HYK.out] at h1
            exact (Option.some.inj h1).symm)))
          clear hp
          have hne : (¬ x0.toList = y0.toList) ∨ (x0.toList = y0.toList ∧ ¬ x1.toList = y1.toList) ∨ (x0.toList = y0.toList ∧ x1.toList = y1.toList ∧ ¬ x2.toList = y2.toList) := by
            by_cases e0 : x0.toList = y0.toList
            · by_cases e1 : x1.toList = y1.toList
              · by_cases e2 : x2.toList = y2.toList
                · exact absurd (by rw [toList_inj e0, toList_inj e1, toList_inj e2]) hxy
                · exact .inr (.inr ⟨e0, e1, e2⟩)
              · exact .inr (.inl ⟨e0, e1⟩)
            · exact .inl e0
          clear hxy
          rcases hne with e0 | ⟨e0, e1⟩ | ⟨e0, e1, e2⟩
          all_goals
            go_wp2
            go_region
            all_goals
              go_wp2
              go_ret
              exact ⟨by rw [hres.out]; rfl, q + 1, rfl⟩
      · have hres := Lib.hid (show decide (xs = ys) = true from decide_eq_true (by
          have := hp.out
          rwa [List.take_of_length_le (by rw [← HN.out]; omega), List.take_of_length_le (by rw [← HN'.out]; omega)] at this))
        have hkI : ¬ (k : Int) < (n : Int) := by omega
        clear hp
        go_wp2
        go_ret
        exact ⟨by rw [hres.out]; rfl, q, rfl⟩
  · have hres := Lib.hid (show decide (xs = ys) = false from decide_eq_false (fun e => hl (by rw [HN.out, HN'.out, e])))
    have n0 : ((n : Int) != (n' : Int)) = true := by rw [bne, show ((n : Int) == (n' : Int)) = false from beq_eq_false_iff_ne.2 (by omega)]; rfl
    clear hl
    go_enter Try.func57, Try.ntmps57
    go_wp2
    go_ret
    exact ⟨by rw [hres.out]; rfl, 0, rfl⟩
end Go.Proofs.Ytfgnepbpfglepaa
