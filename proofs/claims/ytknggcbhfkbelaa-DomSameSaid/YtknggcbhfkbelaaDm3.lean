/- Nodes held against one another, by the document: walks. -/
import Derived.Test.YtknggcbhfkbelaaDm2
namespace Go.Proofs.Ytknggcbhfkbelaa
open Go.RowKit
set_option linter.unusedVariables false
set_option linter.unusedSimpArgs false


set_option maxRecDepth 100000 in
set_option maxHeartbeats 4000000 in
theorem rsameNode_any (p k p2 k2 : Int) (s nm t s2 nm2 t2 : ByteArray) (ats bts : List At3) (ss us : List ByteArray) (a a' b b' : Option Addr) (n n' c c' m m' d d' : Nat) (ok : Nat → Prop) (w : World)
    (hok : ∀ b, ok b → b < w.heap.size) (hA : RdA ok w a n c ats) (hS : RdS ok w a' n' c' ss) (hB : RdA ok w b m d bts) (hU : RdS ok w b' m' d' us) :
    Calls Try.prog 25 #[.agg #[.int .i64 p, .int .i64 k, .string s, .string nm, .slice a n c, .slice a' n' c', .string t], .agg #[.int .i64 p2, .int .i64 k2, .string s2, .string nm2, .slice b m d, .slice b' m' d', .string t2]] w (Told (.bool (decide ((⟨p, k, s, nm, ats, ss, t⟩ : Nd) = ⟨p2, k2, s2, nm2, bts, us, t2⟩))) w) := by
  have hbX := (Below.refl w.heap.size w).alloc (Nat.le_refl _) (.cells [.int .i64 p, .int .i64 k, .string s, .string nm, .slice a n c, .slice a' n' c', .string t].toArray 44)
  have hbW := hbX.alloc hbX.size (.cells [.int .i64 p2, .int .i64 k2, .string s2, .string nm2, .slice b m d, .slice b' m' d', .string t2].toArray 44)
  have hmv : ∀ bl, ok bl → ok bl ∧ ((w.alloc (.cells [.int .i64 p, .int .i64 k, .string s, .string nm, .slice a n c, .slice a' n' c', .string t].toArray 44)).alloc (.cells [.int .i64 p2, .int .i64 k2, .string s2, .string nm2, .slice b m d, .slice b' m' d', .string t2].toArray 44)).heap[bl]? = w.heap[bl]? := fun bl hb => ⟨hb, hbW.block bl (hok bl hb)⟩
  have hmA : n ≤ 9223372036854775807 := by have := hA.2.1; have := hA.2.2.1; unfold maxLen at this; omega
  have hmB : m ≤ 9223372036854775807 := by have := hB.2.1; have := hB.2.2.1; unfold maxLen at this; omega
  have fS := texts_any ss us a' b' n' m' c' d' ok ok _ (hS.move hmv) (hU.move hmv)
  have HX := Lib.hid (RdA.move hmv hA)
  have HY := Lib.hid (RdA.move hmv hB)
  have HN := Lib.hid hA.1
  have HM := Lib.hid hB.1
  have HBW := Lib.hid hbW
  have HR : Hid (decide ((⟨p, k, s, nm, ats, ss, t⟩ : Nd) = ⟨p2, k2, s2, nm2, bts, us, t2⟩) = (decide (p = p2) && (decide (k = k2) && (decide (s = s2) && (decide (nm = nm2) && (decide (t = t2) && (decide (ss = us) && decide (ats = bts)))))))) := Lib.hid (by
    rw [Bool.eq_iff_iff]
    simp only [Bool.and_eq_true, decide_eq_true_iff, Nd.mk.injEq]
    constructor
    · rintro ⟨h0, h1, h2, h3, h4, h5, h6⟩; exact ⟨h0, h1, h2, h3, h6, h5, h4⟩
    · rintro ⟨h0, h1, h2, h3, h6, h5, h4⟩; exact ⟨h0, h1, h2, h3, h4, h5, h6⟩)
  generalize decide ((⟨p, k, s, nm, ats, ss, t⟩ : Nd) = ⟨p2, k2, s2, nm2, bts, us, t2⟩) = R at *
  have e0 : (p == p2) = decide (p = p2) := rfl
  have e1 : (k == k2) = decide (k = k2) := rfl
  have g0 : (p != p2) = !decide (p = p2) := rfl
  have g1 : (k != k2) = !decide (k = k2) := rfl
  have e2 := str_beq s s2
  have e3 := str_beq nm nm2
  have e4 := str_beq t t2
  clear hA hS hB hU hmv hbX hbW hok
  have HL : Hid (n ≠ m → decide (ats = bts) = false) := Lib.hid (fun h => decide_eq_false (fun e => h (by rw [HN.out, HM.out, e])))
  generalize h5 : decide (ats = bts) = r5 at *
  have H5 := Lib.hid h5
  clear h5
  generalize decide (ss = us) = r6 at *
  generalize decide (p = p2) = r0 at *
  generalize decide (k = k2) = r1 at *
  generalize decide (s = s2) = r2 at *
  generalize decide (nm = nm2) = r3 at *
  generalize decide (t = t2) = r4 at *
  cases r0
  · go_enter Try.func25, Try.ntmps25
    go_wp2_with (go_at_call 44; (with_reducible refine fS.mono ?_); rintro e wq ⟨rfl, q0, rfl⟩)
    go_ret
    exact ⟨by rw [HR.out]; first | rfl | (cases r5 <;> rfl) | (cases r6 <;> rfl) | (cases r5 <;> cases r6 <;> rfl), by first | exact HBW.out | exact below_drewN HBW.out _⟩
  · cases r1
    · go_enter Try.func25, Try.ntmps25
      go_wp2_with (go_at_call 44; (with_reducible refine fS.mono ?_); rintro e wq ⟨rfl, q0, rfl⟩)
      go_ret
      exact ⟨by rw [HR.out]; first | rfl | (cases r5 <;> rfl) | (cases r6 <;> rfl) | (cases r5 <;> cases r6 <;> rfl), by first | exact HBW.out | exact below_drewN HBW.out _⟩
    · cases r2
      · go_enter Try.func25, Try.ntmps25
        go_wp2_with (go_at_call 44; (with_reducible refine fS.mono ?_); rintro e wq ⟨rfl, q0, rfl⟩)
        go_ret
        exact ⟨by rw [HR.out]; first | rfl | (cases r5 <;> rfl) | (cases r6 <;> rfl) | (cases r5 <;> cases r6 <;> rfl), by first | exact HBW.out | exact below_drewN HBW.out _⟩
      · cases r3
        · go_enter Try.func25, Try.ntmps25
          go_wp2_with (go_at_call 44; (with_reducible refine fS.mono ?_); rintro e wq ⟨rfl, q0, rfl⟩)
          go_ret
          exact ⟨by rw [HR.out]; first | rfl | (cases r5 <;> rfl) | (cases r6 <;> rfl) | (cases r5 <;> cases r6 <;> rfl), by first | exact HBW.out | exact below_drewN HBW.out _⟩
        · cases r4
          · go_enter Try.func25, Try.ntmps25
            go_wp2_with (go_at_call 44; (with_reducible refine fS.mono ?_); rintro e wq ⟨rfl, q0, rfl⟩)
            go_ret
            exact ⟨by rw [HR.out]; first | rfl | (cases r5 <;> rfl) | (cases r6 <;> rfl) | (cases r5 <;> cases r6 <;> rfl), by first | exact HBW.out | exact below_drewN HBW.out _⟩
          · by_cases hnm : n = m
            · subst hnm
              have n0 : ((n : Int) != (n : Int)) = false := by simp
              cases r6
              · go_enter Try.func25, Try.ntmps25
                go_wp2_with (go_at_call 44; (with_reducible refine fS.mono ?_); rintro e wq ⟨rfl, q0, rfl⟩)
                go_ret
                exact ⟨by rw [HR.out]; first | rfl | (cases r5 <;> rfl) | (cases r6 <;> rfl) | (cases r5 <;> cases r6 <;> rfl), by first | exact HBW.out | exact below_drewN HBW.out _⟩
              · go_enter Try.func25, Try.ntmps25
                go_wp2_with (go_at_call 44; (with_reducible refine fS.mono ?_); rintro e wq ⟨rfl, q0, rfl⟩)
                go_loopw [5] (fun i wr => ∃ j : Nat, j ≤ n ∧ i = .int .i64 j ∧ Hid (ats.take j = bts.take j) ∧ ∃ q, wr = ((w.alloc (.cells #[.int .i64 p, .int .i64 k, .string s, .string nm, .slice a n c, .slice a' n' c', .string t] 44)).alloc (.cells #[.int .i64 p2, .int .i64 k2, .string s2, .string nm2, .slice b n d, .slice b' m' d', .string t2] 44)).drewN q) (fun i _ => n - (intOf i).toNat)
                case atStart => exact ⟨0, Nat.zero_le _, rfl, Lib.hid rfl, q0, rfl⟩
                case round =>
                  obtain ⟨j, hj, rfl, hp, q, rfl⟩ := hrel
                  by_cases hlt : j < n
                  · obtain ⟨x, hx⟩ : ∃ x, ats[j]? = some x := ⟨_, List.getElem?_eq_getElem (by rw [← HN.out]; exact hlt)⟩
                    obtain ⟨y, hy⟩ : ∃ y, bts[j]? = some y := ⟨_, List.getElem?_eq_getElem (by rw [← HM.out]; exact hlt)⟩
                    obtain ⟨g, off, rfl, hb, cx0, cx1, cx2, _⟩ := HX.out.at j x hx
                    obtain ⟨g', off', rfl, hb', cy0, cy1, cy2, _⟩ := HY.out.at j y hy
                    obtain ⟨x0, x1, x2⟩ := x
                    obtain ⟨y0, y1, y2⟩ := y
                    dsimp only at cx0 cx1 cx2 cy0 cy1 cy2
                    have hkI : (0 : Int) ≤ (j : Int) := by omega
                    have hkI2 : (j : Int) < (n : Int) := by omega
                    have HXK := Lib.hid hx
                    have HYK := Lib.hid hy
                    clear hx hy
                    by_cases hxy : (⟨x0, x1, x2⟩ : At3) = ⟨y0, y1, y2⟩
                    · obtain ⟨rfl, rfl, rfl⟩ : x0 = y0 ∧ x1 = y1 ∧ x2 = y2 := by cases hxy; exact ⟨rfl, rfl, rfl⟩
                      have hst := Lib.hid (show ats.take (j + 1) = bts.take (j + 1) from by rw [List.take_add_one, List.take_add_one, HXK.out, HYK.out, hp.out])
                      clear hp hxy
                      have q0 : (x0.toList == x0.toList) = true := by simp
                      have q1 : (x1.toList == x1.toList) = true := by simp
                      have q2 : (x2.toList == x2.toList) = true := by simp
                      go_wp2
                      go_region
                      go_wp2
                      go_roundw
                      case rel => exact ⟨j + 1, by omega, by go_num, hst, q + 1, rfl⟩
                      case measure => simp [intOf]; omega
                    · have hres := Lib.hid (show r5 = false from by
                        rw [← H5.out]
                        exact decide_eq_false (fun e => hxy (by
                          have h1 := HXK.out
                          rw [e, HYK.out] at h1
                          exact (Option.some.inj h1).symm)))
                      clear hp
                      have hne : (¬ x0.toList = y0.toList) ∨ (x0.toList = y0.toList ∧ ¬ x1.toList = y1.toList) ∨ (x0.toList = y0.toList ∧ x1.toList = y1.toList ∧ ¬ x2.toList = y2.toList) := by
                        by_cases e0 : x0.toList = y0.toList
                        · by_cases e1 : x1.toList = y1.toList
                          · by_cases e2 : x2.toList = y2.toList
                            · exact absurd (by rw [toList_inj e0, toList_inj e1, toList_inj e2]) hxy
                            · exact .inr (.inr ⟨e0, e1, e2⟩)
                          · exact .inr (.inl ⟨e0, e1⟩)
                        · exact .inl e0
                      clear hxy
                      rcases hne with e0 | ⟨e0, e1⟩ | ⟨e0, e1, e2⟩
                      all_goals
                        go_wp2
                        go_region
                        all_goals
                          go_wp2
                          go_ret
                          exact ⟨by rw [HR.out, hres.out]; rfl, below_drewN HBW.out _⟩
                  · have hres := Lib.hid (show r5 = true from by
                      rw [← H5.out]
                      exact decide_eq_true (by
                        have := hp.out
                        rwa [List.take_of_length_le (by rw [← HN.out]; omega), List.take_of_length_le (by rw [← HM.out]; omega)] at this))
                    have hkI : ¬ (j : Int) < (n : Int) := by omega
                    clear hp
                    go_wp2
                    go_ret
                    exact ⟨by rw [HR.out, hres.out]; rfl, below_drewN HBW.out _⟩
            · have n0 : ((n : Int) != (m : Int)) = true := by rw [bne, show ((n : Int) == (m : Int)) = false from beq_eq_false_iff_ne.2 (by omega)]; rfl
              go_enter Try.func25, Try.ntmps25
              go_wp2_with (go_at_call 44; (with_reducible refine fS.mono ?_); rintro e wq ⟨rfl, q0, rfl⟩)
              go_ret
              exact ⟨by rw [HR.out, HL.out hnm]; first | rfl | (cases r5 <;> rfl) | (cases r6 <;> rfl) | (cases r5 <;> cases r6 <;> rfl), by first | exact HBW.out | exact below_drewN HBW.out _⟩
end Go.Proofs.Ytknggcbhfkbelaa
