/- Several texts of mine in one. -/
import Derived.Test.YtfgnepbpfglepaaDm1
import Derived.Shelf.Abstract
import Derived.Deep.RegionWith
namespace Go.Proofs.Ytfgnepbpfglepaa
section
open Go.RowKit
set_option linter.unusedVariables false
set_option linter.unusedSimpArgs false

theorem RdS.drewN {ok : Nat → Prop} {w : World} {a : Option Addr} {n c : Nat} {x : List ByteArray} (h : RdS ok w a n c x) (q : Nat) : RdS ok (w.drewN q) a n c x := RdS.move (w := w) (w' := w.drewN q) (fun b hb => ⟨hb, rfl⟩) h
theorem RdA.drewN {ok : Nat → Prop} {w : World} {a : Option Addr} {n c : Nat} {x : List At3} (h : RdA ok w a n c x) (q : Nat) : RdA ok (w.drewN q) a n c x := RdA.move (w := w) (w' := w.drewN q) (fun b hb => ⟨hb, rfl⟩) h
set_option maxRecDepth 100000 in
set_option maxHeartbeats 4000000 in
theorem sameNode_any (p k p2 k2 : Int) (s nm t s2 nm2 t2 : ByteArray) (ats bts : List At3) (ss us : List ByteArray) (a a' b b' : Option Addr) (n n' c c' m m' d d' : Nat) (ok : Nat → Prop) (w : World)
    (hok : ∀ b, ok b → b < w.heap.size) (hA : RdA ok w a n c ats) (hS : RdS ok w a' n' c' ss) (hB : RdA ok w b m d bts) (hU : RdS ok w b' m' d' us) :
    Calls Try.prog 31 #[.agg #[.int .i64 p, .int .i64 k, .string s, .string nm, .slice a n c, .slice a' n' c', .string t], .agg #[.int .i64 p2, .int .i64 k2, .string s2, .string nm2, .slice b m d, .slice b' m' d', .string t2]] w (Told (.bool (decide ((⟨p, k, s, nm, ats, ss, t⟩ : Nd) = ⟨p2, k2, s2, nm2, bts, us, t2⟩))) w) := by
  have hbX := (Below.refl w.heap.size w).alloc (Nat.le_refl _) (.cells [.int .i64 p, .int .i64 k, .string s, .string nm, .slice a n c, .slice a' n' c', .string t].toArray 44)
  have hbW := hbX.alloc hbX.size (.cells [.int .i64 p2, .int .i64 k2, .string s2, .string nm2, .slice b m d, .slice b' m' d', .string t2].toArray 44)
  have hmv : ∀ bl, ok bl → ok bl ∧ ((w.alloc (.cells [.int .i64 p, .int .i64 k, .string s, .string nm, .slice a n c, .slice a' n' c', .string t].toArray 44)).alloc (.cells [.int .i64 p2, .int .i64 k2, .string s2, .string nm2, .slice b m d, .slice b' m' d', .string t2].toArray 44)).heap[bl]? = w.heap[bl]? := fun bl hb => ⟨hb, hbW.block bl (hok bl hb)⟩
  have fA := eqA_any ats bts a b n m c d ok ok _ (hA.move hmv) (hB.move hmv)
  have hS2 := RdS.move hmv hS
  have hU2 := RdS.move hmv hU
  have fS := fun q => eqS_any ss us a' b' n' m' c' d' ok ok _ (hS2.drewN q) (hU2.drewN q)
  have HBW := Lib.hid hbW
  have HR : Hid (decide ((⟨p, k, s, nm, ats, ss, t⟩ : Nd) = ⟨p2, k2, s2, nm2, bts, us, t2⟩) = (decide (p = p2) && (decide (k = k2) && (decide (s = s2) && (decide (nm = nm2) && (decide (t = t2) && (decide (ats = bts) && decide (ss = us)))))))) := Lib.hid (by
    rw [Bool.eq_iff_iff]
    simp only [Bool.and_eq_true, decide_eq_true_iff, Nd.mk.injEq]
    constructor
    · rintro ⟨h0, h1, h2, h3, h4, h5, h6⟩; exact ⟨h0, h1, h2, h3, h6, h4, h5⟩
    · rintro ⟨h0, h1, h2, h3, h6, h4, h5⟩; exact ⟨h0, h1, h2, h3, h4, h5, h6⟩)
  generalize decide ((⟨p, k, s, nm, ats, ss, t⟩ : Nd) = ⟨p2, k2, s2, nm2, bts, us, t2⟩) = R at *
  have e0 : (p == p2) = decide (p = p2) := rfl
  have e1 : (k == k2) = decide (k = k2) := rfl
  have e2 := str_beq s s2
  have e3 := str_beq nm nm2
  have e4 := str_beq t t2
  clear hA hS hB hU hS2 hU2 hmv hbX hbW hok
  generalize decide (ats = bts) = r5 at *
  generalize decide (ss = us) = r6 at *
  generalize decide (p = p2) = r0 at *
  generalize decide (k = k2) = r1 at *
  generalize decide (s = s2) = r2 at *
  generalize decide (nm = nm2) = r3 at *
  generalize decide (t = t2) = r4 at *
  cases r0
  · go_enter Try.func31, Try.ntmps31
    go_wp2_with (first
          | (go_at_call 57; (with_reducible refine fA.mono ?_); rintro e wq ⟨rfl, q, rfl⟩)
          | (go_at_call 58; (with_reducible refine (fS _).mono ?_); rintro e wq ⟨rfl, q', rfl⟩))
    go_ret
    exact ⟨by rw [HR.out]; first | rfl | (cases r5 <;> rfl) | (cases r6 <;> rfl), by first | exact HBW.out | exact below_drewN HBW.out _ | exact below_drewN (below_drewN HBW.out _) _⟩
  · cases r1
    · go_enter Try.func31, Try.ntmps31
      go_wp2_with (first
            | (go_at_call 57; (with_reducible refine fA.mono ?_); rintro e wq ⟨rfl, q, rfl⟩)
            | (go_at_call 58; (with_reducible refine (fS _).mono ?_); rintro e wq ⟨rfl, q', rfl⟩))
      go_ret
      exact ⟨by rw [HR.out]; first | rfl | (cases r5 <;> rfl) | (cases r6 <;> rfl), by first | exact HBW.out | exact below_drewN HBW.out _ | exact below_drewN (below_drewN HBW.out _) _⟩
    · cases r2
      · go_enter Try.func31, Try.ntmps31
        go_wp2_with (first
              | (go_at_call 57; (with_reducible refine fA.mono ?_); rintro e wq ⟨rfl, q, rfl⟩)
              | (go_at_call 58; (with_reducible refine (fS _).mono ?_); rintro e wq ⟨rfl, q', rfl⟩))
        go_ret
        exact ⟨by rw [HR.out]; first | rfl | (cases r5 <;> rfl) | (cases r6 <;> rfl), by first | exact HBW.out | exact below_drewN HBW.out _ | exact below_drewN (below_drewN HBW.out _) _⟩
      · cases r3
        · go_enter Try.func31, Try.ntmps31
          go_wp2_with (first
                | (go_at_call 57; (with_reducible refine fA.mono ?_); rintro e wq ⟨rfl, q, rfl⟩)
                | (go_at_call 58; (with_reducible refine (fS _).mono ?_); rintro e wq ⟨rfl, q', rfl⟩))
          go_ret
          exact ⟨by rw [HR.out]; first | rfl | (cases r5 <;> rfl) | (cases r6 <;> rfl), by first | exact HBW.out | exact below_drewN HBW.out _ | exact below_drewN (below_drewN HBW.out _) _⟩
        · cases r4
          · go_enter Try.func31, Try.ntmps31
            go_wp2_with (first
                  | (go_at_call 57; (with_reducible refine fA.mono ?_); rintro e wq ⟨rfl, q, rfl⟩)
                  | (go_at_call 58; (with_reducible refine (fS _).mono ?_); rintro e wq ⟨rfl, q', rfl⟩))
            go_ret
            exact ⟨by rw [HR.out]; first | rfl | (cases r5 <;> rfl) | (cases r6 <;> rfl), by first | exact HBW.out | exact below_drewN HBW.out _ | exact below_drewN (below_drewN HBW.out _) _⟩
          · cases r5
            · go_enter Try.func31, Try.ntmps31
              go_wp2_with (first
                    | (go_at_call 57; (with_reducible refine fA.mono ?_); rintro e wq ⟨rfl, q, rfl⟩)
                    | (go_at_call 58; (with_reducible refine (fS _).mono ?_); rintro e wq ⟨rfl, q', rfl⟩))
              go_ret
              exact ⟨by rw [HR.out]; first | rfl | (cases r5 <;> rfl) | (cases r6 <;> rfl), by first | exact HBW.out | exact below_drewN HBW.out _ | exact below_drewN (below_drewN HBW.out _) _⟩
            · go_enter Try.func31, Try.ntmps31
              go_wp2_with (first
                    | (go_at_call 57; (with_reducible refine fA.mono ?_); rintro e wq ⟨rfl, q, rfl⟩)
                    | (go_at_call 58; (with_reducible refine (fS _).mono ?_); rintro e wq ⟨rfl, q', rfl⟩))
              go_ret
              exact ⟨by rw [HR.out]; first | rfl | (cases r5 <;> rfl) | (cases r6 <;> rfl), by first | exact HBW.out | exact below_drewN HBW.out _ | exact below_drewN (below_drewN HBW.out _) _⟩
end

section
open Go.RowKit
set_option linter.unusedVariables false
set_option linter.unusedSimpArgs false

theorem nd_eta (x y : Nd) : (decide ((⟨x.par, x.kind, x.space, x.name, x.attrs, x.states, x.text⟩ : Nd) = ⟨y.par, y.kind, y.space, y.name, y.attrs, y.states, y.text⟩)) = decide (x = y) := rfl

set_option maxRecDepth 100000 in
set_option maxHeartbeats 4000000 in
theorem eqN_any (xs ys : List Nd) (a a' : Option Addr) (n n' c c' : Nat) (w : World) (hx : RdN (· < w.heap.size) w a n c xs) (hy : RdN (· < w.heap.size) w a' n' c' ys) :
    Calls Try.prog 30 #[.slice a n c, .slice a' n' c', .func (.func 31) #[] #[]] w (Told (.bool (decide (xs = ys))) w) := by
  have hm : n ≤ 9223372036854775807 := by have := hx.2.1; have := hx.2.2.1; unfold maxLen at this; omega
  have hm' : n' ≤ 9223372036854775807 := by have := hy.2.1; have := hy.2.2.1; unfold maxLen at this; omega
  have HN := Lib.hid hx.1
  have HN' := Lib.hid hy.1
  have HX := Lib.hid hx
  have HY := Lib.hid hy
  clear hx hy
  by_cases hl : n = n'
  · subst hl
    have n0 : ((n : Int) != (n : Int)) = false := by simp
    go_enter Try.func30, Try.ntmps30
    go_wp2_with fail
    go_loopw [17] (fun i wr => ∃ k : Nat, k ≤ n ∧ i = .int .i64 k ∧ Hid (xs.take k = ys.take k) ∧ Below w.heap.size w wr) (fun i _ => n - (intOf i).toNat)
    case atStart => exact ⟨0, Nat.zero_le _, rfl, Lib.hid rfl, Below.refl _ _⟩
    case round =>
      obtain ⟨k, hk, rfl, hp, hB⟩ := hrel
      by_cases hlt : k < n
      · obtain ⟨x, hx⟩ : ∃ x, xs[k]? = some x := ⟨_, List.getElem?_eq_getElem (by rw [← HN.out]; exact hlt)⟩
        obtain ⟨y, hy⟩ : ∃ y, ys[k]? = some y := ⟨_, List.getElem?_eq_getElem (by rw [← HN'.out]; exact hlt)⟩
        obtain ⟨g, off, rfl, hg, x0, x1, x2, x3, ⟨a1, n1, c1, x4, hA1⟩, ⟨a2, n2, c2, x5, hS1⟩, x6, _⟩ := HX.out.at k x hx
        obtain ⟨g', off', rfl, hg', y0, y1, y2, y3, ⟨b1, m1, d1, y4, hA2⟩, ⟨b2, m2, d2, y5, hS2⟩, y6, _⟩ := HY.out.at k y hy
        rw [← cell_same (hB.block g hg)] at x0 x1 x2 x3 x4 x5 x6
        rw [← cell_same (hB.block g' hg')] at y0 y1 y2 y3 y4 y5 y6
        have hkI : (0 : Int) ≤ (k : Int) := by omega
        have hkI2 : (k : Int) < (n : Int) := by omega
        have HXK := Lib.hid hx
        have HYK := Lib.hid hy
        have hbX := hB.alloc hB.size (.cells [.int .i64 x.par, .int .i64 x.kind, .string x.space, .string x.name, .slice a1 n1 c1, .slice a2 n2 c2, .string x.text].toArray 44)
        have hbW := hbX.alloc hbX.size (.cells [.int .i64 y.par, .int .i64 y.kind, .string y.space, .string y.name, .slice b1 m1 d1, .slice b2 m2 d2, .string y.text].toArray 44)
        have hmv := fun bl (hb : bl < w.heap.size) => (And.intro hb (hbW.block bl hb))
        have cS := sameNode_any x.par x.kind y.par y.kind x.space x.name x.text y.space y.name y.text x.attrs y.attrs x.states y.states a1 a2 b1 b2 n1 n2 c1 c2 m1 m2 d1 d2 (· < w.heap.size) _ (fun b hb => Nat.lt_of_lt_of_le hb hbW.size) (hA1.move hmv) (hS1.move hmv) (hA2.move hmv) (hS2.move hmv)
        rw [nd_eta] at cS
        have y0' : (wr.alloc (.cells #[.int .i64 x.par, .int .i64 x.kind, .string x.space, .string x.name, .slice a1 n1 c1, .slice a2 n2 c2, .string x.text] 44)).heap[g']? = wr.heap[g']? := Below.heap_alloc _ _ _ (Nat.lt_of_lt_of_le hg' hB.size)
        have z0 := (cell_same y0' (off' + k * 7)).trans y0
        have z1 := (cell_same y0' (off' + k * 7 + 1)).trans y1
        have z2 := (cell_same y0' (off' + k * 7 + 2)).trans y2
        have z3 := (cell_same y0' (off' + k * 7 + 3)).trans y3
        have z4 := (cell_same y0' (off' + k * 7 + 4)).trans y4
        have z5 := (cell_same y0' (off' + k * 7 + 5)).trans y5
        have z6 := (cell_same y0' (off' + k * 7 + 6)).trans y6
        have HBW := Lib.hid hbW
        by_cases hxy : x = y
        · have hst := Lib.hid (show xs.take (k + 1) = ys.take (k + 1) from by rw [List.take_add_one, List.take_add_one, HXK.out, HYK.out, hp.out, hxy])
          rw [decide_eq_true hxy] at cS
          clear hp hx hy hxy hA1 hS1 hA2 hS2 hmv hbX hbW y0 y1 y2 y3 y4 y5 y6 y0' hB
          go_wp2_with (go_at_call 31; (with_reducible refine cS.mono ?_); rintro e w3 ⟨rfl, hb3⟩)
          go_roundw
          case rel => exact ⟨k + 1, by omega, by go_num, hst, HBW.out.trans (hb3.mono HBW.out.size)⟩
          case measure => simp [intOf]; omega
        · have hres := Lib.hid (show decide (xs = ys) = false from decide_eq_false (fun e => hxy (by
            have h1 := HXK.out
            rw [e, HYK.out] at h1
            exact (Option.some.inj h1).symm)))
          rw [decide_eq_false hxy] at cS
          clear hp hx hy hxy hA1 hS1 hA2 hS2 hmv hbX hbW y0 y1 y2 y3 y4 y5 y6 y0' hB
          go_wp2_with (go_at_call 31; (with_reducible refine cS.mono ?_); rintro e w3 ⟨rfl, hb3⟩)
          go_ret
          exact ⟨by rw [hres.out]; rfl, HBW.out.trans (hb3.mono HBW.out.size)⟩
      · have hres := Lib.hid (show decide (xs = ys) = true from decide_eq_true (by
          have := hp.out
          rwa [List.take_of_length_le (by rw [← HN.out]; omega), List.take_of_length_le (by rw [← HN'.out]; omega)] at this))
        have hkI : ¬ (k : Int) < (n : Int) := by omega
        clear hp
        go_wp2
        go_ret
        exact ⟨by rw [hres.out]; rfl, hB⟩
  · have hres := Lib.hid (show decide (xs = ys) = false from decide_eq_false (fun e => hl (by rw [HN.out, HN'.out, e])))
    have n0 : ((n : Int) != (n' : Int)) = true := by rw [bne, show ((n : Int) == (n' : Int)) = false from beq_eq_false_iff_ne.2 (by omega)]; rfl
    clear hl
    go_enter Try.func30, Try.ntmps30
    go_wp2
    go_ret
    exact ⟨by rw [hres.out]; rfl, Below.refl _ _⟩
set_option maxRecDepth 100000 in
theorem domSame_any (xs ys : List Nd) (a a' : Option Addr) (n n' c c' : Nat) (w : World) (hx : RdN (· < w.heap.size) w a n c xs) (hy : RdN (· < w.heap.size) w a' n' c' ys) :
    Calls Try.prog 9 #[.slice a n c, .slice a' n' c'] w (Told (.bool (decide (xs = ys))) w) := by
  have h := eqN_any xs ys a a' n n' c c' w hx hy
  clear hx hy
  go_enter Try.func9, Try.ntmps9
  go_wp2_with fail
  refine h.mono ?_
  rintro e w1 ⟨rfl, hb1⟩
  go_wp2
  go_ret
  exact ⟨rfl, hb1⟩
end

section
open Go.RowKit
set_option linter.unusedVariables false
set_option linter.unusedSimpArgs false


set_option maxRecDepth 100000 in
set_option maxHeartbeats 4000000 in
theorem rsameNode_any (p k p2 k2 : Int) (s nm t s2 nm2 t2 : ByteArray) (ats bts : List At3) (ss us : List ByteArray) (a a' b b' : Option Addr) (n n' c c' m m' d d' : Nat) (ok : Nat → Prop) (w : World)
    (hok : ∀ b, ok b → b < w.heap.size) (hA : RdA ok w a n c ats) (hS : RdS ok w a' n' c' ss) (hB : RdA ok w b m d bts) (hU : RdS ok w b' m' d' us) :
    Calls Try.prog 32 #[.agg #[.int .i64 p, .int .i64 k, .string s, .string nm, .slice a n c, .slice a' n' c', .string t], .agg #[.int .i64 p2, .int .i64 k2, .string s2, .string nm2, .slice b m d, .slice b' m' d', .string t2]] w (Told (.bool (decide ((⟨p, k, s, nm, ats, ss, t⟩ : Nd) = ⟨p2, k2, s2, nm2, bts, us, t2⟩))) w) := by
  have hbX := (Below.refl w.heap.size w).alloc (Nat.le_refl _) (.cells [.int .i64 p, .int .i64 k, .string s, .string nm, .slice a n c, .slice a' n' c', .string t].toArray 44)
  have hbW := hbX.alloc hbX.size (.cells [.int .i64 p2, .int .i64 k2, .string s2, .string nm2, .slice b m d, .slice b' m' d', .string t2].toArray 44)
  have hmv : ∀ bl, ok bl → ok bl ∧ ((w.alloc (.cells [.int .i64 p, .int .i64 k, .string s, .string nm, .slice a n c, .slice a' n' c', .string t].toArray 44)).alloc (.cells [.int .i64 p2, .int .i64 k2, .string s2, .string nm2, .slice b m d, .slice b' m' d', .string t2].toArray 44)).heap[bl]? = w.heap[bl]? := fun bl hb => ⟨hb, hbW.block bl (hok bl hb)⟩
  have hmA : n ≤ 9223372036854775807 := by have := hA.2.1; have := hA.2.2.1; unfold maxLen at this; omega
  have hmB : m ≤ 9223372036854775807 := by have := hB.2.1; have := hB.2.2.1; unfold maxLen at this; omega
  have fS := texts_any ss us a' b' n' m' c' d' ok ok _ (hS.move hmv) (hU.move hmv)
  have HX := Lib.hid (RdA.move hmv hA)
  have HY := Lib.hid (RdA.move hmv hB)
  have HN := Lib.hid hA.1
  have HM := Lib.hid hB.1
  have HBW := Lib.hid hbW
  have HR : Hid (decide ((⟨p, k, s, nm, ats, ss, t⟩ : Nd) = ⟨p2, k2, s2, nm2, bts, us, t2⟩) = (decide (p = p2) && (decide (k = k2) && (decide (s = s2) && (decide (nm = nm2) && (decide (t = t2) && (decide (ss = us) && decide (ats = bts)))))))) := Lib.hid (by
    rw [Bool.eq_iff_iff]
    simp only [Bool.and_eq_true, decide_eq_true_iff, Nd.mk.injEq]
    constructor
    · rintro ⟨h0, h1, h2, h3, h4, h5, h6⟩; exact ⟨h0, h1, h2, h3, h6, h5, h4⟩
    · rintro ⟨h0, h1, h2, h3, h6, h5, h4⟩; exact ⟨h0, h1, h2, h3, h4, h5, h6⟩)
  generalize decide ((⟨p, k, s, nm, ats, ss, t⟩ : Nd) = ⟨p2, k2, s2, nm2, bts, us, t2⟩) = R at *
  have e0 : (p == p2) = decide (p = p2) := rfl
  have e1 : (k == k2) = decide (k = k2) := rfl
  have g0 : (p != p2) = !decide (p = p2) := rfl
  have g1 : (k != k2) = !decide (k = k2) := rfl
  have e2 := str_beq s s2
  have e3 := str_beq nm nm2
  have e4 := str_beq t t2
  clear hA hS hB hU hmv hbX hbW hok
  have HL : Hid (n ≠ m → decide (ats = bts) = false) := Lib.hid (fun h => decide_eq_false (fun e => h (by rw [HN.out, HM.out, e])))
  generalize h5 : decide (ats = bts) = r5 at *
  have H5 := Lib.hid h5
  clear h5
  generalize decide (ss = us) = r6 at *
  generalize decide (p = p2) = r0 at *
  generalize decide (k = k2) = r1 at *
  generalize decide (s = s2) = r2 at *
  generalize decide (nm = nm2) = r3 at *
  generalize decide (t = t2) = r4 at *
  cases r0
  · go_enter Try.func32, Try.ntmps32
    go_wp2_with (go_at_call 59; (with_reducible refine fS.mono ?_); rintro e wq ⟨rfl, q0, rfl⟩)
    go_ret
    exact ⟨by rw [HR.out]; first | rfl | (cases r5 <;> rfl) | (cases r6 <;> rfl) | (cases r5 <;> cases r6 <;> rfl), by first | exact HBW.out | exact below_drewN HBW.out _⟩
  · cases r1
    · go_enter Try.func32, Try.ntmps32
      go_wp2_with (go_at_call 59; (with_reducible refine fS.mono ?_); rintro e wq ⟨rfl, q0, rfl⟩)
      go_ret
      exact ⟨by rw [HR.out]; first | rfl | (cases r5 <;> rfl) | (cases r6 <;> rfl) | (cases r5 <;> cases r6 <;> rfl), by first | exact HBW.out | exact below_drewN HBW.out _⟩
    · cases r2
      · go_enter Try.func32, Try.ntmps32
        go_wp2_with (go_at_call 59; (with_reducible refine fS.mono ?_); rintro e wq ⟨rfl, q0, rfl⟩)
        go_ret
        exact ⟨by rw [HR.out]; first | rfl | (cases r5 <;> rfl) | (cases r6 <;> rfl) | (cases r5 <;> cases r6 <;> rfl), by first | exact HBW.out | exact below_drewN HBW.out _⟩
      · cases r3
        · go_enter Try.func32, Try.ntmps32
          go_wp2_with (go_at_call 59; (with_reducible refine fS.mono ?_); rintro e wq ⟨rfl, q0, rfl⟩)
          go_ret
          exact ⟨by rw [HR.out]; first | rfl | (cases r5 <;> rfl) | (cases r6 <;> rfl) | (cases r5 <;> cases r6 <;> rfl), by first | exact HBW.out | exact below_drewN HBW.out _⟩
        · cases r4
          · go_enter Try.func32, Try.ntmps32
            go_wp2_with (go_at_call 59; (with_reducible refine fS.mono ?_); rintro e wq ⟨rfl, q0, rfl⟩)
            go_ret
            exact ⟨by rw [HR.out]; first | rfl | (cases r5 <;> rfl) | (cases r6 <;> rfl) | (cases r5 <;> cases r6 <;> rfl), by first | exact HBW.out | exact below_drewN HBW.out _⟩
          · by_cases hnm : n = m
            · subst hnm
              have n0 : ((n : Int) != (n : Int)) = false := by simp
              cases r6
              · go_enter Try.func32, Try.ntmps32
                go_wp2_with (go_at_call 59; (with_reducible refine fS.mono ?_); rintro e wq ⟨rfl, q0, rfl⟩)
                go_ret
                exact ⟨by rw [HR.out]; first | rfl | (cases r5 <;> rfl) | (cases r6 <;> rfl) | (cases r5 <;> cases r6 <;> rfl), by first | exact HBW.out | exact below_drewN HBW.out _⟩
              · go_enter Try.func32, Try.ntmps32
                go_wp2_with (go_at_call 59; (with_reducible refine fS.mono ?_); rintro e wq ⟨rfl, q0, rfl⟩)
                go_loopw [5] (fun i wr => ∃ j : Nat, j ≤ n ∧ i = .int .i64 j ∧ Hid (ats.take j = bts.take j) ∧ ∃ q, wr = ((w.alloc (.cells #[.int .i64 p, .int .i64 k, .string s, .string nm, .slice a n c, .slice a' n' c', .string t] 44)).alloc (.cells #[.int .i64 p2, .int .i64 k2, .string s2, .string nm2, .slice b n d, .slice b' m' d', .string t2] 44)).drewN q) (fun i _ => n - (intOf i).toNat)
                case atStart => exact ⟨0, Nat.zero_le _, rfl, Lib.hid rfl, q0, rfl⟩
                case round =>
                  obtain ⟨j, hj, rfl, hp, q, rfl⟩ := hrel
                  by_cases hlt : j < n
                  · obtain ⟨x, hx⟩ : ∃ x, ats[j]? = some x := ⟨_, List.getElem?_eq_getElem (by rw [← HN.out]; exact hlt)⟩
                    obtain ⟨y, hy⟩ : ∃ y, bts[j]? = some y := ⟨_, List.getElem?_eq_getElem (by rw [← HM.out]; exact hlt)⟩
                    obtain ⟨g, off, rfl, hb, cx0, cx1, cx2, _⟩ := HX.out.at j x hx
                    obtain ⟨g', off', rfl, hb', cy0, cy1, cy2, _⟩ := HY.out.at j y hy
                    obtain ⟨x0, x1, x2⟩ := x
                    obtain ⟨y0, y1, y2⟩ := y
                    dsimp only at cx0 cx1 cx2 cy0 cy1 cy2
                    have hkI : (0 : Int) ≤ (j : Int) := by omega
                    have hkI2 : (j : Int) < (n : Int) := by omega
                    have HXK := Lib.hid hx
                    have HYK := Lib.hid hy
                    clear hx hy
                    by_cases hxy : (⟨x0, x1, x2⟩ : At3) = ⟨y0, y1, y2⟩
                    · obtain ⟨rfl, rfl, rfl⟩ : x0 = y0 ∧ x1 = y1 ∧ x2 = y2 := by cases hxy; exact ⟨rfl, rfl, rfl⟩
                      have hst := Lib.hid (show ats.take (j + 1) = bts.take (j + 1) from by rw [List.take_add_one, List.take_add_one, HXK.out, HYK.out, hp.out])
                      clear hp hxy
                      have q0 : (x0.toList == x0.toList) = true := by simp
                      have q1 : (x1.toList == x1.toList) = true := by simp
                      have q2 : (x2.toList == x2.toList) = true := by simp
                      go_wp2
                      go_region
                      go_wp2
                      go_roundw
                      case rel => exact ⟨j + 1, by omega, by go_num, hst, q + 1, rfl⟩
                      case measure => simp [intOf]; omega
                    · have hres := Lib.hid (show r5 = false from by
                        rw [← H5.out]
                        exact decide_eq_false (fun e => hxy (by
                          have h1 := HXK.out
                          rw [e, HYK.out] at h1
                          exact (Option.some.inj h1).symm)))
                      clear hp
                      have hne : (¬ x0.toList = y0.toList) ∨ (x0.toList = y0.toList ∧ ¬ x1.toList = y1.toList) ∨ (x0.toList = y0.toList ∧ x1.toList = y1.toList ∧ ¬ x2.toList = y2.toList) := by
                        by_cases e0 : x0.toList = y0.toList
                        · by_cases e1 : x1.toList = y1.toList
                          · by_cases e2 : x2.toList = y2.toList
                            · exact absurd (by rw [toList_inj e0, toList_inj e1, toList_inj e2]) hxy
                            · exact .inr (.inr ⟨e0, e1, e2⟩)
                          · exact .inr (.inl ⟨e0, e1⟩)
                        · exact .inl e0
                      clear hxy
                      rcases hne with e0 | ⟨e0, e1⟩ | ⟨e0, e1, e2⟩
                      all_goals
                        go_wp2
                        go_region
                        all_goals
                          go_wp2
                          go_ret
                          exact ⟨by rw [HR.out, hres.out]; rfl, below_drewN HBW.out _⟩
                  · have hres := Lib.hid (show r5 = true from by
                      rw [← H5.out]
                      exact decide_eq_true (by
                        have := hp.out
                        rwa [List.take_of_length_le (by rw [← HN.out]; omega), List.take_of_length_le (by rw [← HM.out]; omega)] at this))
                    have hkI : ¬ (j : Int) < (n : Int) := by omega
                    clear hp
                    go_wp2
                    go_ret
                    exact ⟨by rw [HR.out, hres.out]; rfl, below_drewN HBW.out _⟩
            · have n0 : ((n : Int) != (m : Int)) = true := by rw [bne, show ((n : Int) == (m : Int)) = false from beq_eq_false_iff_ne.2 (by omega)]; rfl
              go_enter Try.func32, Try.ntmps32
              go_wp2_with (go_at_call 59; (with_reducible refine fS.mono ?_); rintro e wq ⟨rfl, q0, rfl⟩)
              go_ret
              exact ⟨by rw [HR.out, HL.out hnm]; first | rfl | (cases r5 <;> rfl) | (cases r6 <;> rfl) | (cases r5 <;> cases r6 <;> rfl), by first | exact HBW.out | exact below_drewN HBW.out _⟩
end

section
open Go.RowKit
set_option linter.unusedVariables false
set_option linter.unusedSimpArgs false

set_option maxRecDepth 100000 in
set_option maxHeartbeats 4000000 in
theorem rsame_any (xs ys : List Nd) (a a' : Option Addr) (n n' c c' : Nat) (w : World) (hx : RdN (· < w.heap.size) w a n c xs) (hy : RdN (· < w.heap.size) w a' n' c' ys) :
    Calls Try.prog 10 #[.slice a n c, .slice a' n' c'] w (Told (.bool (decide (xs = ys))) w) := by
  have hm : n ≤ 9223372036854775807 := by have := hx.2.1; have := hx.2.2.1; unfold maxLen at this; omega
  have hm' : n' ≤ 9223372036854775807 := by have := hy.2.1; have := hy.2.2.1; unfold maxLen at this; omega
  have HN := Lib.hid hx.1
  have HN' := Lib.hid hy.1
  have HX := Lib.hid hx
  have HY := Lib.hid hy
  clear hx hy
  by_cases hl : n = n'
  · subst hl
    have n0 : ((n : Int) != (n : Int)) = false := by simp
    go_enter Try.func10, Try.ntmps10
    go_wp2_with fail
    go_loopw [5] (fun i wr => ∃ k : Nat, k ≤ n ∧ i = .int .i64 k ∧ Hid (xs.take k = ys.take k) ∧ Below w.heap.size w wr) (fun i _ => n - (intOf i).toNat)
    case atStart => exact ⟨0, Nat.zero_le _, rfl, Lib.hid rfl, Below.refl _ _⟩
    case round =>
      obtain ⟨k, hk, rfl, hp, hB⟩ := hrel
      by_cases hlt : k < n
      · obtain ⟨x, hx⟩ : ∃ x, xs[k]? = some x := ⟨_, List.getElem?_eq_getElem (by rw [← HN.out]; exact hlt)⟩
        obtain ⟨y, hy⟩ : ∃ y, ys[k]? = some y := ⟨_, List.getElem?_eq_getElem (by rw [← HN'.out]; exact hlt)⟩
        obtain ⟨g, off, rfl, hg, x0, x1, x2, x3, ⟨a1, n1, c1, x4, hA1⟩, ⟨a2, n2, c2, x5, hS1⟩, x6, _⟩ := HX.out.at k x hx
        obtain ⟨g', off', rfl, hg', y0, y1, y2, y3, ⟨b1, m1, d1, y4, hA2⟩, ⟨b2, m2, d2, y5, hS2⟩, y6, _⟩ := HY.out.at k y hy
        rw [← cell_same (hB.block g hg)] at x0 x1 x2 x3 x4 x5 x6
        rw [← cell_same (hB.block g' hg')] at y0 y1 y2 y3 y4 y5 y6
        have hkI : (0 : Int) ≤ (k : Int) := by omega
        have hkI2 : (k : Int) < (n : Int) := by omega
        have HXK := Lib.hid hx
        have HYK := Lib.hid hy
        have hbW := hB.drew
        have hmv := fun bl (hb : bl < w.heap.size) => (And.intro hb (hbW.block bl hb))
        have cS := rsameNode_any x.par x.kind y.par y.kind x.space x.name x.text y.space y.name y.text x.attrs y.attrs x.states y.states a1 a2 b1 b2 n1 n2 c1 c2 m1 m2 d1 d2 (· < w.heap.size) _ (fun b hb => Nat.lt_of_lt_of_le hb hbW.size) (hA1.move hmv) (hS1.move hmv) (hA2.move hmv) (hS2.move hmv)
        rw [show (decide ((⟨x.par, x.kind, x.space, x.name, x.attrs, x.states, x.text⟩ : Nd) = ⟨y.par, y.kind, y.space, y.name, y.attrs, y.states, y.text⟩)) = decide (x = y) from rfl] at cS
        have HBW := Lib.hid hbW
        by_cases hxy : x = y
        · have hst := Lib.hid (show xs.take (k + 1) = ys.take (k + 1) from by rw [List.take_add_one, List.take_add_one, HXK.out, HYK.out, hp.out, hxy])
          rw [decide_eq_true hxy] at cS
          clear hp hx hy hxy hA1 hS1 hA2 hS2 hmv hbW hB
          go_wp2
          go_region_with (go_at_call 32; (with_reducible refine cS.mono ?_); rintro e w3 ⟨rfl, hb3⟩)
          all_goals
            go_wp2
            go_roundw
            case rel => exact ⟨k + 1, by omega, by go_num, hst, HBW.out.trans (hb3.mono HBW.out.size)⟩
            case measure => simp [intOf]; omega
        · have hres := Lib.hid (show decide (xs = ys) = false from decide_eq_false (fun e => hxy (by
            have h1 := HXK.out
            rw [e, HYK.out] at h1
            exact (Option.some.inj h1).symm)))
          rw [decide_eq_false hxy] at cS
          clear hp hx hy hxy hA1 hS1 hA2 hS2 hmv hbW hB
          go_wp2
          go_region_with (go_at_call 32; (with_reducible refine cS.mono ?_); rintro e w3 ⟨rfl, hb3⟩)
          all_goals
            go_wp2
            go_ret
            exact ⟨by rw [hres.out]; rfl, HBW.out.trans (hb3.mono HBW.out.size)⟩
      · have hres := Lib.hid (show decide (xs = ys) = true from decide_eq_true (by
          have := hp.out
          rwa [List.take_of_length_le (by rw [← HN.out]; omega), List.take_of_length_le (by rw [← HN'.out]; omega)] at this))
        have hkI : ¬ (k : Int) < (n : Int) := by omega
        clear hp
        go_wp2
        go_ret
        exact ⟨by rw [hres.out]; rfl, hB⟩
  · have hres := Lib.hid (show decide (xs = ys) = false from decide_eq_false (fun e => hl (by rw [HN.out, HN'.out, e])))
    have n0 : ((n : Int) != (n' : Int)) = true := by rw [bne, show ((n : Int) == (n' : Int)) = false from beq_eq_false_iff_ne.2 (by omega)]; rfl
    clear hl
    go_enter Try.func10, Try.ntmps10
    go_wp2
    go_ret
    exact ⟨by rw [hres.out]; rfl, Below.refl _ _⟩
end
end Go.Proofs.Ytfgnepbpfglepaa
