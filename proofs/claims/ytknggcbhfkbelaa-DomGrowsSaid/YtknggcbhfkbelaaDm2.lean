/- Nodes held against one another: walks. -/
import Derived.Test.YtknggcbhfkbelaaDm1
namespace Go.Proofs.Ytknggcbhfkbelaa
open Go.RowKit
set_option linter.unusedVariables false
set_option linter.unusedSimpArgs false

theorem RdS.drewN {ok : Nat → Prop} {w : World} {a : Option Addr} {n c : Nat} {x : List ByteArray} (h : RdS ok w a n c x) (q : Nat) : RdS ok (w.drewN q) a n c x := RdS.move (w := w) (w' := w.drewN q) (fun b hb => ⟨hb, rfl⟩) h
theorem RdA.drewN {ok : Nat → Prop} {w : World} {a : Option Addr} {n c : Nat} {x : List At3} (h : RdA ok w a n c x) (q : Nat) : RdA ok (w.drewN q) a n c x := RdA.move (w := w) (w' := w.drewN q) (fun b hb => ⟨hb, rfl⟩) h
set_option maxRecDepth 100000 in
set_option maxHeartbeats 4000000 in
theorem sameNode_any (p k p2 k2 : Int) (s nm t s2 nm2 t2 : ByteArray) (ats bts : List At3) (ss us : List ByteArray) (a a' b b' : Option Addr) (n n' c c' m m' d d' : Nat) (ok : Nat → Prop) (w : World)
    (hok : ∀ b, ok b → b < w.heap.size) (hA : RdA ok w a n c ats) (hS : RdS ok w a' n' c' ss) (hB : RdA ok w b m d bts) (hU : RdS ok w b' m' d' us) :
    Calls Try.prog 24 #[.agg #[.int .i64 p, .int .i64 k, .string s, .string nm, .slice a n c, .slice a' n' c', .string t], .agg #[.int .i64 p2, .int .i64 k2, .string s2, .string nm2, .slice b m d, .slice b' m' d', .string t2]] w (Told (.bool (decide ((⟨p, k, s, nm, ats, ss, t⟩ : Nd) = ⟨p2, k2, s2, nm2, bts, us, t2⟩))) w) := by
  have hbX := (Below.refl w.heap.size w).alloc (Nat.le_refl _) (.cells [.int .i64 p, .int .i64 k, .string s, .string nm, .slice a n c, .slice a' n' c', .string t].toArray 44)
  have hbW := hbX.alloc hbX.size (.cells [.int .i64 p2, .int .i64 k2, .string s2, .string nm2, .slice b m d, .slice b' m' d', .string t2].toArray 44)
  have hmv : ∀ bl, ok bl → ok bl ∧ ((w.alloc (.cells [.int .i64 p, .int .i64 k, .string s, .string nm, .slice a n c, .slice a' n' c', .string t].toArray 44)).alloc (.cells [.int .i64 p2, .int .i64 k2, .string s2, .string nm2, .slice b m d, .slice b' m' d', .string t2].toArray 44)).heap[bl]? = w.heap[bl]? := fun bl hb => ⟨hb, hbW.block bl (hok bl hb)⟩
  have fA := eqA_any ats bts a b n m c d ok ok _ (hA.move hmv) (hB.move hmv)
  have hS2 := RdS.move hmv hS
  have hU2 := RdS.move hmv hU
  have fS := fun q => eqS_any ss us a' b' n' m' c' d' ok ok _ (hS2.drewN q) (hU2.drewN q)
  have HBW := Lib.hid hbW
  have HR : Hid (decide ((⟨p, k, s, nm, ats, ss, t⟩ : Nd) = ⟨p2, k2, s2, nm2, bts, us, t2⟩) = (decide (p = p2) && (decide (k = k2) && (decide (s = s2) && (decide (nm = nm2) && (decide (t = t2) && (decide (ats = bts) && decide (ss = us)))))))) := Lib.hid (by
    rw [Bool.eq_iff_iff]
    simp only [Bool.and_eq_true, decide_eq_true_iff, Nd.mk.injEq]
    constructor
    · rintro ⟨h0, h1, h2, h3, h4, h5, h6⟩; exact ⟨h0, h1, h2, h3, h6, h4, h5⟩
    · rintro ⟨h0, h1, h2, h3, h6, h4, h5⟩; exact ⟨h0, h1, h2, h3, h4, h5, h6⟩)
  generalize decide ((⟨p, k, s, nm, ats, ss, t⟩ : Nd) = ⟨p2, k2, s2, nm2, bts, us, t2⟩) = R at *
  have e0 : (p == p2) = decide (p = p2) := rfl
  have e1 : (k == k2) = decide (k = k2) := rfl
  have e2 := str_beq s s2
  have e3 := str_beq nm nm2
  have e4 := str_beq t t2
  clear hA hS hB hU hS2 hU2 hmv hbX hbW hok
  generalize decide (ats = bts) = r5 at *
  generalize decide (ss = us) = r6 at *
  generalize decide (p = p2) = r0 at *
  generalize decide (k = k2) = r1 at *
  generalize decide (s = s2) = r2 at *
  generalize decide (nm = nm2) = r3 at *
  generalize decide (t = t2) = r4 at *
  cases r0
  · go_enter Try.func24, Try.ntmps24
    go_wp2_with (first
          | (go_at_call 42; (with_reducible refine fA.mono ?_); rintro e wq ⟨rfl, q, rfl⟩)
          | (go_at_call 43; (with_reducible refine (fS _).mono ?_); rintro e wq ⟨rfl, q', rfl⟩))
    go_ret
    exact ⟨by rw [HR.out]; first | rfl | (cases r5 <;> rfl) | (cases r6 <;> rfl), by first | exact HBW.out | exact below_drewN HBW.out _ | exact below_drewN (below_drewN HBW.out _) _⟩
  · cases r1
    · go_enter Try.func24, Try.ntmps24
      go_wp2_with (first
            | (go_at_call 42; (with_reducible refine fA.mono ?_); rintro e wq ⟨rfl, q, rfl⟩)
            | (go_at_call 43; (with_reducible refine (fS _).mono ?_); rintro e wq ⟨rfl, q', rfl⟩))
      go_ret
      exact ⟨by rw [HR.out]; first | rfl | (cases r5 <;> rfl) | (cases r6 <;> rfl), by first | exact HBW.out | exact below_drewN HBW.out _ | exact below_drewN (below_drewN HBW.out _) _⟩
    · cases r2
      · go_enter Try.func24, Try.ntmps24
        go_wp2_with (first
              | (go_at_call 42; (with_reducible refine fA.mono ?_); rintro e wq ⟨rfl, q, rfl⟩)
              | (go_at_call 43; (with_reducible refine (fS _).mono ?_); rintro e wq ⟨rfl, q', rfl⟩))
        go_ret
        exact ⟨by rw [HR.out]; first | rfl | (cases r5 <;> rfl) | (cases r6 <;> rfl), by first | exact HBW.out | exact below_drewN HBW.out _ | exact below_drewN (below_drewN HBW.out _) _⟩
      · cases r3
        · go_enter Try.func24, Try.ntmps24
          go_wp2_with (first
                | (go_at_call 42; (with_reducible refine fA.mono ?_); rintro e wq ⟨rfl, q, rfl⟩)
                | (go_at_call 43; (with_reducible refine (fS _).mono ?_); rintro e wq ⟨rfl, q', rfl⟩))
          go_ret
          exact ⟨by rw [HR.out]; first | rfl | (cases r5 <;> rfl) | (cases r6 <;> rfl), by first | exact HBW.out | exact below_drewN HBW.out _ | exact below_drewN (below_drewN HBW.out _) _⟩
        · cases r4
          · go_enter Try.func24, Try.ntmps24
            go_wp2_with (first
                  | (go_at_call 42; (with_reducible refine fA.mono ?_); rintro e wq ⟨rfl, q, rfl⟩)
                  | (go_at_call 43; (with_reducible refine (fS _).mono ?_); rintro e wq ⟨rfl, q', rfl⟩))
            go_ret
            exact ⟨by rw [HR.out]; first | rfl | (cases r5 <;> rfl) | (cases r6 <;> rfl), by first | exact HBW.out | exact below_drewN HBW.out _ | exact below_drewN (below_drewN HBW.out _) _⟩
          · cases r5
            · go_enter Try.func24, Try.ntmps24
              go_wp2_with (first
                    | (go_at_call 42; (with_reducible refine fA.mono ?_); rintro e wq ⟨rfl, q, rfl⟩)
                    | (go_at_call 43; (with_reducible refine (fS _).mono ?_); rintro e wq ⟨rfl, q', rfl⟩))
              go_ret
              exact ⟨by rw [HR.out]; first | rfl | (cases r5 <;> rfl) | (cases r6 <;> rfl), by first | exact HBW.out | exact below_drewN HBW.out _ | exact below_drewN (below_drewN HBW.out _) _⟩
            · go_enter Try.func24, Try.ntmps24
              go_wp2_with (first
                    | (go_at_call 42; (with_reducible refine fA.mono ?_); rintro e wq ⟨rfl, q, rfl⟩)
                    | (go_at_call 43; (with_reducible refine (fS _).mono ?_); rintro e wq ⟨rfl, q', rfl⟩))
              go_ret
              exact ⟨by rw [HR.out]; first | rfl | (cases r5 <;> rfl) | (cases r6 <;> rfl), by first | exact HBW.out | exact below_drewN HBW.out _ | exact below_drewN (below_drewN HBW.out _) _⟩
end Go.Proofs.Ytknggcbhfkbelaa
