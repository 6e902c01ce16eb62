/- Texts of mine in one: Ec3. -/
import Derived.Test.YtcfhggdiccilaaaGreatQ14
namespace Go.Proofs.YtcfhggdiccilaaaGreat
section
open Go.RowKit
set_option linter.unusedVariables false
set_option linter.unusedSimpArgs false
theorem emptyE (s : ByteArray) : s.toList.isEmpty = decide (s = ⟨#[]⟩) := by
  rw [ByteArray.toList_eq, Bool.eq_iff_iff, List.isEmpty_iff, decide_eq_true_iff]
  constructor
  · intro h
    cases s with
    | mk d => have : d = #[] := by simpa using h
              rw [this]
  · intro h; rw [h]
def smallB (n : Int) : Bool := decide (-1000000 ≤ n) && decide (n ≤ 1000000)
set_option maxRecDepth 100000 in
theorem small8_any (n : Int) (w : World) : Calls Tryz.prog 92 #[.int .i64 n] w (Told (.bool (smallB n)) w) := by
  unfold smallB
  by_cases h1 : -1000000 ≤ n
  · have q1 : decide (-1000000 ≤ n) = true := decide_eq_true h1
    rw [q1, Bool.true_and]
    by_cases h2 : n ≤ 1000000
    · have q2 : decide (n ≤ 1000000) = true := decide_eq_true h2
      rw [q2]
      go_enter Tryz.func92, Tryz.ntmps92
      go_wp2
      go_ret
      exact ⟨rfl, Below.refl _ _⟩
    · have q2 : decide (n ≤ 1000000) = false := decide_eq_false h2
      rw [q2]
      go_enter Tryz.func92, Tryz.ntmps92
      go_wp2
      go_ret
      exact ⟨rfl, Below.refl _ _⟩
  · have q1 : decide (-1000000 ≤ n) = false := decide_eq_false h1
    rw [q1, Bool.false_and]
    go_enter Tryz.func92, Tryz.ntmps92
    go_wp2
    go_ret
    exact ⟨rfl, Below.refl _ _⟩
def spcB (nm : Nm) (f : Flat) : Bool := if f.ns = 3 then hasE nm.ps f.pre else decide (0 ≤ f.ns) && (decide (f.ns < 3) && decide (f.pre = ⟨#[]⟩))
set_option maxRecDepth 100000 in
set_option maxHeartbeats 2000000 in
theorem spc8_any {nm : Nm} {N : NmV} {w : World} (h : NmAt (· < w.heap.size) w N nm) (f : Flat) (a : Option Addr) (n c : Nat) :
    Calls Tryz.prog 88 #[sval f a n c, nmV nm N] w (Told (.bool (spcB nm f)) w) := by
  obtain ⟨kind, ns, pre, name, op, text, fold, mark, fa, fb⟩ := f
  have hb1 := (Below.refl w.heap.size w).alloc (Nat.le_refl _) (.cells #[.int .i64 kind, .int .i64 ns, .string pre, .string name, .int .i64 op, .string text, .bool fold, .int .i64 mark, .int .i64 fa, .int .i64 fb, .slice a n c] 118)
  have hb2 := hb1.alloc hb1.size (.cells #[.bool nm.hd, .string nm.df, .slice N.pa N.pn N.pc, .slice N.sa N.sn N.sc] 25)
  have HB2 := Lib.hid hb2
  have B1 := (Blk.alloc (w := w) [.int .i64 kind, .int .i64 ns, .string pre, .string name, .int .i64 op, .string text, .bool fold, .int .i64 mark, .int .i64 fa, .int .i64 fb, .slice a n c] 118).alloc_old (.cells #[.bool nm.hd, .string nm.df, .slice N.pa N.pn N.pc, .slice N.sa N.sn N.sc] 25)
  have B2 : Blk ((w.alloc (.cells #[.int .i64 kind, .int .i64 ns, .string pre, .string name, .int .i64 op, .string text, .bool fold, .int .i64 mark, .int .i64 fa, .int .i64 fb, .slice a n c] 118)).alloc (.cells #[.bool nm.hd, .string nm.df, .slice N.pa N.pn N.pc, .slice N.sa N.sn N.sc] 25)) (w.heap.size + 1) [.bool nm.hd, .string nm.df, .slice N.pa N.pn N.pc, .slice N.sa N.sn N.sc] 25 := by
    have hh := Blk.alloc (w := w.alloc (.cells #[.int .i64 kind, .int .i64 ns, .string pre, .string name, .int .i64 op, .string text, .bool fold, .int .i64 mark, .int .i64 fa, .int .i64 fb, .slice a n c] 118)) [.bool nm.hd, .string nm.df, .slice N.pa N.pn N.pc, .slice N.sa N.sn N.sc] 25
    rwa [show (w.alloc (.cells #[.int .i64 kind, .int .i64 ns, .string pre, .string name, .int .i64 op, .string text, .bool fold, .int .i64 mark, .int .i64 fa, .int .i64 fb, .slice a n c] 118)).heap.size = w.heap.size + 1 from by simp] at hh
  have s1 := B1.cell 1 _ rfl
  have s2 := B1.cell 2 _ rfl
  have n2 := B2.cell 2 _ rfl
  have fH := ehas_any nm.ps N.pa N.pn N.pc pre _ (· < w.heap.size) (fun b hb => Nat.lt_of_lt_of_le hb hb2.size) (RsOf.imp h.pres (fun _ h => h) (fun b o x hb hx => hx.move (hb2.block b hb)))
  unfold nmV sval
  dsimp only
  clear hb1 hb2 B1 B2 h
  by_cases h3 : ns = 3
  · subst h3
    rw [show spcB nm ⟨kind, 3, pre, name, op, text, fold, mark, fa, fb⟩ = hasE nm.ps pre from rfl]
    generalize hasE nm.ps pre = r at *
    go_enter Tryz.func88, Tryz.ntmps88
    go_wp2_with (go_at_call 52; (with_reducible refine fH.mono ?_); rintro e w2 ⟨rfl, hb3⟩)
    go_ret
    exact ⟨rfl, HB2.out.trans (hb3.mono HB2.out.size)⟩
  have q3 : (ns == 3) = false := beq_eq_false_iff_ne.2 h3
  rw [show spcB nm ⟨kind, ns, pre, name, op, text, fold, mark, fa, fb⟩ = (decide (0 ≤ ns) && (decide (ns < 3) && decide (pre = ⟨#[]⟩))) from by unfold spcB; rw [if_neg h3]]
  have he := emptyE pre
  clear fH
  by_cases h0 : 0 ≤ ns
  · have q0 : decide (0 ≤ ns) = true := decide_eq_true h0
    by_cases h1 : ns < 3
    · have q1 : decide (ns < 3) = true := decide_eq_true h1
      rw [q0, q1, Bool.true_and, Bool.true_and, ← he]
      clear he
      cases hr : pre.toList.isEmpty
      all_goals
        go_enter Tryz.func88, Tryz.ntmps88
        go_wp2
        first
          | (go_ret; exact ⟨rfl, HB2.out⟩)
          | trace_state
    · have q1 : decide (ns < 3) = false := decide_eq_false h1
      rw [q0, q1, Bool.false_and, Bool.and_false]
      go_enter Tryz.func88, Tryz.ntmps88
      go_wp2
      go_ret
      exact ⟨rfl, HB2.out⟩
  · have q0 : decide (0 ≤ ns) = false := decide_eq_false h0
    rw [q0, Bool.false_and]
    go_enter Tryz.func88, Tryz.ntmps88
    go_wp2
    go_ret
    exact ⟨rfl, HB2.out⟩
end
end Go.Proofs.YtcfhggdiccilaaaGreat
