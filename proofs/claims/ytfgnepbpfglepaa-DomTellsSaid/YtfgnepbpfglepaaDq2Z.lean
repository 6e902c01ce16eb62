/- A node is right behind some: the document's side, of texts, comments, and what is neither: walks. Written by gendq2.py. -/
import Derived.Test.YtfgnepbpfglepaaDq1Z
namespace Go.Proofs.Ytfgnepbpfglepaa
open Go.RowKit
set_option linter.unusedVariables false
set_option linter.unusedSimpArgs false

theorem emptyS_iff (s : ByteArray) : emptyS s = true ↔ s = ⟨#[]⟩ := by
  unfold emptyS
  rw [decide_eq_true_iff]
  constructor
  · intro h
    cases s with
    | mk d =>
      have : d = #[] := Array.eq_empty_of_size_eq_zero h
      rw [this]
  · intro h; rw [h]; rfl
theorem bareB_eq (x : Nd) : bareB x = (emptyS x.space && (emptyS x.name && (decide (x.attrs = []) && decide (x.states = [])))) := by
  unfold bareB
  rw [Bool.eq_iff_iff]
  simp only [Bool.and_eq_true, decide_eq_true_iff, emptyS_iff]
  cases x
  simp
theorem len_nil {α : Type} [DecidableEq α] (l : List α) (n : Nat) (h : n = l.length) : decide (l = []) = decide (n = 0) := by
  rw [decide_eq_decide, h]
  exact List.length_eq_zero_iff.symm

set_option maxRecDepth 100000 in
set_option maxHeartbeats 4000000 in
theorem rnode_tx (x : Nd) (ats : Option Addr) (m d : Nat) (sts : Option Addr) (m' d' : Nat) (xs : List Nd) (a : Option Addr) (n c : Nat) (w : World) (hx : RdN (· < w.heap.size) w a n c xs) (hm : m = x.attrs.length) (hm' : m' = x.states.length) (hz : x.text.size ≤ 140737488351232) (hp : parB x.par xs = true) (hk : x.kind = 2) :
    Calls Try.prog 20 #[.slice a n c, .agg #[.int .i64 x.par, .int .i64 x.kind, .string x.space, .string x.name, .slice ats m d, .slice sts m' d', .string x.text]] w (Told (.bool (!decide (x.par = -1) && (rightS x.text && bareB x))) w) := by
  have hml : n ≤ 9223372036854775807 := by have := hx.2.1; have := hx.2.2.1.1; unfold maxLen at this; omega
  have hpc := par_cases x.par xs a n c w hx
  have fR := fun w => rright_any x.text w hz
  have hE1 := emptyS_eq x.space
  have hE2 := emptyS_eq x.name
  rw [bareB_eq, len_nil x.attrs m hm, len_nil x.states m' hm', hk]
  clear hx hm hm' hz hk
  generalize x.space = sp at *
  generalize x.name = nm at *
  generalize x.text = tx at *
  rcases hpc with ⟨h, _⟩ | ⟨_, hpc⟩
  · rw [hp] at h; cases h
  clear hp
  have H := fun p : Int => Lib.hid ((Below.refl w.heap.size w).alloc (Nat.le_refl _) (.cells #[.int .i64 p, .int .i64 2, .string sp, .string nm, .slice ats m d, .slice sts m' d', .string tx] 44))
  have HB := fun p : Int => Lib.hid (show Blk (w.alloc (.cells #[.int .i64 p, .int .i64 2, .string sp, .string nm, .slice ats m d, .slice sts m' d', .string tx] 44)) w.heap.size [.int .i64 p, .int .i64 2, .string sp, .string nm, .slice ats m d, .slice sts m' d', .string tx] 44 from Blk.alloc _ _)
  generalize emptyS sp = r1 at *
  generalize emptyS nm = r2 at *
  generalize rightS tx = r3 at *
  rcases hpc with hpp | ⟨k, b, off, hpp, hk, rfl, hb, hc⟩
  · have HBX := H (-1)
    have HB1 := HB (-1)
    clear H HB
    rw [hpp]
    have h4 : ¬ (n : Int) ≤ -1 := by omega
    rw [decide_eq_true (rfl : (-1 : Int) = -1)]
    clear hpp
    cases r1
    ·
      go_enter Try.func20, Try.ntmps20
      go_wp2_with fail
      go_ret
      exact ⟨by first | rfl | (cases r3 <;> rfl) | (cases r2 <;> cases r3 <;> rfl) | simp, HBX.out⟩
    cases r2
    ·
      go_enter Try.func20, Try.ntmps20
      go_wp2_with fail
      go_ret
      exact ⟨by first | rfl | (cases r3 <;> rfl) | (cases r2 <;> cases r3 <;> rfl) | simp, HBX.out⟩
    by_cases hm0 : m = 0
    rotate_left
    · rw [decide_eq_false hm0]
      have hq : ((m : Int) == 0) = false := beq_eq_false_iff_ne.2 (by omega)
      clear hm0
      go_enter Try.func20, Try.ntmps20
      go_wp2_with fail
      go_ret
      exact ⟨by first | rfl | (cases r3 <;> rfl) | (cases r2 <;> cases r3 <;> rfl) | simp, HBX.out⟩
    subst hm0
    by_cases hm1 : m' = 0
    rotate_left
    · rw [decide_eq_false hm1]
      have hq : ((m' : Int) == 0) = false := beq_eq_false_iff_ne.2 (by omega)
      clear hm1
      go_enter Try.func20, Try.ntmps20
      go_wp2_with fail
      go_ret
      exact ⟨by first | rfl | (cases r3 <;> rfl) | (cases r2 <;> cases r3 <;> rfl) | simp, HBX.out⟩
    subst hm1
    cases r3
    ·
      go_enter Try.func20, Try.ntmps20
      go_wp2_with (go_at_call 44; (with_reducible refine (fR _).mono ?_); rintro e w2 ⟨rfl, hb2⟩; have H2 := HBX.out.trans (hb2.mono HBX.out.size); have B2 := HB1.out.later hb2 HB1.out.lt; have g0 := B2.cell 0 _ rfl; have g1 := B2.cell 1 _ rfl)
      go_ret
      exact ⟨by first | rfl | (cases r3 <;> rfl) | (cases r2 <;> cases r3 <;> rfl) | simp, H2⟩
    ·
      go_enter Try.func20, Try.ntmps20
      go_wp2_with (go_at_call 44; (with_reducible refine (fR _).mono ?_); rintro e w2 ⟨rfl, hb2⟩; have H2 := HBX.out.trans (hb2.mono HBX.out.size); have B2 := HB1.out.later hb2 HB1.out.lt; have g0 := B2.cell 0 _ rfl; have g1 := B2.cell 1 _ rfl)
      go_ret
      exact ⟨by first | rfl | (cases r3 <;> rfl) | (cases r2 <;> cases r3 <;> rfl) | simp, H2⟩
  · have HBX := H (k : Int)
    have HB1 := HB (k : Int)
    clear H HB
    rw [hpp]
    have hc2 := (HBX.out.cell (p := ⟨b, off + k * 7 + 1, none⟩) hb).trans hc
    have h3 : ¬ (k : Int) < -1 := by omega
    have h4 : ¬ (n : Int) ≤ (k : Int) := by omega
    have h5 : (0 : Int) ≤ (k : Int) := by omega
    have h6 : (k : Int) < (n : Int) := by omega
    have h8 : decide ((k : Int) = -1) = false := decide_eq_false (by omega)
    clear hc
    rw [h8]
    clear h8
    clear hpp
    cases r1
    ·
      go_enter Try.func20, Try.ntmps20
      go_wp2_with fail
      go_ret
      exact ⟨by first | rfl | (cases r3 <;> rfl) | (cases r2 <;> cases r3 <;> rfl) | simp, HBX.out⟩
    cases r2
    ·
      go_enter Try.func20, Try.ntmps20
      go_wp2_with fail
      go_ret
      exact ⟨by first | rfl | (cases r3 <;> rfl) | (cases r2 <;> cases r3 <;> rfl) | simp, HBX.out⟩
    by_cases hm0 : m = 0
    rotate_left
    · rw [decide_eq_false hm0]
      have hq : ((m : Int) == 0) = false := beq_eq_false_iff_ne.2 (by omega)
      clear hm0
      go_enter Try.func20, Try.ntmps20
      go_wp2_with fail
      go_ret
      exact ⟨by first | rfl | (cases r3 <;> rfl) | (cases r2 <;> cases r3 <;> rfl) | simp, HBX.out⟩
    subst hm0
    by_cases hm1 : m' = 0
    rotate_left
    · rw [decide_eq_false hm1]
      have hq : ((m' : Int) == 0) = false := beq_eq_false_iff_ne.2 (by omega)
      clear hm1
      go_enter Try.func20, Try.ntmps20
      go_wp2_with fail
      go_ret
      exact ⟨by first | rfl | (cases r3 <;> rfl) | (cases r2 <;> cases r3 <;> rfl) | simp, HBX.out⟩
    subst hm1
    cases r3
    ·
      go_enter Try.func20, Try.ntmps20
      go_wp2_with (go_at_call 44; (with_reducible refine (fR _).mono ?_); rintro e w2 ⟨rfl, hb2⟩; have H2 := HBX.out.trans (hb2.mono HBX.out.size); have B2 := HB1.out.later hb2 HB1.out.lt; have g0 := B2.cell 0 _ rfl; have g1 := B2.cell 1 _ rfl)
      go_ret
      exact ⟨by first | rfl | (cases r3 <;> rfl) | (cases r2 <;> cases r3 <;> rfl) | simp, H2⟩
    ·
      go_enter Try.func20, Try.ntmps20
      go_wp2_with (go_at_call 44; (with_reducible refine (fR _).mono ?_); rintro e w2 ⟨rfl, hb2⟩; have H2 := HBX.out.trans (hb2.mono HBX.out.size); have B2 := HB1.out.later hb2 HB1.out.lt; have g0 := B2.cell 0 _ rfl; have g1 := B2.cell 1 _ rfl)
      go_ret
      exact ⟨by first | rfl | (cases r3 <;> rfl) | (cases r2 <;> cases r3 <;> rfl) | simp, H2⟩

set_option maxRecDepth 100000 in
set_option maxHeartbeats 4000000 in
theorem rnode_cm (x : Nd) (ats : Option Addr) (m d : Nat) (sts : Option Addr) (m' d' : Nat) (xs : List Nd) (a : Option Addr) (n c : Nat) (w : World) (hx : RdN (· < w.heap.size) w a n c xs) (hm : m = x.attrs.length) (hm' : m' = x.states.length) (hz : x.text.size ≤ 140737488351232) (hp : parB x.par xs = true) (hk : x.kind = 3) :
    Calls Try.prog 20 #[.slice a n c, .agg #[.int .i64 x.par, .int .i64 x.kind, .string x.space, .string x.name, .slice ats m d, .slice sts m' d', .string x.text]] w (Told (.bool (rightS x.text && bareB x)) w) := by
  have hml : n ≤ 9223372036854775807 := by have := hx.2.1; have := hx.2.2.1.1; unfold maxLen at this; omega
  have hpc := par_cases x.par xs a n c w hx
  have fR := fun w => rright_any x.text w hz
  have hE1 := emptyS_eq x.space
  have hE2 := emptyS_eq x.name
  rw [bareB_eq, len_nil x.attrs m hm, len_nil x.states m' hm', hk]
  clear hx hm hm' hz hk
  generalize x.space = sp at *
  generalize x.name = nm at *
  generalize x.text = tx at *
  rcases hpc with ⟨h, _⟩ | ⟨_, hpc⟩
  · rw [hp] at h; cases h
  clear hp
  have H := fun p : Int => Lib.hid ((Below.refl w.heap.size w).alloc (Nat.le_refl _) (.cells #[.int .i64 p, .int .i64 3, .string sp, .string nm, .slice ats m d, .slice sts m' d', .string tx] 44))
  have HB := fun p : Int => Lib.hid (show Blk (w.alloc (.cells #[.int .i64 p, .int .i64 3, .string sp, .string nm, .slice ats m d, .slice sts m' d', .string tx] 44)) w.heap.size [.int .i64 p, .int .i64 3, .string sp, .string nm, .slice ats m d, .slice sts m' d', .string tx] 44 from Blk.alloc _ _)
  generalize emptyS sp = r1 at *
  generalize emptyS nm = r2 at *
  generalize rightS tx = r3 at *
  rcases hpc with hpp | ⟨k, b, off, hpp, hk, rfl, hb, hc⟩
  · have HBX := H (-1)
    have HB1 := HB (-1)
    clear H HB
    rw [hpp]
    have h4 : ¬ (n : Int) ≤ -1 := by omega
    clear hpp
    cases r1
    ·
      go_enter Try.func20, Try.ntmps20
      go_wp2_with fail
      go_ret
      exact ⟨by first | rfl | (cases r3 <;> rfl) | (cases r2 <;> cases r3 <;> rfl) | simp, HBX.out⟩
    cases r2
    ·
      go_enter Try.func20, Try.ntmps20
      go_wp2_with fail
      go_ret
      exact ⟨by first | rfl | (cases r3 <;> rfl) | (cases r2 <;> cases r3 <;> rfl) | simp, HBX.out⟩
    by_cases hm0 : m = 0
    rotate_left
    · rw [decide_eq_false hm0]
      have hq : ((m : Int) == 0) = false := beq_eq_false_iff_ne.2 (by omega)
      clear hm0
      go_enter Try.func20, Try.ntmps20
      go_wp2_with fail
      go_ret
      exact ⟨by first | rfl | (cases r3 <;> rfl) | (cases r2 <;> cases r3 <;> rfl) | simp, HBX.out⟩
    subst hm0
    by_cases hm1 : m' = 0
    rotate_left
    · rw [decide_eq_false hm1]
      have hq : ((m' : Int) == 0) = false := beq_eq_false_iff_ne.2 (by omega)
      clear hm1
      go_enter Try.func20, Try.ntmps20
      go_wp2_with fail
      go_ret
      exact ⟨by first | rfl | (cases r3 <;> rfl) | (cases r2 <;> cases r3 <;> rfl) | simp, HBX.out⟩
    subst hm1
    cases r3
    ·
      go_enter Try.func20, Try.ntmps20
      go_wp2_with (go_at_call 44; (with_reducible refine (fR _).mono ?_); rintro e w2 ⟨rfl, hb2⟩; have H2 := HBX.out.trans (hb2.mono HBX.out.size); have B2 := HB1.out.later hb2 HB1.out.lt; have g0 := B2.cell 0 _ rfl; have g1 := B2.cell 1 _ rfl)
      go_ret
      exact ⟨by first | rfl | (cases r3 <;> rfl) | (cases r2 <;> cases r3 <;> rfl) | simp, H2⟩
    ·
      go_enter Try.func20, Try.ntmps20
      go_wp2_with (go_at_call 44; (with_reducible refine (fR _).mono ?_); rintro e w2 ⟨rfl, hb2⟩; have H2 := HBX.out.trans (hb2.mono HBX.out.size); have B2 := HB1.out.later hb2 HB1.out.lt; have g0 := B2.cell 0 _ rfl; have g1 := B2.cell 1 _ rfl)
      go_ret
      exact ⟨by first | rfl | (cases r3 <;> rfl) | (cases r2 <;> cases r3 <;> rfl) | simp, H2⟩
  · have HBX := H (k : Int)
    have HB1 := HB (k : Int)
    clear H HB
    rw [hpp]
    have hc2 := (HBX.out.cell (p := ⟨b, off + k * 7 + 1, none⟩) hb).trans hc
    have h3 : ¬ (k : Int) < -1 := by omega
    have h4 : ¬ (n : Int) ≤ (k : Int) := by omega
    have h5 : (0 : Int) ≤ (k : Int) := by omega
    have h6 : (k : Int) < (n : Int) := by omega
    have h8 : decide ((k : Int) = -1) = false := decide_eq_false (by omega)
    clear hc
    clear h8
    clear hpp
    cases r1
    ·
      go_enter Try.func20, Try.ntmps20
      go_wp2_with fail
      go_ret
      exact ⟨by first | rfl | (cases r3 <;> rfl) | (cases r2 <;> cases r3 <;> rfl) | simp, HBX.out⟩
    cases r2
    ·
      go_enter Try.func20, Try.ntmps20
      go_wp2_with fail
      go_ret
      exact ⟨by first | rfl | (cases r3 <;> rfl) | (cases r2 <;> cases r3 <;> rfl) | simp, HBX.out⟩
    by_cases hm0 : m = 0
    rotate_left
    · rw [decide_eq_false hm0]
      have hq : ((m : Int) == 0) = false := beq_eq_false_iff_ne.2 (by omega)
      clear hm0
      go_enter Try.func20, Try.ntmps20
      go_wp2_with fail
      go_ret
      exact ⟨by first | rfl | (cases r3 <;> rfl) | (cases r2 <;> cases r3 <;> rfl) | simp, HBX.out⟩
    subst hm0
    by_cases hm1 : m' = 0
    rotate_left
    · rw [decide_eq_false hm1]
      have hq : ((m' : Int) == 0) = false := beq_eq_false_iff_ne.2 (by omega)
      clear hm1
      go_enter Try.func20, Try.ntmps20
      go_wp2_with fail
      go_ret
      exact ⟨by first | rfl | (cases r3 <;> rfl) | (cases r2 <;> cases r3 <;> rfl) | simp, HBX.out⟩
    subst hm1
    cases r3
    ·
      go_enter Try.func20, Try.ntmps20
      go_wp2_with (go_at_call 44; (with_reducible refine (fR _).mono ?_); rintro e w2 ⟨rfl, hb2⟩; have H2 := HBX.out.trans (hb2.mono HBX.out.size); have B2 := HB1.out.later hb2 HB1.out.lt; have g0 := B2.cell 0 _ rfl; have g1 := B2.cell 1 _ rfl)
      go_ret
      exact ⟨by first | rfl | (cases r3 <;> rfl) | (cases r2 <;> cases r3 <;> rfl) | simp, H2⟩
    ·
      go_enter Try.func20, Try.ntmps20
      go_wp2_with (go_at_call 44; (with_reducible refine (fR _).mono ?_); rintro e w2 ⟨rfl, hb2⟩; have H2 := HBX.out.trans (hb2.mono HBX.out.size); have B2 := HB1.out.later hb2 HB1.out.lt; have g0 := B2.cell 0 _ rfl; have g1 := B2.cell 1 _ rfl)
      go_ret
      exact ⟨by first | rfl | (cases r3 <;> rfl) | (cases r2 <;> cases r3 <;> rfl) | simp, H2⟩

set_option maxRecDepth 100000 in
set_option maxHeartbeats 4000000 in
theorem rnode_no (x : Nd) (ats : Option Addr) (m d : Nat) (sts : Option Addr) (m' d' : Nat) (xs : List Nd) (a : Option Addr) (n c : Nat) (w : World) (hx : RdN (· < w.heap.size) w a n c xs) (hp : parB x.par xs = true) (hk1 : x.kind ≠ 1) (hk2 : x.kind ≠ 2) (hk3 : x.kind ≠ 3) :
    Calls Try.prog 20 #[.slice a n c, .agg #[.int .i64 x.par, .int .i64 x.kind, .string x.space, .string x.name, .slice ats m d, .slice sts m' d', .string x.text]] w (Told (.bool false) w) := by
  have hml : n ≤ 9223372036854775807 := by have := hx.2.1; have := hx.2.2.1.1; unfold maxLen at this; omega
  have hpc := par_cases x.par xs a n c w hx
  have q1 : (x.kind != 1) = true := by rw [bne, beq_eq_false_iff_ne.2 hk1]; rfl
  have q2 : (x.kind == 2) = false := beq_eq_false_iff_ne.2 hk2
  have q3 : (x.kind == 3) = false := beq_eq_false_iff_ne.2 hk3
  clear hx hk1 hk2 hk3
  rcases hpc with ⟨h, _⟩ | ⟨_, hpc⟩
  · rw [hp] at h; cases h
  clear hp
  generalize x.kind = kk at *
  have H := fun p : Int => Lib.hid ((Below.refl w.heap.size w).alloc (Nat.le_refl _) (.cells #[.int .i64 p, .int .i64 kk, .string x.space, .string x.name, .slice ats m d, .slice sts m' d', .string x.text] 44))
  rcases hpc with hpp | ⟨k, b, off, hpp, hk, rfl, hb, hc⟩
  · have HBX := H (-1)
    clear H
    rw [hpp]
    have h4 : ¬ (n : Int) ≤ -1 := by omega
    clear hpp
    go_enter Try.func20, Try.ntmps20
    go_wp2
    go_ret
    exact ⟨rfl, HBX.out⟩
  · have HBX := H (k : Int)
    clear H
    rw [hpp]
    have hc2 := (HBX.out.cell (p := ⟨b, off + k * 7 + 1, none⟩) hb).trans hc
    have h3 : ¬ (k : Int) < -1 := by omega
    have h4 : ¬ (n : Int) ≤ (k : Int) := by omega
    have h5 : (0 : Int) ≤ (k : Int) := by omega
    have h6 : (k : Int) < (n : Int) := by omega
    clear hc hpp
    go_enter Try.func20, Try.ntmps20
    go_wp2
    go_ret
    exact ⟨rfl, HBX.out⟩
end Go.Proofs.Ytfgnepbpfglepaa
