/- A node is right behind some: the program's walk. Written by gendp5.py. -/
import Derived.Test.YtknggcbhfkbelaaDp4
import Derived.Test.YtknggcbhfkbelaaDm2
namespace Go.Proofs.Ytknggcbhfkbelaa
open Go.RowKit
set_option linter.unusedVariables false
set_option linter.unusedSimpArgs false

def emptyS (s : ByteArray) : Bool := decide (s.size = 0)
theorem emptyS_eq (s : ByteArray) : s.toList.isEmpty = emptyS s := by
  unfold emptyS
  rw [ByteArray.toList_eq, Bool.eq_iff_iff, List.isEmpty_iff, decide_eq_true_iff]
  exact ⟨fun h => by have := congrArg List.length h; simpa using this, fun h => List.length_eq_zero_iff.1 (by simpa using h)⟩
/-- Has a node nothing but its parent, its kind, its text? -/
def bareB (x : Nd) : Bool := decide (x = ⟨x.par, x.kind, ⟨#[]⟩, ⟨#[]⟩, [], [], x.text⟩)
def elB (x : Nd) : Bool := emptyS x.text && (rightS x.space && (nameS x.name && (attrsB x.attrs && statesB x.states)))
/-- Is a node right behind some? -/
def nodeB (ahead : List Nd) (x : Nd) : Bool := parB x.par ahead && (if x.kind = 1 then elB x else if x.kind = 2 then (!decide (x.par = -1) && (rightS x.text && bareB x)) else if x.kind = 3 then (rightS x.text && bareB x) else false)
/-- Texts and lists of a node are no more than a million. -/
def MilN (x : Nd) : Prop := x.space.size ≤ 1000000 ∧ x.name.size ≤ 1000000 ∧ x.text.size ≤ 1000000 ∧ SmS x.attrs ∧ x.attrs.length ≤ 1000000 ∧ x.states.length ≤ 1000000

set_option maxRecDepth 100000 in
set_option maxHeartbeats 4000000 in
theorem rightNode_el (x : Nd) (ats : Option Addr) (m d : Nat) (sts : Option Addr) (m' d' : Nat) (xs : List Nd) (a : Option Addr) (n c : Nat) (w : World) (hx : RdN (· < w.heap.size) w a n c xs) (hA : RdA (· < w.heap.size) w ats m d x.attrs) (hS : RdS (· < w.heap.size) w sts m' d' x.states) (hM : MilN x) (hk : x.kind = 1) :
    Calls Try.prog 45 #[.agg #[.int .i64 x.par, .int .i64 x.kind, .string x.space, .string x.name, .slice ats m d, .slice sts m' d', .string x.text], .slice a n c] w (Told (.bool (parB x.par xs && elB x)) w) := by
  have hbX := (Below.refl w.heap.size w).alloc (Nat.le_refl _) (.cells #[.int .i64 x.par, .int .i64 x.kind, .string x.space, .string x.name, .slice ats m d, .slice sts m' d', .string x.text] 44)
  have B1 : Blk (w.alloc (.cells #[.int .i64 x.par, .int .i64 x.kind, .string x.space, .string x.name, .slice ats m d, .slice sts m' d', .string x.text] 44)) w.heap.size [.int .i64 x.par, .int .i64 x.kind, .string x.space, .string x.name, .slice ats m d, .slice sts m' d', .string x.text] 44 := Blk.alloc _ _
  have fP := rightParent_any x.par xs a n c (· < w.heap.size) _ (hx.move (fun b hb => ⟨hb, hbX.block b hb⟩))
  have HA := Lib.hid hA
  have HS := Lib.hid hS
  have HBX := Lib.hid hbX
  have HB1 := Lib.hid B1
  obtain ⟨hM0, hM1, hM2, hM3, hM4, hM5⟩ := hM
  have hm : m ≤ 1000000 := by rw [hA.1]; exact hM4
  have fR := fun w => isRight_any x.space w hM0
  have fN := fun w => isName_any x.name w hM1
  have fA := fun w' (hb : Below w.heap.size w w') => rightAttrs_any x.attrs ats m d w' (HA.out.later hb (Nat.le_refl _)) hM3 hm
  have fS := fun w' (hb : Below w.heap.size w w') => rightStates_any x.states sts m' d' (· < 0) (fun _ _ _ h _ => absurd h (Nat.not_lt_zero _)) w' (HS.out.later hb (Nat.le_refl _))
  have hE := emptyS_eq x.text
  unfold elB
  rw [hk] at hbX B1
  have HR : Hid (true = true) := Lib.hid rfl
  clear hx hA hS hbX B1 hM0 hM1 hM2 hM3 hM4 hM5 hm
  rw [hk]
  have HBX2 := Lib.hid (show Below w.heap.size w (w.alloc (.cells #[.int .i64 x.par, .int .i64 1, .string x.space, .string x.name, .slice ats m d, .slice sts m' d', .string x.text] 44)) from by have := HBX.out; rwa [hk] at this)
  have HB2' := Lib.hid (show Blk (w.alloc (.cells #[.int .i64 x.par, .int .i64 1, .string x.space, .string x.name, .slice ats m d, .slice sts m' d', .string x.text] 44)) w.heap.size [.int .i64 x.par, .int .i64 1, .string x.space, .string x.name, .slice ats m d, .slice sts m' d', .string x.text] 44 from by have := HB1.out; rwa [hk] at this)
  rw [hk] at fP
  clear HBX HB1 hk
  have HBX := HBX2
  have HB1 := HB2'
  clear HBX2 HB2'
  generalize parB x.par xs = r0 at *
  generalize emptyS x.text = r1 at *
  generalize rightS x.space = r2 at *
  generalize nameS x.name = r3 at *
  generalize attrsB x.attrs = r4 at *
  generalize statesB x.states = r5 at *
  generalize x.par = pp at *
  generalize x.space = sp at *
  generalize x.name = nm at *
  generalize x.text = tx at *
  cases r0
  · cases r1 <;> skip
    all_goals
      go_enter Try.func45, Try.ntmps45
      go_wp2_with (first
        | (go_at_call 57; (with_reducible refine fP.mono ?_); rintro e wq ⟨rfl, hwq⟩; replace hwq := hwq.symm; subst hwq)
        | (go_at_call 58; (with_reducible refine (fR _).mono ?_); rintro e w2 ⟨rfl, hb2⟩; have H2 := HBX.out.trans (hb2.mono HBX.out.size); have B2 := HB1.out.later hb2 HB1.out.lt; have d3 := B2.cell 3 _ rfl; have d4 := B2.cell 4 _ rfl; have d5 := B2.cell 5 _ rfl)
        | (go_at_call 59; (with_reducible refine (fN _).mono ?_); rintro e w3 ⟨rfl, hb3⟩; have H3 := H2.trans (hb3.mono H2.size); have B3 := B2.later hb3 B2.lt; have d4 := B3.cell 4 _ rfl; have d5 := B3.cell 5 _ rfl; have fA3 := fA _ H3)
        | (go_at_call 60; (with_reducible refine fA3.mono ?_); rintro e w4 ⟨rfl, hb4⟩; have H4 := H3.trans (hb4.mono H3.size); have B4 := B3.later hb4 B3.lt; have d5 := B4.cell 5 _ rfl; have fS4 := fS _ H4)
        | (go_at_call 61; (with_reducible refine fS4.mono ?_); rintro e w5 ⟨rfl, hb5⟩; have H5 := H4.trans (hb5.mono H4.size)))
      go_ret
      exact ⟨by first | rfl | (rw [HR.out]; rfl) | simp [HR.out], HBX.out⟩
  · cases r1
    ·
      go_enter Try.func45, Try.ntmps45
      go_wp2_with (first
        | (go_at_call 57; (with_reducible refine fP.mono ?_); rintro e wq ⟨rfl, hwq⟩; replace hwq := hwq.symm; subst hwq)
        | (go_at_call 58; (with_reducible refine (fR _).mono ?_); rintro e w2 ⟨rfl, hb2⟩; have H2 := HBX.out.trans (hb2.mono HBX.out.size); have B2 := HB1.out.later hb2 HB1.out.lt; have d3 := B2.cell 3 _ rfl; have d4 := B2.cell 4 _ rfl; have d5 := B2.cell 5 _ rfl)
        | (go_at_call 59; (with_reducible refine (fN _).mono ?_); rintro e w3 ⟨rfl, hb3⟩; have H3 := H2.trans (hb3.mono H2.size); have B3 := B2.later hb3 B2.lt; have d4 := B3.cell 4 _ rfl; have d5 := B3.cell 5 _ rfl; have fA3 := fA _ H3)
        | (go_at_call 60; (with_reducible refine fA3.mono ?_); rintro e w4 ⟨rfl, hb4⟩; have H4 := H3.trans (hb4.mono H3.size); have B4 := B3.later hb4 B3.lt; have d5 := B4.cell 5 _ rfl; have fS4 := fS _ H4)
        | (go_at_call 61; (with_reducible refine fS4.mono ?_); rintro e w5 ⟨rfl, hb5⟩; have H5 := H4.trans (hb5.mono H4.size)))
      go_ret
      exact ⟨by first | rfl | (rw [HR.out]; rfl) | simp [HR.out], HBX.out⟩
    · cases r2
      ·
        go_enter Try.func45, Try.ntmps45
        go_wp2_with (first
          | (go_at_call 57; (with_reducible refine fP.mono ?_); rintro e wq ⟨rfl, hwq⟩; replace hwq := hwq.symm; subst hwq)
          | (go_at_call 58; (with_reducible refine (fR _).mono ?_); rintro e w2 ⟨rfl, hb2⟩; have H2 := HBX.out.trans (hb2.mono HBX.out.size); have B2 := HB1.out.later hb2 HB1.out.lt; have d3 := B2.cell 3 _ rfl; have d4 := B2.cell 4 _ rfl; have d5 := B2.cell 5 _ rfl)
          | (go_at_call 59; (with_reducible refine (fN _).mono ?_); rintro e w3 ⟨rfl, hb3⟩; have H3 := H2.trans (hb3.mono H2.size); have B3 := B2.later hb3 B2.lt; have d4 := B3.cell 4 _ rfl; have d5 := B3.cell 5 _ rfl; have fA3 := fA _ H3)
          | (go_at_call 60; (with_reducible refine fA3.mono ?_); rintro e w4 ⟨rfl, hb4⟩; have H4 := H3.trans (hb4.mono H3.size); have B4 := B3.later hb4 B3.lt; have d5 := B4.cell 5 _ rfl; have fS4 := fS _ H4)
          | (go_at_call 61; (with_reducible refine fS4.mono ?_); rintro e w5 ⟨rfl, hb5⟩; have H5 := H4.trans (hb5.mono H4.size)))
        go_ret
        exact ⟨by first | rfl | (rw [HR.out]; rfl) | simp [HR.out], H2⟩
      · cases r3
        ·
          go_enter Try.func45, Try.ntmps45
          go_wp2_with (first
            | (go_at_call 57; (with_reducible refine fP.mono ?_); rintro e wq ⟨rfl, hwq⟩; replace hwq := hwq.symm; subst hwq)
            | (go_at_call 58; (with_reducible refine (fR _).mono ?_); rintro e w2 ⟨rfl, hb2⟩; have H2 := HBX.out.trans (hb2.mono HBX.out.size); have B2 := HB1.out.later hb2 HB1.out.lt; have d3 := B2.cell 3 _ rfl; have d4 := B2.cell 4 _ rfl; have d5 := B2.cell 5 _ rfl)
            | (go_at_call 59; (with_reducible refine (fN _).mono ?_); rintro e w3 ⟨rfl, hb3⟩; have H3 := H2.trans (hb3.mono H2.size); have B3 := B2.later hb3 B2.lt; have d4 := B3.cell 4 _ rfl; have d5 := B3.cell 5 _ rfl; have fA3 := fA _ H3)
            | (go_at_call 60; (with_reducible refine fA3.mono ?_); rintro e w4 ⟨rfl, hb4⟩; have H4 := H3.trans (hb4.mono H3.size); have B4 := B3.later hb4 B3.lt; have d5 := B4.cell 5 _ rfl; have fS4 := fS _ H4)
            | (go_at_call 61; (with_reducible refine fS4.mono ?_); rintro e w5 ⟨rfl, hb5⟩; have H5 := H4.trans (hb5.mono H4.size)))
          go_ret
          exact ⟨by first | rfl | (rw [HR.out]; rfl) | simp [HR.out], H3⟩
        · cases r4
          ·
            go_enter Try.func45, Try.ntmps45
            go_wp2_with (first
              | (go_at_call 57; (with_reducible refine fP.mono ?_); rintro e wq ⟨rfl, hwq⟩; replace hwq := hwq.symm; subst hwq)
              | (go_at_call 58; (with_reducible refine (fR _).mono ?_); rintro e w2 ⟨rfl, hb2⟩; have H2 := HBX.out.trans (hb2.mono HBX.out.size); have B2 := HB1.out.later hb2 HB1.out.lt; have d3 := B2.cell 3 _ rfl; have d4 := B2.cell 4 _ rfl; have d5 := B2.cell 5 _ rfl)
              | (go_at_call 59; (with_reducible refine (fN _).mono ?_); rintro e w3 ⟨rfl, hb3⟩; have H3 := H2.trans (hb3.mono H2.size); have B3 := B2.later hb3 B2.lt; have d4 := B3.cell 4 _ rfl; have d5 := B3.cell 5 _ rfl; have fA3 := fA _ H3)
              | (go_at_call 60; (with_reducible refine fA3.mono ?_); rintro e w4 ⟨rfl, hb4⟩; have H4 := H3.trans (hb4.mono H3.size); have B4 := B3.later hb4 B3.lt; have d5 := B4.cell 5 _ rfl; have fS4 := fS _ H4)
              | (go_at_call 61; (with_reducible refine fS4.mono ?_); rintro e w5 ⟨rfl, hb5⟩; have H5 := H4.trans (hb5.mono H4.size)))
            go_ret
            exact ⟨by first | rfl | (rw [HR.out]; rfl) | simp [HR.out], H4⟩
          ·
            go_enter Try.func45, Try.ntmps45
            go_wp2_with (first
              | (go_at_call 57; (with_reducible refine fP.mono ?_); rintro e wq ⟨rfl, hwq⟩; replace hwq := hwq.symm; subst hwq)
              | (go_at_call 58; (with_reducible refine (fR _).mono ?_); rintro e w2 ⟨rfl, hb2⟩; have H2 := HBX.out.trans (hb2.mono HBX.out.size); have B2 := HB1.out.later hb2 HB1.out.lt; have d3 := B2.cell 3 _ rfl; have d4 := B2.cell 4 _ rfl; have d5 := B2.cell 5 _ rfl)
              | (go_at_call 59; (with_reducible refine (fN _).mono ?_); rintro e w3 ⟨rfl, hb3⟩; have H3 := H2.trans (hb3.mono H2.size); have B3 := B2.later hb3 B2.lt; have d4 := B3.cell 4 _ rfl; have d5 := B3.cell 5 _ rfl; have fA3 := fA _ H3)
              | (go_at_call 60; (with_reducible refine fA3.mono ?_); rintro e w4 ⟨rfl, hb4⟩; have H4 := H3.trans (hb4.mono H3.size); have B4 := B3.later hb4 B3.lt; have d5 := B4.cell 5 _ rfl; have fS4 := fS _ H4)
              | (go_at_call 61; (with_reducible refine fS4.mono ?_); rintro e w5 ⟨rfl, hb5⟩; have H5 := H4.trans (hb5.mono H4.size)))
            go_ret
            exact ⟨by first | rfl | (rw [HR.out]; rfl) | simp [HR.out], H5⟩

set_option maxRecDepth 100000 in
set_option maxHeartbeats 4000000 in
theorem rightNode_tx (x : Nd) (ats : Option Addr) (m d : Nat) (sts : Option Addr) (m' d' : Nat) (xs : List Nd) (a : Option Addr) (n c : Nat) (w : World) (hx : RdN (· < w.heap.size) w a n c xs) (hA : RdA (· < w.heap.size) w ats m d x.attrs) (hS : RdS (· < w.heap.size) w sts m' d' x.states) (hM : MilN x) (hk : x.kind = 2) :
    Calls Try.prog 45 #[.agg #[.int .i64 x.par, .int .i64 x.kind, .string x.space, .string x.name, .slice ats m d, .slice sts m' d', .string x.text], .slice a n c] w (Told (.bool (parB x.par xs && (!decide (x.par = -1) && (rightS x.text && bareB x)))) w) := by
  have hbX := (Below.refl w.heap.size w).alloc (Nat.le_refl _) (.cells #[.int .i64 x.par, .int .i64 x.kind, .string x.space, .string x.name, .slice ats m d, .slice sts m' d', .string x.text] 44)
  have B1 : Blk (w.alloc (.cells #[.int .i64 x.par, .int .i64 x.kind, .string x.space, .string x.name, .slice ats m d, .slice sts m' d', .string x.text] 44)) w.heap.size [.int .i64 x.par, .int .i64 x.kind, .string x.space, .string x.name, .slice ats m d, .slice sts m' d', .string x.text] 44 := Blk.alloc _ _
  have fP := rightParent_any x.par xs a n c (· < w.heap.size) _ (hx.move (fun b hb => ⟨hb, hbX.block b hb⟩))
  have HA := Lib.hid hA
  have HS := Lib.hid hS
  have HBX := Lib.hid hbX
  have HB1 := Lib.hid B1
  obtain ⟨hM0, hM1, hM2, hM3, hM4, hM5⟩ := hM
  have hm : m ≤ 1000000 := by rw [hA.1]; exact hM4
  have fT := fun w => isRight_any x.text w hM2
  have fM := fun w' (hb : Below w.heap.size w w') => sameNode_any x.par x.kind x.par x.kind x.space x.name x.text ⟨#[]⟩ ⟨#[]⟩ x.text x.attrs [] x.states [] ats sts none none m m' d d' 0 0 0 0 (· < w'.heap.size) w' (fun _ h => h) (HA.out.later hb (Nat.le_refl _)) (HS.out.later hb (Nat.le_refl _)) (RdOf.nil _ _ _ _ _ (by unfold maxLen; omega) (fun _ => rfl)) (RdOf.nil _ _ _ _ _ (by unfold maxLen; omega) (fun _ => rfl))
  have hbare : decide ((⟨x.par, x.kind, x.space, x.name, x.attrs, x.states, x.text⟩ : Nd) = ⟨x.par, x.kind, ⟨#[]⟩, ⟨#[]⟩, [], [], x.text⟩) = bareB x := rfl
  rw [hbare] at fM
  have HR : Hid (true = true) := Lib.hid rfl
  clear hx hA hS hbX B1 hM0 hM1 hM2 hM3 hM4 hM5 hm hbare
  rw [hk]
  have HBX2 := Lib.hid (show Below w.heap.size w (w.alloc (.cells #[.int .i64 x.par, .int .i64 2, .string x.space, .string x.name, .slice ats m d, .slice sts m' d', .string x.text] 44)) from by have := HBX.out; rwa [hk] at this)
  have HB2' := Lib.hid (show Blk (w.alloc (.cells #[.int .i64 x.par, .int .i64 2, .string x.space, .string x.name, .slice ats m d, .slice sts m' d', .string x.text] 44)) w.heap.size [.int .i64 x.par, .int .i64 2, .string x.space, .string x.name, .slice ats m d, .slice sts m' d', .string x.text] 44 from by have := HB1.out; rwa [hk] at this)
  rw [hk] at fP fM
  clear HBX HB1 hk
  have HBX := HBX2
  have HB1 := HB2'
  clear HBX2 HB2'
  generalize parB x.par xs = r0 at *
  generalize rightS x.text = r2 at *
  generalize bareB x = r3 at *
  have q1 : (x.par == -1) = decide (x.par = -1) := rfl
  generalize decide (x.par = -1) = r1 at *
  generalize x.par = pp at *
  generalize x.space = sp at *
  generalize x.name = nm at *
  generalize x.text = tx at *
  cases r0
  ·
    go_enter Try.func45, Try.ntmps45
    go_wp2_with (first
      | (go_at_call 57; (with_reducible refine fP.mono ?_); rintro e wq ⟨rfl, hwq⟩; replace hwq := hwq.symm; subst hwq)
      | (go_at_call 58; (with_reducible refine (fT _).mono ?_); rintro e w2 ⟨rfl, hb2⟩; have H2 := HBX.out.trans (hb2.mono HBX.out.size); have B2 := HB1.out.later hb2 HB1.out.lt; have d0 := B2.cell 0 _ rfl; have d1 := B2.cell 1 _ rfl; have d2 := B2.cell 2 _ rfl; have d3 := B2.cell 3 _ rfl; have d4 := B2.cell 4 _ rfl; have d5 := B2.cell 5 _ rfl; have d6 := B2.cell 6 _ rfl; have fM2 := fM _ H2)
      | (go_at_call 24; (with_reducible refine fM2.mono ?_); rintro e w3 ⟨rfl, hb3⟩; have H3 := H2.trans (hb3.mono H2.size)))
    go_ret
    exact ⟨by first | rfl | (rw [HR.out]; rfl) | simp [HR.out], HBX.out⟩
  · cases r1
    · cases r2
      ·
        go_enter Try.func45, Try.ntmps45
        go_wp2_with (first
          | (go_at_call 57; (with_reducible refine fP.mono ?_); rintro e wq ⟨rfl, hwq⟩; replace hwq := hwq.symm; subst hwq)
          | (go_at_call 58; (with_reducible refine (fT _).mono ?_); rintro e w2 ⟨rfl, hb2⟩; have H2 := HBX.out.trans (hb2.mono HBX.out.size); have B2 := HB1.out.later hb2 HB1.out.lt; have d0 := B2.cell 0 _ rfl; have d1 := B2.cell 1 _ rfl; have d2 := B2.cell 2 _ rfl; have d3 := B2.cell 3 _ rfl; have d4 := B2.cell 4 _ rfl; have d5 := B2.cell 5 _ rfl; have d6 := B2.cell 6 _ rfl; have fM2 := fM _ H2)
          | (go_at_call 24; (with_reducible refine fM2.mono ?_); rintro e w3 ⟨rfl, hb3⟩; have H3 := H2.trans (hb3.mono H2.size)))
        go_ret
        exact ⟨by first | rfl | (rw [HR.out]; rfl) | simp [HR.out], H2⟩
      ·
        go_enter Try.func45, Try.ntmps45
        go_wp2_with (first
          | (go_at_call 57; (with_reducible refine fP.mono ?_); rintro e wq ⟨rfl, hwq⟩; replace hwq := hwq.symm; subst hwq)
          | (go_at_call 58; (with_reducible refine (fT _).mono ?_); rintro e w2 ⟨rfl, hb2⟩; have H2 := HBX.out.trans (hb2.mono HBX.out.size); have B2 := HB1.out.later hb2 HB1.out.lt; have d0 := B2.cell 0 _ rfl; have d1 := B2.cell 1 _ rfl; have d2 := B2.cell 2 _ rfl; have d3 := B2.cell 3 _ rfl; have d4 := B2.cell 4 _ rfl; have d5 := B2.cell 5 _ rfl; have d6 := B2.cell 6 _ rfl; have fM2 := fM _ H2)
          | (go_at_call 24; (with_reducible refine fM2.mono ?_); rintro e w3 ⟨rfl, hb3⟩; have H3 := H2.trans (hb3.mono H2.size)))
        go_ret
        exact ⟨by first | rfl | (rw [HR.out]; rfl) | simp [HR.out], H3⟩
    ·
      go_enter Try.func45, Try.ntmps45
      go_wp2_with (first
        | (go_at_call 57; (with_reducible refine fP.mono ?_); rintro e wq ⟨rfl, hwq⟩; replace hwq := hwq.symm; subst hwq)
        | (go_at_call 58; (with_reducible refine (fT _).mono ?_); rintro e w2 ⟨rfl, hb2⟩; have H2 := HBX.out.trans (hb2.mono HBX.out.size); have B2 := HB1.out.later hb2 HB1.out.lt; have d0 := B2.cell 0 _ rfl; have d1 := B2.cell 1 _ rfl; have d2 := B2.cell 2 _ rfl; have d3 := B2.cell 3 _ rfl; have d4 := B2.cell 4 _ rfl; have d5 := B2.cell 5 _ rfl; have d6 := B2.cell 6 _ rfl; have fM2 := fM _ H2)
        | (go_at_call 24; (with_reducible refine fM2.mono ?_); rintro e w3 ⟨rfl, hb3⟩; have H3 := H2.trans (hb3.mono H2.size)))
      go_ret
      exact ⟨by first | rfl | (rw [HR.out]; rfl) | simp [HR.out], HBX.out⟩

set_option maxRecDepth 100000 in
set_option maxHeartbeats 4000000 in
theorem rightNode_cm (x : Nd) (ats : Option Addr) (m d : Nat) (sts : Option Addr) (m' d' : Nat) (xs : List Nd) (a : Option Addr) (n c : Nat) (w : World) (hx : RdN (· < w.heap.size) w a n c xs) (hA : RdA (· < w.heap.size) w ats m d x.attrs) (hS : RdS (· < w.heap.size) w sts m' d' x.states) (hM : MilN x) (hk : x.kind = 3) :
    Calls Try.prog 45 #[.agg #[.int .i64 x.par, .int .i64 x.kind, .string x.space, .string x.name, .slice ats m d, .slice sts m' d', .string x.text], .slice a n c] w (Told (.bool (parB x.par xs && (rightS x.text && bareB x))) w) := by
  have hbX := (Below.refl w.heap.size w).alloc (Nat.le_refl _) (.cells #[.int .i64 x.par, .int .i64 x.kind, .string x.space, .string x.name, .slice ats m d, .slice sts m' d', .string x.text] 44)
  have B1 : Blk (w.alloc (.cells #[.int .i64 x.par, .int .i64 x.kind, .string x.space, .string x.name, .slice ats m d, .slice sts m' d', .string x.text] 44)) w.heap.size [.int .i64 x.par, .int .i64 x.kind, .string x.space, .string x.name, .slice ats m d, .slice sts m' d', .string x.text] 44 := Blk.alloc _ _
  have fP := rightParent_any x.par xs a n c (· < w.heap.size) _ (hx.move (fun b hb => ⟨hb, hbX.block b hb⟩))
  have HA := Lib.hid hA
  have HS := Lib.hid hS
  have HBX := Lib.hid hbX
  have HB1 := Lib.hid B1
  obtain ⟨hM0, hM1, hM2, hM3, hM4, hM5⟩ := hM
  have hm : m ≤ 1000000 := by rw [hA.1]; exact hM4
  have fT := fun w => isRight_any x.text w hM2
  have fM := fun w' (hb : Below w.heap.size w w') => sameNode_any x.par x.kind x.par x.kind x.space x.name x.text ⟨#[]⟩ ⟨#[]⟩ x.text x.attrs [] x.states [] ats sts none none m m' d d' 0 0 0 0 (· < w'.heap.size) w' (fun _ h => h) (HA.out.later hb (Nat.le_refl _)) (HS.out.later hb (Nat.le_refl _)) (RdOf.nil _ _ _ _ _ (by unfold maxLen; omega) (fun _ => rfl)) (RdOf.nil _ _ _ _ _ (by unfold maxLen; omega) (fun _ => rfl))
  have hbare : decide ((⟨x.par, x.kind, x.space, x.name, x.attrs, x.states, x.text⟩ : Nd) = ⟨x.par, x.kind, ⟨#[]⟩, ⟨#[]⟩, [], [], x.text⟩) = bareB x := rfl
  rw [hbare] at fM
  have HR : Hid (true = true) := Lib.hid rfl
  clear hx hA hS hbX B1 hM0 hM1 hM2 hM3 hM4 hM5 hm hbare
  rw [hk]
  have HBX2 := Lib.hid (show Below w.heap.size w (w.alloc (.cells #[.int .i64 x.par, .int .i64 3, .string x.space, .string x.name, .slice ats m d, .slice sts m' d', .string x.text] 44)) from by have := HBX.out; rwa [hk] at this)
  have HB2' := Lib.hid (show Blk (w.alloc (.cells #[.int .i64 x.par, .int .i64 3, .string x.space, .string x.name, .slice ats m d, .slice sts m' d', .string x.text] 44)) w.heap.size [.int .i64 x.par, .int .i64 3, .string x.space, .string x.name, .slice ats m d, .slice sts m' d', .string x.text] 44 from by have := HB1.out; rwa [hk] at this)
  rw [hk] at fP fM
  clear HBX HB1 hk
  have HBX := HBX2
  have HB1 := HB2'
  clear HBX2 HB2'
  generalize parB x.par xs = r0 at *
  generalize rightS x.text = r2 at *
  generalize bareB x = r3 at *
  have q1 : (x.par == -1) = decide (x.par = -1) := rfl
  generalize x.par = pp at *
  generalize x.space = sp at *
  generalize x.name = nm at *
  generalize x.text = tx at *
  cases r0
  ·
    go_enter Try.func45, Try.ntmps45
    go_wp2_with (first
      | (go_at_call 57; (with_reducible refine fP.mono ?_); rintro e wq ⟨rfl, hwq⟩; replace hwq := hwq.symm; subst hwq)
      | (go_at_call 58; (with_reducible refine (fT _).mono ?_); rintro e w2 ⟨rfl, hb2⟩; have H2 := HBX.out.trans (hb2.mono HBX.out.size); have B2 := HB1.out.later hb2 HB1.out.lt; have d0 := B2.cell 0 _ rfl; have d1 := B2.cell 1 _ rfl; have d2 := B2.cell 2 _ rfl; have d3 := B2.cell 3 _ rfl; have d4 := B2.cell 4 _ rfl; have d5 := B2.cell 5 _ rfl; have d6 := B2.cell 6 _ rfl; have fM2 := fM _ H2)
      | (go_at_call 24; (with_reducible refine fM2.mono ?_); rintro e w3 ⟨rfl, hb3⟩; have H3 := H2.trans (hb3.mono H2.size)))
    go_ret
    exact ⟨by first | rfl | (rw [HR.out]; rfl) | simp [HR.out], HBX.out⟩
  · cases r2
    ·
      go_enter Try.func45, Try.ntmps45
      go_wp2_with (first
        | (go_at_call 57; (with_reducible refine fP.mono ?_); rintro e wq ⟨rfl, hwq⟩; replace hwq := hwq.symm; subst hwq)
        | (go_at_call 58; (with_reducible refine (fT _).mono ?_); rintro e w2 ⟨rfl, hb2⟩; have H2 := HBX.out.trans (hb2.mono HBX.out.size); have B2 := HB1.out.later hb2 HB1.out.lt; have d0 := B2.cell 0 _ rfl; have d1 := B2.cell 1 _ rfl; have d2 := B2.cell 2 _ rfl; have d3 := B2.cell 3 _ rfl; have d4 := B2.cell 4 _ rfl; have d5 := B2.cell 5 _ rfl; have d6 := B2.cell 6 _ rfl; have fM2 := fM _ H2)
        | (go_at_call 24; (with_reducible refine fM2.mono ?_); rintro e w3 ⟨rfl, hb3⟩; have H3 := H2.trans (hb3.mono H2.size)))
      go_ret
      exact ⟨by first | rfl | (rw [HR.out]; rfl) | simp [HR.out], H2⟩
    ·
      go_enter Try.func45, Try.ntmps45
      go_wp2_with (first
        | (go_at_call 57; (with_reducible refine fP.mono ?_); rintro e wq ⟨rfl, hwq⟩; replace hwq := hwq.symm; subst hwq)
        | (go_at_call 58; (with_reducible refine (fT _).mono ?_); rintro e w2 ⟨rfl, hb2⟩; have H2 := HBX.out.trans (hb2.mono HBX.out.size); have B2 := HB1.out.later hb2 HB1.out.lt; have d0 := B2.cell 0 _ rfl; have d1 := B2.cell 1 _ rfl; have d2 := B2.cell 2 _ rfl; have d3 := B2.cell 3 _ rfl; have d4 := B2.cell 4 _ rfl; have d5 := B2.cell 5 _ rfl; have d6 := B2.cell 6 _ rfl; have fM2 := fM _ H2)
        | (go_at_call 24; (with_reducible refine fM2.mono ?_); rintro e w3 ⟨rfl, hb3⟩; have H3 := H2.trans (hb3.mono H2.size)))
      go_ret
      exact ⟨by first | rfl | (rw [HR.out]; rfl) | simp [HR.out], H3⟩

set_option maxRecDepth 100000 in
set_option maxHeartbeats 4000000 in
theorem rightNode_no (x : Nd) (ats : Option Addr) (m d : Nat) (sts : Option Addr) (m' d' : Nat) (xs : List Nd) (a : Option Addr) (n c : Nat) (w : World) (hx : RdN (· < w.heap.size) w a n c xs) (hA : RdA (· < w.heap.size) w ats m d x.attrs) (hS : RdS (· < w.heap.size) w sts m' d' x.states) (hM : MilN x) (hk1 : x.kind ≠ 1) (hk2 : x.kind ≠ 2) (hk3 : x.kind ≠ 3) :
    Calls Try.prog 45 #[.agg #[.int .i64 x.par, .int .i64 x.kind, .string x.space, .string x.name, .slice ats m d, .slice sts m' d', .string x.text], .slice a n c] w (Told (.bool (false)) w) := by
  have hbX := (Below.refl w.heap.size w).alloc (Nat.le_refl _) (.cells #[.int .i64 x.par, .int .i64 x.kind, .string x.space, .string x.name, .slice ats m d, .slice sts m' d', .string x.text] 44)
  have B1 : Blk (w.alloc (.cells #[.int .i64 x.par, .int .i64 x.kind, .string x.space, .string x.name, .slice ats m d, .slice sts m' d', .string x.text] 44)) w.heap.size [.int .i64 x.par, .int .i64 x.kind, .string x.space, .string x.name, .slice ats m d, .slice sts m' d', .string x.text] 44 := Blk.alloc _ _
  have fP := rightParent_any x.par xs a n c (· < w.heap.size) _ (hx.move (fun b hb => ⟨hb, hbX.block b hb⟩))
  have HA := Lib.hid hA
  have HS := Lib.hid hS
  have HBX := Lib.hid hbX
  have HB1 := Lib.hid B1
  obtain ⟨hM0, hM1, hM2, hM3, hM4, hM5⟩ := hM
  have hm : m ≤ 1000000 := by rw [hA.1]; exact hM4
  have HR : Hid (true = true) := Lib.hid rfl
  have q1 : (x.kind == 1) = false := beq_eq_false_iff_ne.2 hk1
  have q2 : (x.kind == 2) = false := beq_eq_false_iff_ne.2 hk2
  have q3 : (x.kind == 3) = false := beq_eq_false_iff_ne.2 hk3
  clear hx hA hS hbX hM0 hM1 hM2 hM3 hM4 hM5 hm hk1 hk2 hk3
  have d1 := B1.cell 1 _ rfl
  generalize parB x.par xs = r0 at *
  generalize x.par = pp at *
  generalize x.kind = kk at *
  clear B1
  cases r0
  ·
    go_enter Try.func45, Try.ntmps45
    go_wp2_with (first
      | (go_at_call 57; (with_reducible refine fP.mono ?_); rintro e wq ⟨rfl, hwq⟩; replace hwq := hwq.symm; subst hwq)
      | (go_at_call 58; (with_reducible refine (fT _).mono ?_); rintro e w2 ⟨rfl, hb2⟩; have H2 := HBX.out.trans (hb2.mono HBX.out.size); have B2 := HB1.out.later hb2 HB1.out.lt; have d0 := B2.cell 0 _ rfl; have d1 := B2.cell 1 _ rfl; have d2 := B2.cell 2 _ rfl; have d3 := B2.cell 3 _ rfl; have d4 := B2.cell 4 _ rfl; have d5 := B2.cell 5 _ rfl; have d6 := B2.cell 6 _ rfl; have fM2 := fM _ H2)
      | (go_at_call 24; (with_reducible refine fM2.mono ?_); rintro e w3 ⟨rfl, hb3⟩; have H3 := H2.trans (hb3.mono H2.size)))
    go_ret
    exact ⟨by first | rfl | (rw [HR.out]; rfl) | simp [HR.out], HBX.out⟩
  ·
    go_enter Try.func45, Try.ntmps45
    go_wp2_with (first
      | (go_at_call 57; (with_reducible refine fP.mono ?_); rintro e wq ⟨rfl, hwq⟩; replace hwq := hwq.symm; subst hwq)
      | (go_at_call 58; (with_reducible refine (fT _).mono ?_); rintro e w2 ⟨rfl, hb2⟩; have H2 := HBX.out.trans (hb2.mono HBX.out.size); have B2 := HB1.out.later hb2 HB1.out.lt; have d0 := B2.cell 0 _ rfl; have d1 := B2.cell 1 _ rfl; have d2 := B2.cell 2 _ rfl; have d3 := B2.cell 3 _ rfl; have d4 := B2.cell 4 _ rfl; have d5 := B2.cell 5 _ rfl; have d6 := B2.cell 6 _ rfl; have fM2 := fM _ H2)
      | (go_at_call 24; (with_reducible refine fM2.mono ?_); rintro e w3 ⟨rfl, hb3⟩; have H3 := H2.trans (hb3.mono H2.size)))
    go_ret
    exact ⟨by first | rfl | (rw [HR.out]; rfl) | simp [HR.out], HBX.out⟩

theorem rightNode_any (x : Nd) (ats : Option Addr) (m d : Nat) (sts : Option Addr) (m' d' : Nat) (xs : List Nd) (a : Option Addr) (n c : Nat) (w : World) (hx : RdN (· < w.heap.size) w a n c xs) (hA : RdA (· < w.heap.size) w ats m d x.attrs) (hS : RdS (· < w.heap.size) w sts m' d' x.states) (hM : MilN x) :
    Calls Try.prog 45 #[.agg #[.int .i64 x.par, .int .i64 x.kind, .string x.space, .string x.name, .slice ats m d, .slice sts m' d', .string x.text], .slice a n c] w (Told (.bool (nodeB xs x)) w) := by
  unfold nodeB
  by_cases h1 : x.kind = 1
  · rw [if_pos h1]; exact rightNode_el x ats m d sts m' d' xs a n c w hx hA hS hM h1
  rw [if_neg h1]
  by_cases h2 : x.kind = 2
  · rw [if_pos h2]; exact rightNode_tx x ats m d sts m' d' xs a n c w hx hA hS hM h2
  rw [if_neg h2]
  by_cases h3 : x.kind = 3
  · rw [if_pos h3]; exact rightNode_cm x ats m d sts m' d' xs a n c w hx hA hS hM h3
  rw [if_neg h3, Bool.and_false]
  exact rightNode_no x ats m d sts m' d' xs a n c w hx hA hS hM h1 h2 h3
end Go.Proofs.Ytknggcbhfkbelaa
