/- Several texts of mine in one. -/
import Derived.Test.YtfgnepbpfglepaaDp4
import Derived.Test.YtfgnepbpfglepaaFD
import Derived.Test.YtfgnepbpfglepaaDo7
import Derived.Deep.RegionWith
namespace Go.Proofs.Ytfgnepbpfglepaa
section
open Go.RowKit
set_option linter.unusedVariables false
set_option linter.unusedSimpArgs false

def emptyS (s : ByteArray) : Bool := decide (s.size = 0)
theorem emptyS_eq (s : ByteArray) : s.toList.isEmpty = emptyS s := by
  unfold emptyS
  rw [ByteArray.toList_eq, Bool.eq_iff_iff, List.isEmpty_iff, decide_eq_true_iff]
  exact ⟨fun h => by have := congrArg List.length h; simpa using this, fun h => List.length_eq_zero_iff.1 (by simpa using h)⟩
/-- Has a node nothing but its parent, its kind, its text? -/
def bareB (x : Nd) : Bool := decide (x = ⟨x.par, x.kind, ⟨#[]⟩, ⟨#[]⟩, [], [], x.text⟩)
def elB (x : Nd) : Bool := emptyS x.text && (rightS x.space && (nameS x.name && (attrsB x.attrs && statesB x.states)))
/-- Is a node right behind some? -/
def nodeB (ahead : List Nd) (x : Nd) : Bool := parB x.par ahead && (if x.kind = 1 then elB x else if x.kind = 2 then (!decide (x.par = -1) && (rightS x.text && bareB x)) else if x.kind = 3 then (rightS x.text && bareB x) else false)
/-- Texts and lists of a node are no more than a million. -/
def MilN (x : Nd) : Prop := x.space.size ≤ 1000000 ∧ x.name.size ≤ 1000000 ∧ x.text.size ≤ 1000000 ∧ SmS x.attrs ∧ x.attrs.length ≤ 1000000 ∧ x.states.length ≤ 1000000

set_option maxRecDepth 100000 in
set_option maxHeartbeats 4000000 in
theorem rightNode_el (x : Nd) (ats : Option Addr) (m d : Nat) (sts : Option Addr) (m' d' : Nat) (xs : List Nd) (a : Option Addr) (n c : Nat) (w : World) (hx : RdN (· < w.heap.size) w a n c xs) (hA : RdA (· < w.heap.size) w ats m d x.attrs) (hS : RdS (· < w.heap.size) w sts m' d' x.states) (hM : MilN x) (hk : x.kind = 1) :
    Calls Try.prog 60 #[.agg #[.int .i64 x.par, .int .i64 x.kind, .string x.space, .string x.name, .slice ats m d, .slice sts m' d', .string x.text], .slice a n c] w (Told (.bool (parB x.par xs && elB x)) w) := by
  have hbX := (Below.refl w.heap.size w).alloc (Nat.le_refl _) (.cells #[.int .i64 x.par, .int .i64 x.kind, .string x.space, .string x.name, .slice ats m d, .slice sts m' d', .string x.text] 44)
  have B1 : Blk (w.alloc (.cells #[.int .i64 x.par, .int .i64 x.kind, .string x.space, .string x.name, .slice ats m d, .slice sts m' d', .string x.text] 44)) w.heap.size [.int .i64 x.par, .int .i64 x.kind, .string x.space, .string x.name, .slice ats m d, .slice sts m' d', .string x.text] 44 := Blk.alloc _ _
  have fP := rightParent_any x.par xs a n c (· < w.heap.size) _ (hx.move (fun b hb => ⟨hb, hbX.block b hb⟩))
  have HA := Lib.hid hA
  have HS := Lib.hid hS
  have HBX := Lib.hid hbX
  have HB1 := Lib.hid B1
  obtain ⟨hM0, hM1, hM2, hM3, hM4, hM5⟩ := hM
  have hm : m ≤ 1000000 := by rw [hA.1]; exact hM4
  have fR := fun w => isRight_any x.space w hM0
  have fN := fun w => isName_any x.name w hM1
  have fA := fun w' (hb : Below w.heap.size w w') => rightAttrs_any x.attrs ats m d w' (HA.out.later hb (Nat.le_refl _)) hM3 hm
  have fS := fun w' (hb : Below w.heap.size w w') => rightStates_any x.states sts m' d' (· < 0) (fun _ _ _ h _ => absurd h (Nat.not_lt_zero _)) w' (HS.out.later hb (Nat.le_refl _))
  have hE := emptyS_eq x.text
  unfold elB
  rw [hk] at hbX B1
  have HR : Hid (true = true) := Lib.hid rfl
  clear hx hA hS hbX B1 hM0 hM1 hM2 hM3 hM4 hM5 hm
  rw [hk]
  have HBX2 := Lib.hid (show Below w.heap.size w (w.alloc (.cells #[.int .i64 x.par, .int .i64 1, .string x.space, .string x.name, .slice ats m d, .slice sts m' d', .string x.text] 44)) from by have := HBX.out; rwa [hk] at this)
  have HB2' := Lib.hid (show Blk (w.alloc (.cells #[.int .i64 x.par, .int .i64 1, .string x.space, .string x.name, .slice ats m d, .slice sts m' d', .string x.text] 44)) w.heap.size [.int .i64 x.par, .int .i64 1, .string x.space, .string x.name, .slice ats m d, .slice sts m' d', .string x.text] 44 from by have := HB1.out; rwa [hk] at this)
  rw [hk] at fP
  clear HBX HB1 hk
  have HBX := HBX2
  have HB1 := HB2'
  clear HBX2 HB2'
  generalize parB x.par xs = r0 at *
  generalize emptyS x.text = r1 at *
  generalize rightS x.space = r2 at *
  generalize nameS x.name = r3 at *
  generalize attrsB x.attrs = r4 at *
  generalize statesB x.states = r5 at *
  generalize x.par = pp at *
  generalize x.space = sp at *
  generalize x.name = nm at *
  generalize x.text = tx at *
  cases r0
  · cases r1 <;> skip
    all_goals
      go_enter Try.func60, Try.ntmps60
      go_wp2_with (first
        | (go_at_call 79; (with_reducible refine fP.mono ?_); rintro e wq ⟨rfl, hwq⟩; replace hwq := hwq.symm; subst hwq)
        | (go_at_call 80; (with_reducible refine (fR _).mono ?_); rintro e w2 ⟨rfl, hb2⟩; have H2 := HBX.out.trans (hb2.mono HBX.out.size); have B2 := HB1.out.later hb2 HB1.out.lt; have d3 := B2.cell 3 _ rfl; have d4 := B2.cell 4 _ rfl; have d5 := B2.cell 5 _ rfl)
        | (go_at_call 81; (with_reducible refine (fN _).mono ?_); rintro e w3 ⟨rfl, hb3⟩; have H3 := H2.trans (hb3.mono H2.size); have B3 := B2.later hb3 B2.lt; have d4 := B3.cell 4 _ rfl; have d5 := B3.cell 5 _ rfl; have fA3 := fA _ H3)
        | (go_at_call 82; (with_reducible refine fA3.mono ?_); rintro e w4 ⟨rfl, hb4⟩; have H4 := H3.trans (hb4.mono H3.size); have B4 := B3.later hb4 B3.lt; have d5 := B4.cell 5 _ rfl; have fS4 := fS _ H4)
        | (go_at_call 83; (with_reducible refine fS4.mono ?_); rintro e w5 ⟨rfl, hb5⟩; have H5 := H4.trans (hb5.mono H4.size)))
      go_ret
      exact ⟨by first | rfl | (rw [HR.out]; rfl) | simp [HR.out], HBX.out⟩
  · cases r1
    ·
      go_enter Try.func60, Try.ntmps60
      go_wp2_with (first
        | (go_at_call 79; (with_reducible refine fP.mono ?_); rintro e wq ⟨rfl, hwq⟩; replace hwq := hwq.symm; subst hwq)
        | (go_at_call 80; (with_reducible refine (fR _).mono ?_); rintro e w2 ⟨rfl, hb2⟩; have H2 := HBX.out.trans (hb2.mono HBX.out.size); have B2 := HB1.out.later hb2 HB1.out.lt; have d3 := B2.cell 3 _ rfl; have d4 := B2.cell 4 _ rfl; have d5 := B2.cell 5 _ rfl)
        | (go_at_call 81; (with_reducible refine (fN _).mono ?_); rintro e w3 ⟨rfl, hb3⟩; have H3 := H2.trans (hb3.mono H2.size); have B3 := B2.later hb3 B2.lt; have d4 := B3.cell 4 _ rfl; have d5 := B3.cell 5 _ rfl; have fA3 := fA _ H3)
        | (go_at_call 82; (with_reducible refine fA3.mono ?_); rintro e w4 ⟨rfl, hb4⟩; have H4 := H3.trans (hb4.mono H3.size); have B4 := B3.later hb4 B3.lt; have d5 := B4.cell 5 _ rfl; have fS4 := fS _ H4)
        | (go_at_call 83; (with_reducible refine fS4.mono ?_); rintro e w5 ⟨rfl, hb5⟩; have H5 := H4.trans (hb5.mono H4.size)))
      go_ret
      exact ⟨by first | rfl | (rw [HR.out]; rfl) | simp [HR.out], HBX.out⟩
    · cases r2
      ·
        go_enter Try.func60, Try.ntmps60
        go_wp2_with (first
          | (go_at_call 79; (with_reducible refine fP.mono ?_); rintro e wq ⟨rfl, hwq⟩; replace hwq := hwq.symm; subst hwq)
          | (go_at_call 80; (with_reducible refine (fR _).mono ?_); rintro e w2 ⟨rfl, hb2⟩; have H2 := HBX.out.trans (hb2.mono HBX.out.size); have B2 := HB1.out.later hb2 HB1.out.lt; have d3 := B2.cell 3 _ rfl; have d4 := B2.cell 4 _ rfl; have d5 := B2.cell 5 _ rfl)
          | (go_at_call 81; (with_reducible refine (fN _).mono ?_); rintro e w3 ⟨rfl, hb3⟩; have H3 := H2.trans (hb3.mono H2.size); have B3 := B2.later hb3 B2.lt; have d4 := B3.cell 4 _ rfl; have d5 := B3.cell 5 _ rfl; have fA3 := fA _ H3)
          | (go_at_call 82; (with_reducible refine fA3.mono ?_); rintro e w4 ⟨rfl, hb4⟩; have H4 := H3.trans (hb4.mono H3.size); have B4 := B3.later hb4 B3.lt; have d5 := B4.cell 5 _ rfl; have fS4 := fS _ H4)
          | (go_at_call 83; (with_reducible refine fS4.mono ?_); rintro e w5 ⟨rfl, hb5⟩; have H5 := H4.trans (hb5.mono H4.size)))
        go_ret
        exact ⟨by first | rfl | (rw [HR.out]; rfl) | simp [HR.out], H2⟩
      · cases r3
        ·
          go_enter Try.func60, Try.ntmps60
          go_wp2_with (first
            | (go_at_call 79; (with_reducible refine fP.mono ?_); rintro e wq ⟨rfl, hwq⟩; replace hwq := hwq.symm; subst hwq)
            | (go_at_call 80; (with_reducible refine (fR _).mono ?_); rintro e w2 ⟨rfl, hb2⟩; have H2 := HBX.out.trans (hb2.mono HBX.out.size); have B2 := HB1.out.later hb2 HB1.out.lt; have d3 := B2.cell 3 _ rfl; have d4 := B2.cell 4 _ rfl; have d5 := B2.cell 5 _ rfl)
            | (go_at_call 81; (with_reducible refine (fN _).mono ?_); rintro e w3 ⟨rfl, hb3⟩; have H3 := H2.trans (hb3.mono H2.size); have B3 := B2.later hb3 B2.lt; have d4 := B3.cell 4 _ rfl; have d5 := B3.cell 5 _ rfl; have fA3 := fA _ H3)
            | (go_at_call 82; (with_reducible refine fA3.mono ?_); rintro e w4 ⟨rfl, hb4⟩; have H4 := H3.trans (hb4.mono H3.size); have B4 := B3.later hb4 B3.lt; have d5 := B4.cell 5 _ rfl; have fS4 := fS _ H4)
            | (go_at_call 83; (with_reducible refine fS4.mono ?_); rintro e w5 ⟨rfl, hb5⟩; have H5 := H4.trans (hb5.mono H4.size)))
          go_ret
          exact ⟨by first | rfl | (rw [HR.out]; rfl) | simp [HR.out], H3⟩
        · cases r4
          ·
            go_enter Try.func60, Try.ntmps60
            go_wp2_with (first
              | (go_at_call 79; (with_reducible refine fP.mono ?_); rintro e wq ⟨rfl, hwq⟩; replace hwq := hwq.symm; subst hwq)
              | (go_at_call 80; (with_reducible refine (fR _).mono ?_); rintro e w2 ⟨rfl, hb2⟩; have H2 := HBX.out.trans (hb2.mono HBX.out.size); have B2 := HB1.out.later hb2 HB1.out.lt; have d3 := B2.cell 3 _ rfl; have d4 := B2.cell 4 _ rfl; have d5 := B2.cell 5 _ rfl)
              | (go_at_call 81; (with_reducible refine (fN _).mono ?_); rintro e w3 ⟨rfl, hb3⟩; have H3 := H2.trans (hb3.mono H2.size); have B3 := B2.later hb3 B2.lt; have d4 := B3.cell 4 _ rfl; have d5 := B3.cell 5 _ rfl; have fA3 := fA _ H3)
              | (go_at_call 82; (with_reducible refine fA3.mono ?_); rintro e w4 ⟨rfl, hb4⟩; have H4 := H3.trans (hb4.mono H3.size); have B4 := B3.later hb4 B3.lt; have d5 := B4.cell 5 _ rfl; have fS4 := fS _ H4)
              | (go_at_call 83; (with_reducible refine fS4.mono ?_); rintro e w5 ⟨rfl, hb5⟩; have H5 := H4.trans (hb5.mono H4.size)))
            go_ret
            exact ⟨by first | rfl | (rw [HR.out]; rfl) | simp [HR.out], H4⟩
          ·
            go_enter Try.func60, Try.ntmps60
            go_wp2_with (first
              | (go_at_call 79; (with_reducible refine fP.mono ?_); rintro e wq ⟨rfl, hwq⟩; replace hwq := hwq.symm; subst hwq)
              | (go_at_call 80; (with_reducible refine (fR _).mono ?_); rintro e w2 ⟨rfl, hb2⟩; have H2 := HBX.out.trans (hb2.mono HBX.out.size); have B2 := HB1.out.later hb2 HB1.out.lt; have d3 := B2.cell 3 _ rfl; have d4 := B2.cell 4 _ rfl; have d5 := B2.cell 5 _ rfl)
              | (go_at_call 81; (with_reducible refine (fN _).mono ?_); rintro e w3 ⟨rfl, hb3⟩; have H3 := H2.trans (hb3.mono H2.size); have B3 := B2.later hb3 B2.lt; have d4 := B3.cell 4 _ rfl; have d5 := B3.cell 5 _ rfl; have fA3 := fA _ H3)
              | (go_at_call 82; (with_reducible refine fA3.mono ?_); rintro e w4 ⟨rfl, hb4⟩; have H4 := H3.trans (hb4.mono H3.size); have B4 := B3.later hb4 B3.lt; have d5 := B4.cell 5 _ rfl; have fS4 := fS _ H4)
              | (go_at_call 83; (with_reducible refine fS4.mono ?_); rintro e w5 ⟨rfl, hb5⟩; have H5 := H4.trans (hb5.mono H4.size)))
            go_ret
            exact ⟨by first | rfl | (rw [HR.out]; rfl) | simp [HR.out], H5⟩

set_option maxRecDepth 100000 in
set_option maxHeartbeats 4000000 in
theorem rightNode_tx (x : Nd) (ats : Option Addr) (m d : Nat) (sts : Option Addr) (m' d' : Nat) (xs : List Nd) (a : Option Addr) (n c : Nat) (w : World) (hx : RdN (· < w.heap.size) w a n c xs) (hA : RdA (· < w.heap.size) w ats m d x.attrs) (hS : RdS (· < w.heap.size) w sts m' d' x.states) (hM : MilN x) (hk : x.kind = 2) :
    Calls Try.prog 60 #[.agg #[.int .i64 x.par, .int .i64 x.kind, .string x.space, .string x.name, .slice ats m d, .slice sts m' d', .string x.text], .slice a n c] w (Told (.bool (parB x.par xs && (!decide (x.par = -1) && (rightS x.text && bareB x)))) w) := by
  have hbX := (Below.refl w.heap.size w).alloc (Nat.le_refl _) (.cells #[.int .i64 x.par, .int .i64 x.kind, .string x.space, .string x.name, .slice ats m d, .slice sts m' d', .string x.text] 44)
  have B1 : Blk (w.alloc (.cells #[.int .i64 x.par, .int .i64 x.kind, .string x.space, .string x.name, .slice ats m d, .slice sts m' d', .string x.text] 44)) w.heap.size [.int .i64 x.par, .int .i64 x.kind, .string x.space, .string x.name, .slice ats m d, .slice sts m' d', .string x.text] 44 := Blk.alloc _ _
  have fP := rightParent_any x.par xs a n c (· < w.heap.size) _ (hx.move (fun b hb => ⟨hb, hbX.block b hb⟩))
  have HA := Lib.hid hA
  have HS := Lib.hid hS
  have HBX := Lib.hid hbX
  have HB1 := Lib.hid B1
  obtain ⟨hM0, hM1, hM2, hM3, hM4, hM5⟩ := hM
  have hm : m ≤ 1000000 := by rw [hA.1]; exact hM4
  have fT := fun w => isRight_any x.text w hM2
  have fM := fun w' (hb : Below w.heap.size w w') => sameNode_any x.par x.kind x.par x.kind x.space x.name x.text ⟨#[]⟩ ⟨#[]⟩ x.text x.attrs [] x.states [] ats sts none none m m' d d' 0 0 0 0 (· < w'.heap.size) w' (fun _ h => h) (HA.out.later hb (Nat.le_refl _)) (HS.out.later hb (Nat.le_refl _)) (RdOf.nil _ _ _ _ _ (by unfold maxLen; omega) (fun _ => rfl)) (RdOf.nil _ _ _ _ _ (by unfold maxLen; omega) (fun _ => rfl))
  have hbare : decide ((⟨x.par, x.kind, x.space, x.name, x.attrs, x.states, x.text⟩ : Nd) = ⟨x.par, x.kind, ⟨#[]⟩, ⟨#[]⟩, [], [], x.text⟩) = bareB x := rfl
  rw [hbare] at fM
  have HR : Hid (true = true) := Lib.hid rfl
  clear hx hA hS hbX B1 hM0 hM1 hM2 hM3 hM4 hM5 hm hbare
  rw [hk]
  have HBX2 := Lib.hid (show Below w.heap.size w (w.alloc (.cells #[.int .i64 x.par, .int .i64 2, .string x.space, .string x.name, .slice ats m d, .slice sts m' d', .string x.text] 44)) from by have := HBX.out; rwa [hk] at this)
  have HB2' := Lib.hid (show Blk (w.alloc (.cells #[.int .i64 x.par, .int .i64 2, .string x.space, .string x.name, .slice ats m d, .slice sts m' d', .string x.text] 44)) w.heap.size [.int .i64 x.par, .int .i64 2, .string x.space, .string x.name, .slice ats m d, .slice sts m' d', .string x.text] 44 from by have := HB1.out; rwa [hk] at this)
  rw [hk] at fP fM
  clear HBX HB1 hk
  have HBX := HBX2
  have HB1 := HB2'
  clear HBX2 HB2'
  generalize parB x.par xs = r0 at *
  generalize rightS x.text = r2 at *
  generalize bareB x = r3 at *
  have q1 : (x.par == -1) = decide (x.par = -1) := rfl
  generalize decide (x.par = -1) = r1 at *
  generalize x.par = pp at *
  generalize x.space = sp at *
  generalize x.name = nm at *
  generalize x.text = tx at *
  cases r0
  ·
    go_enter Try.func60, Try.ntmps60
    go_wp2_with (first
      | (go_at_call 79; (with_reducible refine fP.mono ?_); rintro e wq ⟨rfl, hwq⟩; replace hwq := hwq.symm; subst hwq)
      | (go_at_call 80; (with_reducible refine (fT _).mono ?_); rintro e w2 ⟨rfl, hb2⟩; have H2 := HBX.out.trans (hb2.mono HBX.out.size); have B2 := HB1.out.later hb2 HB1.out.lt; have d0 := B2.cell 0 _ rfl; have d1 := B2.cell 1 _ rfl; have d2 := B2.cell 2 _ rfl; have d3 := B2.cell 3 _ rfl; have d4 := B2.cell 4 _ rfl; have d5 := B2.cell 5 _ rfl; have d6 := B2.cell 6 _ rfl; have fM2 := fM _ H2)
      | (go_at_call 31; (with_reducible refine fM2.mono ?_); rintro e w3 ⟨rfl, hb3⟩; have H3 := H2.trans (hb3.mono H2.size)))
    go_ret
    exact ⟨by first | rfl | (rw [HR.out]; rfl) | simp [HR.out], HBX.out⟩
  · cases r1
    · cases r2
      ·
        go_enter Try.func60, Try.ntmps60
        go_wp2_with (first
          | (go_at_call 79; (with_reducible refine fP.mono ?_); rintro e wq ⟨rfl, hwq⟩; replace hwq := hwq.symm; subst hwq)
          | (go_at_call 80; (with_reducible refine (fT _).mono ?_); rintro e w2 ⟨rfl, hb2⟩; have H2 := HBX.out.trans (hb2.mono HBX.out.size); have B2 := HB1.out.later hb2 HB1.out.lt; have d0 := B2.cell 0 _ rfl; have d1 := B2.cell 1 _ rfl; have d2 := B2.cell 2 _ rfl; have d3 := B2.cell 3 _ rfl; have d4 := B2.cell 4 _ rfl; have d5 := B2.cell 5 _ rfl; have d6 := B2.cell 6 _ rfl; have fM2 := fM _ H2)
          | (go_at_call 31; (with_reducible refine fM2.mono ?_); rintro e w3 ⟨rfl, hb3⟩; have H3 := H2.trans (hb3.mono H2.size)))
        go_ret
        exact ⟨by first | rfl | (rw [HR.out]; rfl) | simp [HR.out], H2⟩
      ·
        go_enter Try.func60, Try.ntmps60
        go_wp2_with (first
          | (go_at_call 79; (with_reducible refine fP.mono ?_); rintro e wq ⟨rfl, hwq⟩; replace hwq := hwq.symm; subst hwq)
          | (go_at_call 80; (with_reducible refine (fT _).mono ?_); rintro e w2 ⟨rfl, hb2⟩; have H2 := HBX.out.trans (hb2.mono HBX.out.size); have B2 := HB1.out.later hb2 HB1.out.lt; have d0 := B2.cell 0 _ rfl; have d1 := B2.cell 1 _ rfl; have d2 := B2.cell 2 _ rfl; have d3 := B2.cell 3 _ rfl; have d4 := B2.cell 4 _ rfl; have d5 := B2.cell 5 _ rfl; have d6 := B2.cell 6 _ rfl; have fM2 := fM _ H2)
          | (go_at_call 31; (with_reducible refine fM2.mono ?_); rintro e w3 ⟨rfl, hb3⟩; have H3 := H2.trans (hb3.mono H2.size)))
        go_ret
        exact ⟨by first | rfl | (rw [HR.out]; rfl) | simp [HR.out], H3⟩
    ·
      go_enter Try.func60, Try.ntmps60
      go_wp2_with (first
        | (go_at_call 79; (with_reducible refine fP.mono ?_); rintro e wq ⟨rfl, hwq⟩; replace hwq := hwq.symm; subst hwq)
        | (go_at_call 80; (with_reducible refine (fT _).mono ?_); rintro e w2 ⟨rfl, hb2⟩; have H2 := HBX.out.trans (hb2.mono HBX.out.size); have B2 := HB1.out.later hb2 HB1.out.lt; have d0 := B2.cell 0 _ rfl; have d1 := B2.cell 1 _ rfl; have d2 := B2.cell 2 _ rfl; have d3 := B2.cell 3 _ rfl; have d4 := B2.cell 4 _ rfl; have d5 := B2.cell 5 _ rfl; have d6 := B2.cell 6 _ rfl; have fM2 := fM _ H2)
        | (go_at_call 31; (with_reducible refine fM2.mono ?_); rintro e w3 ⟨rfl, hb3⟩; have H3 := H2.trans (hb3.mono H2.size)))
      go_ret
      exact ⟨by first | rfl | (rw [HR.out]; rfl) | simp [HR.out], HBX.out⟩

set_option maxRecDepth 100000 in
set_option maxHeartbeats 4000000 in
theorem rightNode_cm (x : Nd) (ats : Option Addr) (m d : Nat) (sts : Option Addr) (m' d' : Nat) (xs : List Nd) (a : Option Addr) (n c : Nat) (w : World) (hx : RdN (· < w.heap.size) w a n c xs) (hA : RdA (· < w.heap.size) w ats m d x.attrs) (hS : RdS (· < w.heap.size) w sts m' d' x.states) (hM : MilN x) (hk : x.kind = 3) :
    Calls Try.prog 60 #[.agg #[.int .i64 x.par, .int .i64 x.kind, .string x.space, .string x.name, .slice ats m d, .slice sts m' d', .string x.text], .slice a n c] w (Told (.bool (parB x.par xs && (rightS x.text && bareB x))) w) := by
  have hbX := (Below.refl w.heap.size w).alloc (Nat.le_refl _) (.cells #[.int .i64 x.par, .int .i64 x.kind, .string x.space, .string x.name, .slice ats m d, .slice sts m' d', .string x.text] 44)
  have B1 : Blk (w.alloc (.cells #[.int .i64 x.par, .int .i64 x.kind, .string x.space, .string x.name, .slice ats m d, .slice sts m' d', .string x.text] 44)) w.heap.size [.int .i64 x.par, .int .i64 x.kind, .string x.space, .string x.name, .slice ats m d, .slice sts m' d', .string x.text] 44 := Blk.alloc _ _
  have fP := rightParent_any x.par xs a n c (· < w.heap.size) _ (hx.move (fun b hb => ⟨hb, hbX.block b hb⟩))
  have HA := Lib.hid hA
  have HS := Lib.hid hS
  have HBX := Lib.hid hbX
  have HB1 := Lib.hid B1
  obtain ⟨hM0, hM1, hM2, hM3, hM4, hM5⟩ := hM
  have hm : m ≤ 1000000 := by rw [hA.1]; exact hM4
  have fT := fun w => isRight_any x.text w hM2
  have fM := fun w' (hb : Below w.heap.size w w') => sameNode_any x.par x.kind x.par x.kind x.space x.name x.text ⟨#[]⟩ ⟨#[]⟩ x.text x.attrs [] x.states [] ats sts none none m m' d d' 0 0 0 0 (· < w'.heap.size) w' (fun _ h => h) (HA.out.later hb (Nat.le_refl _)) (HS.out.later hb (Nat.le_refl _)) (RdOf.nil _ _ _ _ _ (by unfold maxLen; omega) (fun _ => rfl)) (RdOf.nil _ _ _ _ _ (by unfold maxLen; omega) (fun _ => rfl))
  have hbare : decide ((⟨x.par, x.kind, x.space, x.name, x.attrs, x.states, x.text⟩ : Nd) = ⟨x.par, x.kind, ⟨#[]⟩, ⟨#[]⟩, [], [], x.text⟩) = bareB x := rfl
  rw [hbare] at fM
  have HR : Hid (true = true) := Lib.hid rfl
  clear hx hA hS hbX B1 hM0 hM1 hM2 hM3 hM4 hM5 hm hbare
  rw [hk]
  have HBX2 := Lib.hid (show Below w.heap.size w (w.alloc (.cells #[.int .i64 x.par, .int .i64 3, .string x.space, .string x.name, .slice ats m d, .slice sts m' d', .string x.text] 44)) from by have := HBX.out; rwa [hk] at this)
  have HB2' := Lib.hid (show Blk (w.alloc (.cells #[.int .i64 x.par, .int .i64 3, .string x.space, .string x.name, .slice ats m d, .slice sts m' d', .string x.text] 44)) w.heap.size [.int .i64 x.par, .int .i64 3, .string x.space, .string x.name, .slice ats m d, .slice sts m' d', .string x.text] 44 from by have := HB1.out; rwa [hk] at this)
  rw [hk] at fP fM
  clear HBX HB1 hk
  have HBX := HBX2
  have HB1 := HB2'
  clear HBX2 HB2'
  generalize parB x.par xs = r0 at *
  generalize rightS x.text = r2 at *
  generalize bareB x = r3 at *
  have q1 : (x.par == -1) = decide (x.par = -1) := rfl
  generalize x.par = pp at *
  generalize x.space = sp at *
  generalize x.name = nm at *
  generalize x.text = tx at *
  cases r0
  ·
    go_enter Try.func60, Try.ntmps60
    go_wp2_with (first
      | (go_at_call 79; (with_reducible refine fP.mono ?_); rintro e wq ⟨rfl, hwq⟩; replace hwq := hwq.symm; subst hwq)
      | (go_at_call 80; (with_reducible refine (fT _).mono ?_); rintro e w2 ⟨rfl, hb2⟩; have H2 := HBX.out.trans (hb2.mono HBX.out.size); have B2 := HB1.out.later hb2 HB1.out.lt; have d0 := B2.cell 0 _ rfl; have d1 := B2.cell 1 _ rfl; have d2 := B2.cell 2 _ rfl; have d3 := B2.cell 3 _ rfl; have d4 := B2.cell 4 _ rfl; have d5 := B2.cell 5 _ rfl; have d6 := B2.cell 6 _ rfl; have fM2 := fM _ H2)
      | (go_at_call 31; (with_reducible refine fM2.mono ?_); rintro e w3 ⟨rfl, hb3⟩; have H3 := H2.trans (hb3.mono H2.size)))
    go_ret
    exact ⟨by first | rfl | (rw [HR.out]; rfl) | simp [HR.out], HBX.out⟩
  · cases r2
    ·
      go_enter Try.func60, Try.ntmps60
      go_wp2_with (first
        | (go_at_call 79; (with_reducible refine fP.mono ?_); rintro e wq ⟨rfl, hwq⟩; replace hwq := hwq.symm; subst hwq)
        | (go_at_call 80; (with_reducible refine (fT _).mono ?_); rintro e w2 ⟨rfl, hb2⟩; have H2 := HBX.out.trans (hb2.mono HBX.out.size); have B2 := HB1.out.later hb2 HB1.out.lt; have d0 := B2.cell 0 _ rfl; have d1 := B2.cell 1 _ rfl; have d2 := B2.cell 2 _ rfl; have d3 := B2.cell 3 _ rfl; have d4 := B2.cell 4 _ rfl; have d5 := B2.cell 5 _ rfl; have d6 := B2.cell 6 _ rfl; have fM2 := fM _ H2)
        | (go_at_call 31; (with_reducible refine fM2.mono ?_); rintro e w3 ⟨rfl, hb3⟩; have H3 := H2.trans (hb3.mono H2.size)))
      go_ret
      exact ⟨by first | rfl | (rw [HR.out]; rfl) | simp [HR.out], H2⟩
    ·
      go_enter Try.func60, Try.ntmps60
      go_wp2_with (first
        | (go_at_call 79; (with_reducible refine fP.mono ?_); rintro e wq ⟨rfl, hwq⟩; replace hwq := hwq.symm; subst hwq)
        | (go_at_call 80; (with_reducible refine (fT _).mono ?_); rintro e w2 ⟨rfl, hb2⟩; have H2 := HBX.out.trans (hb2.mono HBX.out.size); have B2 := HB1.out.later hb2 HB1.out.lt; have d0 := B2.cell 0 _ rfl; have d1 := B2.cell 1 _ rfl; have d2 := B2.cell 2 _ rfl; have d3 := B2.cell 3 _ rfl; have d4 := B2.cell 4 _ rfl; have d5 := B2.cell 5 _ rfl; have d6 := B2.cell 6 _ rfl; have fM2 := fM _ H2)
        | (go_at_call 31; (with_reducible refine fM2.mono ?_); rintro e w3 ⟨rfl, hb3⟩; have H3 := H2.trans (hb3.mono H2.size)))
      go_ret
      exact ⟨by first | rfl | (rw [HR.out]; rfl) | simp [HR.out], H3⟩

set_option maxRecDepth 100000 in
set_option maxHeartbeats 4000000 in
theorem rightNode_no (x : Nd) (ats : Option Addr) (m d : Nat) (sts : Option Addr) (m' d' : Nat) (xs : List Nd) (a : Option Addr) (n c : Nat) (w : World) (hx : RdN (· < w.heap.size) w a n c xs) (hA : RdA (· < w.heap.size) w ats m d x.attrs) (hS : RdS (· < w.heap.size) w sts m' d' x.states) (hM : MilN x) (hk1 : x.kind ≠ 1) (hk2 : x.kind ≠ 2) (hk3 : x.kind ≠ 3) :
    Calls Try.prog 60 #[.agg #[.int .i64 x.par, .int .i64 x.kind, .string x.space, .string x.name, .slice ats m d, .slice sts m' d', .string x.text], .slice a n c] w (Told (.bool (false)) w) := by
  have hbX := (Below.refl w.heap.size w).alloc (Nat.le_refl _) (.cells #[.int .i64 x.par, .int .i64 x.kind, .string x.space, .string x.name, .slice ats m d, .slice sts m' d', .string x.text] 44)
  have B1 : Blk (w.alloc (.cells #[.int .i64 x.par, .int .i64 x.kind, .string x.space, .string x.name, .slice ats m d, .slice sts m' d', .string x.text] 44)) w.heap.size [.int .i64 x.par, .int .i64 x.kind, .string x.space, .string x.name, .slice ats m d, .slice sts m' d', .string x.text] 44 := Blk.alloc _ _
  have fP := rightParent_any x.par xs a n c (· < w.heap.size) _ (hx.move (fun b hb => ⟨hb, hbX.block b hb⟩))
  have HA := Lib.hid hA
  have HS := Lib.hid hS
  have HBX := Lib.hid hbX
  have HB1 := Lib.hid B1
  obtain ⟨hM0, hM1, hM2, hM3, hM4, hM5⟩ := hM
  have hm : m ≤ 1000000 := by rw [hA.1]; exact hM4
  have HR : Hid (true = true) := Lib.hid rfl
  have q1 : (x.kind == 1) = false := beq_eq_false_iff_ne.2 hk1
  have q2 : (x.kind == 2) = false := beq_eq_false_iff_ne.2 hk2
  have q3 : (x.kind == 3) = false := beq_eq_false_iff_ne.2 hk3
  clear hx hA hS hbX hM0 hM1 hM2 hM3 hM4 hM5 hm hk1 hk2 hk3
  have d1 := B1.cell 1 _ rfl
  generalize parB x.par xs = r0 at *
  generalize x.par = pp at *
  generalize x.kind = kk at *
  clear B1
  cases r0
  ·
    go_enter Try.func60, Try.ntmps60
    go_wp2_with (first
      | (go_at_call 79; (with_reducible refine fP.mono ?_); rintro e wq ⟨rfl, hwq⟩; replace hwq := hwq.symm; subst hwq)
      | (go_at_call 80; (with_reducible refine (fT _).mono ?_); rintro e w2 ⟨rfl, hb2⟩; have H2 := HBX.out.trans (hb2.mono HBX.out.size); have B2 := HB1.out.later hb2 HB1.out.lt; have d0 := B2.cell 0 _ rfl; have d1 := B2.cell 1 _ rfl; have d2 := B2.cell 2 _ rfl; have d3 := B2.cell 3 _ rfl; have d4 := B2.cell 4 _ rfl; have d5 := B2.cell 5 _ rfl; have d6 := B2.cell 6 _ rfl; have fM2 := fM _ H2)
      | (go_at_call 31; (with_reducible refine fM2.mono ?_); rintro e w3 ⟨rfl, hb3⟩; have H3 := H2.trans (hb3.mono H2.size)))
    go_ret
    exact ⟨by first | rfl | (rw [HR.out]; rfl) | simp [HR.out], HBX.out⟩
  ·
    go_enter Try.func60, Try.ntmps60
    go_wp2_with (first
      | (go_at_call 79; (with_reducible refine fP.mono ?_); rintro e wq ⟨rfl, hwq⟩; replace hwq := hwq.symm; subst hwq)
      | (go_at_call 80; (with_reducible refine (fT _).mono ?_); rintro e w2 ⟨rfl, hb2⟩; have H2 := HBX.out.trans (hb2.mono HBX.out.size); have B2 := HB1.out.later hb2 HB1.out.lt; have d0 := B2.cell 0 _ rfl; have d1 := B2.cell 1 _ rfl; have d2 := B2.cell 2 _ rfl; have d3 := B2.cell 3 _ rfl; have d4 := B2.cell 4 _ rfl; have d5 := B2.cell 5 _ rfl; have d6 := B2.cell 6 _ rfl; have fM2 := fM _ H2)
      | (go_at_call 31; (with_reducible refine fM2.mono ?_); rintro e w3 ⟨rfl, hb3⟩; have H3 := H2.trans (hb3.mono H2.size)))
    go_ret
    exact ⟨by first | rfl | (rw [HR.out]; rfl) | simp [HR.out], HBX.out⟩

theorem rightNode_any (x : Nd) (ats : Option Addr) (m d : Nat) (sts : Option Addr) (m' d' : Nat) (xs : List Nd) (a : Option Addr) (n c : Nat) (w : World) (hx : RdN (· < w.heap.size) w a n c xs) (hA : RdA (· < w.heap.size) w ats m d x.attrs) (hS : RdS (· < w.heap.size) w sts m' d' x.states) (hM : MilN x) :
    Calls Try.prog 60 #[.agg #[.int .i64 x.par, .int .i64 x.kind, .string x.space, .string x.name, .slice ats m d, .slice sts m' d', .string x.text], .slice a n c] w (Told (.bool (nodeB xs x)) w) := by
  unfold nodeB
  by_cases h1 : x.kind = 1
  · rw [if_pos h1]; exact rightNode_el x ats m d sts m' d' xs a n c w hx hA hS hM h1
  rw [if_neg h1]
  by_cases h2 : x.kind = 2
  · rw [if_pos h2]; exact rightNode_tx x ats m d sts m' d' xs a n c w hx hA hS hM h2
  rw [if_neg h2]
  by_cases h3 : x.kind = 3
  · rw [if_pos h3]; exact rightNode_cm x ats m d sts m' d' xs a n c w hx hA hS hM h3
  rw [if_neg h3, Bool.and_false]
  exact rightNode_no x ats m d sts m' d' xs a n c w hx hA hS hM h1 h2 h3
end

section
open Go.RowKit
set_option linter.unusedVariables false
set_option linter.unusedSimpArgs false

theorem RdOf.take {α : Type} {ok : Nat → Prop} {sz : Nat} {P : Nat → Nat → α → Prop} {a : Option Addr} {n c : Nat} {xs : List α} (h : RdOf ok sz P a n c xs) (k : Nat) (hk : k ≤ n) : RdOf ok sz P a k c (xs.take k) := by
  obtain ⟨h1, h2, h3, h4⟩ := h
  refine ⟨by rw [List.length_take]; omega, by omega, ⟨h3.1, by have := h3.2.1; omega, h3.2.2⟩, ?_⟩
  rcases h4 with h4 | ⟨b, off, e, hb, hi⟩
  · exact .inl (by rw [h4, List.take_nil])
  · refine .inr ⟨b, off, e, hb, fun i x hx => hi i x ?_⟩
    rw [List.getElem?_take] at hx
    split at hx
    · exact hx
    · cases hx
/-- Is the node at a place right? -/
def nodeK (xs : List Nd) (k : Nat) : Bool := match xs[k]? with | some x => nodeB (xs.take k) x | none => true
def rootsTo (xs : List Nd) : Nat → Nat
  | 0 => 0
  | k + 1 => rootsTo xs k + (if hit xs (-1) k = true then 1 else 0)
theorem rootsTo_le (xs : List Nd) : ∀ k, rootsTo xs k ≤ k
  | 0 => Nat.le_refl _
  | k + 1 => by
    have := rootsTo_le xs k
    show rootsTo xs k + _ ≤ _
    split <;> omega
def RightD (xs : List Nd) : Prop := (∀ k, k < xs.length → nodeK xs k = true) ∧ rootsTo xs xs.length = 1

set_option maxRecDepth 100000 in
set_option maxHeartbeats 4000000 in
theorem check_any (xs : List Nd) (a : Option Addr) (n c : Nat) (w : World) (hx : RdN (· < w.heap.size) w a n c xs) (hM : ∀ x ∈ xs, MilN x) (hn : n ≤ 1000000) (hR : RightD xs) :
    Calls Try.prog 33 #[.slice a n c] w (Told .nilIface w) := by
  have hm : n ≤ 9223372036854775807 := by omega
  have HN := Lib.hid hx.1
  have HX := Lib.hid (fun w' (hb : Below w.heap.size w w') => hx.later hb (Nat.le_refl _))
  have HM := Lib.hid hM
  have HRD := Lib.hid hR
  clear hx hM hR
  go_enter Try.func33, Try.ntmps33
  go_wp2_with fail
  go_loopw [3, 8] (fun s3 i wr => ∃ k : Nat, k ≤ n ∧ i = .int .i64 k ∧ s3 = .int .i64 (rootsTo xs k : Nat) ∧ Below w.heap.size w wr) (fun _ i _ => n - (intOf i).toNat)
  case atStart => exact ⟨0, Nat.zero_le _, rfl, rfl, Below.refl _ _⟩
  case round =>
    obtain ⟨k, hk, rfl, rfl, hB⟩ := hrel
    by_cases hlt : k < n
    · have HXr := HX.out wr hB
      obtain ⟨x, hxk⟩ : ∃ x, xs[k]? = some x := ⟨_, List.getElem?_eq_getElem (by rw [← HN.out]; exact hlt)⟩
      obtain ⟨b, off, rfl, hb, x0, x1, x2, x3, ⟨a1, n1, c1, x4, hA1⟩, ⟨a2, n2, c2, x5, hS1⟩, x6, _⟩ := HXr.at k x hxk
      have hkI : (0 : Int) ≤ (k : Int) := by omega
      have hkI2 : (k : Int) < (n : Int) := by omega
      have hkc : k ≤ c := by have := HXr.2.1; omega
      have hnc : n ≤ c := HXr.2.1
      have hml := HM.out x (List.mem_of_getElem? hxk)
      have hok : nodeB (xs.take k) x = true := by
        have := HRD.out.1 k (by rw [← HN.out]; exact hlt)
        unfold nodeK at this
        rw [hxk] at this
        exact this
      have F := fun w' (hb' : Below wr.heap.size wr w') => rightNode_any x a1 n1 c1 a2 n2 c2 (xs.take k) (some ⟨b, off, none⟩) k c w' ((HXr.later hb' (Nat.le_refl _)).take k (by omega)) (hA1.later hb' (Nat.le_refl _)) (hS1.later hb' (Nat.le_refl _)) hml
      rw [hok] at F
      have X0 := fun o => ((Below.refl wr.heap.size wr).alloc (Nat.le_refl _) o).drew
      have v0 := fun o => F _ (X0 o)
      have A0 := Lib.hid (show Blk (wr.alloc (.cells #[.int .i64 x.par, .int .i64 x.kind, .string x.space, .string x.name, .slice a1 n1 c1, .slice a2 n2 c2, .string x.text] 44)) wr.heap.size [.int .i64 x.par, .int .i64 x.kind, .string x.space, .string x.name, .slice a1 n1 c1, .slice a2 n2 c2, .string x.text] 44 from Blk.alloc _ _)
      have hroot : Hid (rootsTo xs (k + 1) = rootsTo xs k + (if (x.kind = 1 ∧ x.par = -1) then 1 else 0)) := Lib.hid (by
        show rootsTo xs k + _ = _
        unfold hit
        rw [hxk]
        by_cases h1 : x.kind = 1 <;> by_cases h2 : x.par = -1 <;> simp [h1, h2])
      have hrl := rootsTo_le xs k
      have HB := Lib.hid hB
      generalize hR0 : rootsTo xs k = R0 at *
      clear hxk hA1 hS1 hml hok F hR0 HXr
      go_wp2
      go_region_with (go_at_call 60; ((refine (v0 _).mono ?_); rintro e w1 ⟨rfl, hb1⟩; have H1 := (X0 _).trans (hb1.mono (X0 _).size); have B0 := A0.out.later (((Below.refl _ _).drew).trans hb1) A0.out.lt; have k1 := B0.cell 1 _ rfl; have k0 := B0.cell 0 _ rfl; clear B0))
      all_goals
        have HE := Lib.hid (HB.out.trans (H1.mono HB.out.size))
        clear v0 X0 x0 x1 x2 x3 x4 x5 x6 hB hb1 H1
        have q1 : (x.kind == 1) = decide (x.kind = 1) := rfl
        have q2 : (x.par == -1) = decide (x.par = -1) := rfl
        have hroot2 : Hid (rootsTo xs (k + 1) = R0 + (if (decide (x.kind = 1) && decide (x.par = -1)) = true then 1 else 0)) := Lib.hid (by rw [hroot.out]; by_cases h1 : x.kind = 1 <;> by_cases h2 : x.par = -1 <;> simp [h1, h2])
        clear hroot
        generalize decide (x.kind = 1) = r1 at *
        generalize decide (x.par = -1) = r2 at *
        generalize x.kind = kk at *
        generalize x.par = pp at *
        cases r1
        · go_wp2
          go_roundw
          case rel => exact ⟨k + 1, by omega, by go_num, by rw [hroot2.out]; rfl, HE.out⟩
          case measure => simp [intOf]; omega
        · cases r2
          · go_wp2
            go_roundw
            case rel => exact ⟨k + 1, by omega, by go_num, by rw [hroot2.out]; rfl, HE.out⟩
            case measure => simp [intOf]; omega
          · go_wp2
            go_roundw
            case rel => exact ⟨k + 1, by omega, by go_num, by rw [hroot2.out]; first | rfl | go_num, HE.out⟩
            case measure => simp [intOf]; omega
    · have hkI : ¬ (k : Int) < (n : Int) := by omega
      obtain rfl : k = n := by omega
      have h1 : rootsTo xs k = 1 := by have := HRD.out.2; rwa [← HN.out] at this
      rw [h1]
      clear h1
      go_wp2
      go_ret
      exact ⟨rfl, hB⟩
end
end Go.Proofs.Ytfgnepbpfglepaa
