/- What is wrong with a document, by the program: walks. -/
import Derived.Test.YtknggcbhfkbelaaDoorDq5Z
import Derived.Test.YtknggcbhfkbelaaDoorDo6Z
import Derived.Test.YtknggcbhfkbelaaDoorErr
namespace Go.Proofs.YtknggcbhfkbelaaDoor
open Go.RowKit
set_option linter.unusedVariables false
set_option linter.unusedSimpArgs false

/-- What is wrong. -/
def BadD (xs : List Nd) (n : Nat) (k at' : Int) : Prop := (k = 10 ∧ ∃ j : Nat, j < n ∧ at' = (j : Int) ∧ nodeK xs j = false ∧ ∀ i, i < j → nodeK xs i = true) ∨ (k = 15 ∧ at' = (n : Int) ∧ (∀ i, i < n → nodeK xs i = true) ∧ rootsTo xs n ≠ 1)
def DckP (xs : List Nd) (n : Nat) (w : World) (e : Ending) (w' : World) : Prop := Below w.heap.size w w' ∧ ((e = .returned .nilIface ∧ RightD xs) ∨ ∃ (b : Nat) (k at' : Int), e = .returned (fltV b) ∧ Blk w' b [.int .i64 k, .int .i64 at', .nilIface] 57 ∧ BadD xs n k at')

set_option maxRecDepth 100000 in
set_option maxHeartbeats 4000000 in
theorem checkE_any (xs : List Nd) (a : Option Addr) (n c : Nat) (w : World) (hx : RdN (· < w.heap.size) w a n c xs) (hM : ∀ x ∈ xs, MilN x) (hn : n ≤ 1000000) :
    Calls Tryd.prog 6 #[.slice a n c] w (DckP xs n w) := by
  have hm : n ≤ 9223372036854775807 := by omega
  have HN := Lib.hid hx.1
  have HX := Lib.hid (fun w' (hb : Below w.heap.size w w') => hx.later hb (Nat.le_refl _))
  have HM := Lib.hid hM
  clear hx hM
  go_enter Tryd.func6, Tryd.ntmps6
  go_wp2_with fail
  go_loopw [3, 8] (fun s3 i wr => ∃ k : Nat, k ≤ n ∧ i = .int .i64 k ∧ s3 = .int .i64 (rootsTo xs k : Nat) ∧ Hid (∀ i, i < k → nodeK xs i = true) ∧ Below w.heap.size w wr) (fun _ i _ => n - (intOf i).toNat)
  case atStart => exact ⟨0, Nat.zero_le _, rfl, rfl, Lib.hid (fun i h => by omega), Below.refl _ _⟩
  case round =>
    obtain ⟨k, hk, rfl, rfl, hq, hB⟩ := hrel
    by_cases hlt : k < n
    · have HXr := HX.out wr hB
      obtain ⟨x, hxk⟩ : ∃ x, xs[k]? = some x := ⟨_, List.getElem?_eq_getElem (by rw [← HN.out]; exact hlt)⟩
      obtain ⟨b, off, rfl, hb, x0, x1, x2, x3, ⟨a1, n1, c1, x4, hA1⟩, ⟨a2, n2, c2, x5, hS1⟩, x6, _⟩ := HXr.at k x hxk
      have hkI : (0 : Int) ≤ (k : Int) := by omega
      have hkI2 : (k : Int) < (n : Int) := by omega
      have hkc : k ≤ c := by have := HXr.2.1; omega
      have hnc : n ≤ c := HXr.2.1
      have hml := HM.out x (List.mem_of_getElem? hxk)
      have hok : Hid (nodeK xs k = nodeB (xs.take k) x) := Lib.hid (by unfold nodeK; rw [hxk])
      have F := fun w' (hb' : Below wr.heap.size wr w') => rightNode_any x a1 n1 c1 a2 n2 c2 (xs.take k) (some ⟨b, off, none⟩) k c w' ((HXr.later hb' (Nat.le_refl _)).take k (by omega)) (hA1.later hb' (Nat.le_refl _)) (hS1.later hb' (Nat.le_refl _)) hml
      generalize nodeB (xs.take k) x = r at *
      have X0 := fun o => ((Below.refl wr.heap.size wr).alloc (Nat.le_refl _) o).drew
      have v0 := fun o => F _ (X0 o)
      have A0 := Lib.hid (show Blk (wr.alloc (.cells #[.int .i64 x.par, .int .i64 x.kind, .string x.space, .string x.name, .slice a1 n1 c1, .slice a2 n2 c2, .string x.text] 38)) wr.heap.size [.int .i64 x.par, .int .i64 x.kind, .string x.space, .string x.name, .slice a1 n1 c1, .slice a2 n2 c2, .string x.text] 38 from Blk.alloc _ _)
      have hroot : Hid (rootsTo xs (k + 1) = rootsTo xs k + (if (decide (x.kind = 1) && decide (x.par = -1)) = true then 1 else 0)) := Lib.hid (by
        show rootsTo xs k + _ = _
        unfold hit
        rw [hxk])
      have hrl := rootsTo_le xs k
      have HB := Lib.hid hB
      generalize hR0 : rootsTo xs k = R0 at *
      clear hxk hA1 hS1 hml F hR0 HXr
      cases r
      · have hbad := Lib.hid (And.intro hlt hok.out)
        have fF := fun w => fail_any 10 (k : Int) w
        go_wp2
        go_region_with (go_at_call 13; ((refine (v0 _).mono ?_); rintro e w1 ⟨rfl, hb1⟩; have H1 := (X0 _).trans (hb1.mono (X0 _).size)))
        all_goals
          have HE := Lib.hid (HB.out.trans (H1.mono HB.out.size))
          clear v0 X0 x0 x1 x2 x3 x4 x5 x6 hB hb1 H1
          go_wp2_with fail
          refine (fF _).mono ?_
          rintro e w2 ⟨rfl, hw2⟩
          have hb2 := HE.out.alloc HE.out.size (.cells [.int .i64 10, .int .i64 (k : Int), .nilIface].toArray 57)
          have B2 := Blk.alloc (w := w1) [.int .i64 10, .int .i64 (k : Int), .nilIface] 57
          rw [← hw2] at hb2 B2
          have HX2 := Lib.hid (And.intro hb2 B2)
          clear hw2 hb2 B2 fF
          unfold fltV
          go_wp2
          go_ret
          exact ⟨HX2.out.1, .inr ⟨_, 10, (k : Int), rfl, HX2.out.2, .inl ⟨rfl, k, hbad.out.1, rfl, hbad.out.2, hq.out⟩⟩⟩
      have hst := Lib.hid (show ∀ i, i < k + 1 → nodeK xs i = true from fun i hi => by
          by_cases he : i = k
          · subst he; exact hok.out
          · exact hq.out i (by omega))
      clear hq hok
      go_wp2
      go_region_with (go_at_call 13; ((refine (v0 _).mono ?_); rintro e w1 ⟨rfl, hb1⟩; have H1 := (X0 _).trans (hb1.mono (X0 _).size); have B0 := A0.out.later (((Below.refl _ _).drew).trans hb1) A0.out.lt; have k1 := B0.cell 1 _ rfl; have k0 := B0.cell 0 _ rfl; clear B0))
      all_goals
        have HE := Lib.hid (HB.out.trans (H1.mono HB.out.size))
        clear v0 X0 x0 x1 x2 x3 x4 x5 x6 hB hb1 H1
        have q1 : (x.kind == 1) = decide (x.kind = 1) := rfl
        have q2 : (x.par == -1) = decide (x.par = -1) := rfl
        generalize decide (x.kind = 1) = r1 at *
        generalize decide (x.par = -1) = r2 at *
        generalize x.kind = kk at *
        generalize x.par = pp at *
        cases r1
        · go_wp2
          go_roundw
          case rel => exact ⟨k + 1, by omega, by go_num, by rw [hroot.out]; rfl, hst, HE.out⟩
          case measure => simp [intOf]; omega
        · cases r2
          · go_wp2
            go_roundw
            case rel => exact ⟨k + 1, by omega, by go_num, by rw [hroot.out]; rfl, hst, HE.out⟩
            case measure => simp [intOf]; omega
          · go_wp2
            go_roundw
            case rel => exact ⟨k + 1, by omega, by go_num, by rw [hroot.out]; first | rfl | go_num, hst, HE.out⟩
            case measure => simp [intOf]; omega
    · have hkI : ¬ (k : Int) < (n : Int) := by omega
      obtain rfl : k = n := by omega
      have HB := Lib.hid hB
      by_cases h1 : rootsTo xs k = 1
      · rw [h1]
        have HD := Lib.hid (show RightD xs from ⟨fun i hi => hq.out i (by rw [HN.out]; exact hi), by rw [← HN.out]; exact h1⟩)
        clear h1
        go_wp2
        go_ret
        exact ⟨HB.out, .inl ⟨rfl, HD.out⟩⟩
      · have H1 := Lib.hid h1
        have h2 : (((rootsTo xs k : Nat) : Int) != 1) = true := by rw [bne, beq_eq_false_iff_ne.2 (by omega)]; rfl
        clear h1
        generalize hg : rootsTo xs k = R0 at h2 ⊢
        clear hg
        have fF := fun w => fail_any 15 (k : Int) w
        go_wp2_with fail
        refine (fF _).mono ?_
        rintro e w2 ⟨rfl, hw2⟩
        have hb2 := HB.out.alloc HB.out.size (.cells [.int .i64 15, .int .i64 (k : Int), .nilIface].toArray 57)
        have B2 := Blk.alloc (w := wr) [.int .i64 15, .int .i64 (k : Int), .nilIface] 57
        rw [← hw2] at hb2 B2
        have HX2 := Lib.hid (And.intro hb2 B2)
        clear hw2 hb2 B2 fF
        unfold fltV
        go_wp2
        go_ret
        exact ⟨HX2.out.1, .inr ⟨_, 15, (k : Int), rfl, HX2.out.2, .inr ⟨rfl, rfl, hq.out, H1.out⟩⟩⟩

set_option maxRecDepth 100000 in
set_option maxHeartbeats 4000000 in
theorem newE_any (R : Nat → World → Prop) (a : Option Addr) (n c : Nat) (w : World)
    (hC : Calls Tryd.prog 6 #[.slice a n c] w fun e w' => ∃ b, e = .returned (fltV b) ∧ R b w') :
    Calls Tryd.prog 7 #[.slice a n c] w fun e w' => ∃ b, e = .returned (.tuple #[.pointer none, fltV b]) ∧ R b w' := by
  go_enter Tryd.func7, Tryd.ntmps7
  go_wp2_with fail
  refine hC.mono ?_
  rintro e1 w2 ⟨b, rfl, hw⟩
  have HR := Lib.hid hw
  clear hC hw
  unfold fltV
  go_wp2
  refine bodyPost_ret (v := .tuple #[.pointer none, .iface 53 (.pointer (some ⟨b, 0, none⟩))]) (by simp [results, Tryd.results7, go_sem]) rfl ⟨b, rfl, HR.out⟩
/-- A wrong document: the error, and where it lies. -/
def ErrP (xs : List Nd) (n : Nat) (w : World) (b : Nat) (w' : World) : Prop := Below w.heap.size w w' ∧ ∃ k at' : Int, Blk w' b [.int .i64 k, .int .i64 at', .nilIface] 57 ∧ BadD xs n k at'
theorem checkB_any (xs : List Nd) (a : Option Addr) (n c : Nat) (w : World) (hx : RdN (· < w.heap.size) w a n c xs) (hM : ∀ x ∈ xs, MilN x) (hn : n ≤ 1000000) (hR : ¬ RightD xs) :
    Calls Tryd.prog 6 #[.slice a n c] w fun e w' => ∃ b, e = .returned (fltV b) ∧ ErrP xs n w b w' :=
  (checkE_any xs a n c w hx hM hn).mono fun e w' ⟨hb, h⟩ => by
    rcases h with ⟨_, h⟩ | ⟨b, k, at', he, hB, h⟩
    · exact absurd h hR
    · exact ⟨b, he, hb, k, at', hB, h⟩
theorem bad_unique {xs : List Nd} {n : Nat} {k at' k2 at2 : Int} (h : BadD xs n k at') (h2 : BadD xs n k2 at2) : k = k2 ∧ at' = at2 := by
  rcases h with ⟨rfl, j, hj, rfl, h3, h4⟩ | ⟨rfl, rfl, h3, h4⟩ <;> rcases h2 with ⟨rfl, j2, hj2, rfl, h5, h6⟩ | ⟨rfl, rfl, h5, h6⟩
  · refine ⟨rfl, ?_⟩
    rcases Nat.lt_trichotomy j j2 with h | h | h
    · have := h6 j h; rw [h3] at this; cases this
    · rw [h]
    · have := h4 j2 h; rw [h5] at this; cases this
  · have := h5 j hj; rw [h3] at this; cases this
  · have := h3 j2 hj2; rw [h5] at this; cases this
  · exact ⟨rfl, rfl⟩
end Go.Proofs.YtknggcbhfkbelaaDoor
