/- What is wrong with a document: the document's side, where its Node tells as it should: a walk. -/
import Derived.Test.YtknggcbhfkbelaaDp6
namespace Go.Proofs.Ytknggcbhfkbelaa
open Go.RowKit
set_option linter.unusedVariables false
set_option linter.unusedSimpArgs false

/-- What the document's Check tells. -/
def CkP (xs : List Nd) (n : Nat) (w : World) (e : Ending) (w' : World) : Prop := ∃ k at' : Int, e = .returned (.tuple #[.int .i64 k, .int .i64 at']) ∧ Below w.heap.size w w' ∧
  ((k = 0 ∧ at' = 0 ∧ RightD xs) ∨ (k = 10 ∧ ∃ j : Nat, j < n ∧ at' = (j : Int) ∧ nodeK xs j = false ∧ ∀ i, i < j → nodeK xs i = true) ∨ (k = 15 ∧ at' = (n : Int) ∧ (∀ i, i < n → nodeK xs i = true) ∧ rootsTo xs n ≠ 1))
/-- The document's Node tells as it should. -/
def NodeOK : Prop := ∀ (x : Nd) (ats : Option Addr) (m d : Nat) (sts : Option Addr) (m' d' : Nat) (xs : List Nd) (a : Option Addr) (n c : Nat) (w : World), RdN (· < w.heap.size) w a n c xs → RdA (· < w.heap.size) w ats m d x.attrs → RdS (· < w.heap.size) w sts m' d' x.states →
    x.space.size ≤ 140737488351232 → x.name.size ≤ 140737488351232 → x.text.size ≤ 140737488351232 →
    Calls Try.prog 19 #[.slice a n c, .agg #[.int .i64 x.par, .int .i64 x.kind, .string x.space, .string x.name, .slice ats m d, .slice sts m' d', .string x.text]] w (Told (.bool (nodeB xs x)) w)
theorem nodeB_par {xs : List Nd} {x : Nd} (h : nodeB xs x = true) : x.par = -1 ∨ (0 ≤ x.par ∧ x.par < xs.length ∧ (xs[x.par.toNat]?.map Nd.kind) = some 1) := by
  unfold nodeB at h
  rw [Bool.and_eq_true] at h
  have := h.1
  unfold parB at this
  simp only [Bool.or_eq_true, Bool.and_eq_true, decide_eq_true_iff] at this
  rcases this with h | ⟨⟨h1, h2⟩, h3⟩
  · exact .inl h
  · exact .inr ⟨h1, h2, h3⟩

set_option maxRecDepth 100000 in
set_option maxHeartbeats 4000000 in
theorem rcheck_of (hNode : NodeOK) (xs : List Nd) (a : Option Addr) (n c : Nat) (w : World) (hx : RdN (· < w.heap.size) w a n c xs) :
    Calls Try.prog 11 #[.slice a n c] w (CkP xs n w) := by
  have hm : n ≤ 9223372036854775807 := by have := hx.2.1; have := hx.2.2.1.1; unfold maxLen at this; omega
  have HN := Lib.hid hx.1
  have HX := Lib.hid (fun w' (hb : Below w.heap.size w w') => hx.later hb (Nat.le_refl _))
  have HND := Lib.hid hNode
  clear hx hNode
  go_enter Try.func11, Try.ntmps11
  go_wp2_with fail
  go_loopw [4, 5] (fun s4 i wr => ∃ k : Nat, k ≤ n ∧ i = .int .i64 k ∧ s4 = .int .i64 (rootsTo xs k : Nat) ∧ Hid (∀ i, i < k → nodeK xs i = true) ∧ Below w.heap.size w wr) (fun _ i _ => n - (intOf i).toNat)
  case atStart => exact ⟨0, Nat.zero_le _, rfl, rfl, Lib.hid (fun i h => by omega), Below.refl _ _⟩
  case round =>
    obtain ⟨k, hk, rfl, rfl, hq, hB⟩ := hrel
    by_cases hlt : k < n
    · have HXr := HX.out wr hB
      obtain ⟨x, hxk⟩ : ∃ x, xs[k]? = some x := ⟨_, List.getElem?_eq_getElem (by rw [← HN.out]; exact hlt)⟩
      obtain ⟨b, off, rfl, hb, x0, x1, x2, x3, ⟨a1, n1, c1, x4, hA1⟩, ⟨a2, n2, c2, x5, hS1⟩, x6, hz0, hz1, hz2⟩ := HXr.at k x hxk
      have hkI : (0 : Int) ≤ (k : Int) := by omega
      have hkI2 : (k : Int) < (n : Int) := by omega
      have hkc : k ≤ c := by have := HXr.2.1; omega
      have hnc : n ≤ c := HXr.2.1
      have hok : Hid (nodeK xs k = nodeB (xs.take k) x) := Lib.hid (by unfold nodeK; rw [hxk])
      have hnp := fun (h : nodeB (xs.take k) x = true) => nodeB_par h
      have v0 := HND.out x a1 n1 c1 a2 n2 c2 (xs.take k) (some ⟨b, off, none⟩) k c wr.drew ((show RdN (· < wr.drew.heap.size) wr.drew (some ⟨b, off, none⟩) n c xs from HXr).take k (by omega)) hA1 hS1 hz0 hz1 hz2
      have hroot : Hid (rootsTo xs (k + 1) = rootsTo xs k + (if (decide (x.kind = 1) && decide (x.par = -1)) = true then 1 else 0)) := Lib.hid (by
        show rootsTo xs k + _ = _
        unfold hit
        rw [hxk])
      have hrl := rootsTo_le xs k
      have HB := Lib.hid hB
      have HC0 := Lib.hid (And.intro hb (And.intro x0 x1))
      generalize hR0 : rootsTo xs k = R0 at *
      generalize hr : nodeB (xs.take k) x = r at *
      clear hxk hA1 hS1 hR0 HXr hz0 hz1 hz2 hr
      cases r
      · have hbad := Lib.hid (And.intro hlt hok.out)
        clear hnp hok
        go_wp2
        go_region_with (go_at_call 19; ((refine v0.mono ?_); rintro e w1 ⟨rfl, hb1⟩))
        all_goals
          have HE := Lib.hid (HB.out.trans ((((Below.refl wr.heap.size wr).drew).trans hb1).mono HB.out.size))
          go_wp2
          refine bodyPost_ret (v := .tuple #[.int .i64 10, .int .i64 k]) (by simp [results, Try.results11, go_sem]) rfl ⟨10, (k : Int), rfl, HE.out, .inr (.inl ⟨rfl, k, hbad.out.1, rfl, hbad.out.2, hq.out⟩)⟩
      · have hpar := hnp rfl
        have hst := Lib.hid (show ∀ i, i < k + 1 → nodeK xs i = true from fun i hi => by
          by_cases he : i = k
          · subst he; exact hok.out
          · exact hq.out i (by omega))
        clear hnp hq hok
        have q1 : (x.kind == 1) = decide (x.kind = 1) := rfl
        have hpd : decide (x.par < 0) = decide (x.par = -1) := by
          rw [decide_eq_decide]
          rcases hpar with h | ⟨h, _⟩
          · omega
          · omega
        clear hpar
        generalize decide (x.kind = 1) = r1 at *
        generalize hr2 : decide (x.par = -1) = r2 at *
        clear hr2
        generalize x.kind = kk at *
        generalize x.par = pp at *
        clear x0 x1
        go_wp2
        have x0 : wr.drew.cell? ⟨b, off + k * 7, none⟩ = some (.int .i64 pp) := HC0.out.2.1
        have x1 : wr.drew.cell? ⟨b, off + k * 7 + 1, none⟩ = some (.int .i64 kk) := HC0.out.2.2
        go_region_with (go_at_call 19; ((refine v0.mono ?_); rintro e w1 ⟨rfl, hb1⟩; have k0 := (hb1.cell (p := ⟨b, off + k * 7, none⟩) HC0.out.1).trans HC0.out.2.1; have k1 := (hb1.cell (p := ⟨b, off + k * 7 + 1, none⟩) HC0.out.1).trans HC0.out.2.2))
        all_goals
          have HE := Lib.hid (HB.out.trans ((((Below.refl wr.heap.size wr).drew).trans hb1).mono HB.out.size))
          clear v0 x0 x1 x2 x3 x4 x5 x6 hB hb1
          cases r2
          · go_wp2
            go_roundw
            case rel => exact ⟨k + 1, by omega, by go_num, by rw [hroot.out, Bool.and_false]; rfl, hst, HE.out⟩
            case measure => simp [intOf]; omega
          · cases r1
            · go_wp2
              go_roundw
              case rel => exact ⟨k + 1, by omega, by go_num, by rw [hroot.out]; rfl, hst, HE.out⟩
              case measure => simp [intOf]; omega
            · go_wp2
              go_roundw
              case rel => exact ⟨k + 1, by omega, by go_num, by rw [hroot.out]; first | rfl | go_num, hst, HE.out⟩
              case measure => simp [intOf]; omega
    · have hkI : ¬ (k : Int) < (n : Int) := by omega
      obtain rfl : k = n := by omega
      have HB := Lib.hid hB
      by_cases h1 : rootsTo xs k = 1
      · rw [h1]
        have HD := Lib.hid (show RightD xs from ⟨fun i hi => hq.out i (by rw [HN.out]; exact hi), by rw [← HN.out]; exact h1⟩)
        clear h1
        go_wp2
        refine bodyPost_ret (v := .tuple #[.int .i64 0, .int .i64 0]) (by simp [results, Try.results11, go_sem]) rfl ⟨0, 0, rfl, HB.out, .inl ⟨rfl, rfl, HD.out⟩⟩
      · have H1 := Lib.hid h1
        have h2 : (((rootsTo xs k : Nat) : Int) != 1) = true := by rw [bne, beq_eq_false_iff_ne.2 (by omega)]; rfl
        clear h1
        generalize hg : rootsTo xs k = R0 at h2 ⊢
        clear hg
        go_wp2
        refine bodyPost_ret (v := .tuple #[.int .i64 15, .int .i64 k]) (by simp [results, Try.results11, go_sem]) rfl ⟨15, (k : Int), rfl, HB.out, .inr (.inr ⟨rfl, rfl, hq.out, H1.out⟩)⟩
end Go.Proofs.Ytknggcbhfkbelaa
