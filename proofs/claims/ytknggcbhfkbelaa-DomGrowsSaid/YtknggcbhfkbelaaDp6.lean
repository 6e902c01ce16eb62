/- A right document is told so: the program's walk. -/
import Derived.Test.YtknggcbhfkbelaaDp5
import Derived.Test.YtknggcbhfkbelaaDo7
import Derived.Deep.RegionWith
namespace Go.Proofs.Ytknggcbhfkbelaa
open Go.RowKit
set_option linter.unusedVariables false
set_option linter.unusedSimpArgs false

theorem RdOf.take {α : Type} {ok : Nat → Prop} {sz : Nat} {P : Nat → Nat → α → Prop} {a : Option Addr} {n c : Nat} {xs : List α} (h : RdOf ok sz P a n c xs) (k : Nat) (hk : k ≤ n) : RdOf ok sz P a k c (xs.take k) := by
  obtain ⟨h1, h2, h3, h4⟩ := h
  refine ⟨by rw [List.length_take]; omega, by omega, ⟨h3.1, by have := h3.2.1; omega, h3.2.2⟩, ?_⟩
  rcases h4 with h4 | ⟨b, off, e, hb, hi⟩
  · exact .inl (by rw [h4, List.take_nil])
  · refine .inr ⟨b, off, e, hb, fun i x hx => hi i x ?_⟩
    rw [List.getElem?_take] at hx
    split at hx
    · exact hx
    · cases hx
/-- Is the node at a place right? -/
def nodeK (xs : List Nd) (k : Nat) : Bool := match xs[k]? with | some x => nodeB (xs.take k) x | none => true
def rootsTo (xs : List Nd) : Nat → Nat
  | 0 => 0
  | k + 1 => rootsTo xs k + (if hit xs (-1) k = true then 1 else 0)
theorem rootsTo_le (xs : List Nd) : ∀ k, rootsTo xs k ≤ k
  | 0 => Nat.le_refl _
  | k + 1 => by
    have := rootsTo_le xs k
    show rootsTo xs k + _ ≤ _
    split <;> omega
def RightD (xs : List Nd) : Prop := (∀ k, k < xs.length → nodeK xs k = true) ∧ rootsTo xs xs.length = 1

set_option maxRecDepth 100000 in
set_option maxHeartbeats 4000000 in
theorem check_any (xs : List Nd) (a : Option Addr) (n c : Nat) (w : World) (hx : RdN (· < w.heap.size) w a n c xs) (hM : ∀ x ∈ xs, MilN x) (hn : n ≤ 1000000) (hR : RightD xs) :
    Calls Try.prog 26 #[.slice a n c] w (Told .nilIface w) := by
  have hm : n ≤ 9223372036854775807 := by omega
  have HN := Lib.hid hx.1
  have HX := Lib.hid (fun w' (hb : Below w.heap.size w w') => hx.later hb (Nat.le_refl _))
  have HM := Lib.hid hM
  have HRD := Lib.hid hR
  clear hx hM hR
  go_enter Try.func26, Try.ntmps26
  go_wp2_with fail
  go_loopw [3, 8] (fun s3 i wr => ∃ k : Nat, k ≤ n ∧ i = .int .i64 k ∧ s3 = .int .i64 (rootsTo xs k : Nat) ∧ Below w.heap.size w wr) (fun _ i _ => n - (intOf i).toNat)
  case atStart => exact ⟨0, Nat.zero_le _, rfl, rfl, Below.refl _ _⟩
  case round =>
    obtain ⟨k, hk, rfl, rfl, hB⟩ := hrel
    by_cases hlt : k < n
    · have HXr := HX.out wr hB
      obtain ⟨x, hxk⟩ : ∃ x, xs[k]? = some x := ⟨_, List.getElem?_eq_getElem (by rw [← HN.out]; exact hlt)⟩
      obtain ⟨b, off, rfl, hb, x0, x1, x2, x3, ⟨a1, n1, c1, x4, hA1⟩, ⟨a2, n2, c2, x5, hS1⟩, x6, _⟩ := HXr.at k x hxk
      have hkI : (0 : Int) ≤ (k : Int) := by omega
      have hkI2 : (k : Int) < (n : Int) := by omega
      have hkc : k ≤ c := by have := HXr.2.1; omega
      have hnc : n ≤ c := HXr.2.1
      have hml := HM.out x (List.mem_of_getElem? hxk)
      have hok : nodeB (xs.take k) x = true := by
        have := HRD.out.1 k (by rw [← HN.out]; exact hlt)
        unfold nodeK at this
        rw [hxk] at this
        exact this
      have F := fun w' (hb' : Below wr.heap.size wr w') => rightNode_any x a1 n1 c1 a2 n2 c2 (xs.take k) (some ⟨b, off, none⟩) k c w' ((HXr.later hb' (Nat.le_refl _)).take k (by omega)) (hA1.later hb' (Nat.le_refl _)) (hS1.later hb' (Nat.le_refl _)) hml
      rw [hok] at F
      have X0 := fun o => ((Below.refl wr.heap.size wr).alloc (Nat.le_refl _) o).drew
      have v0 := fun o => F _ (X0 o)
      have A0 := Lib.hid (show Blk (wr.alloc (.cells #[.int .i64 x.par, .int .i64 x.kind, .string x.space, .string x.name, .slice a1 n1 c1, .slice a2 n2 c2, .string x.text] 44)) wr.heap.size [.int .i64 x.par, .int .i64 x.kind, .string x.space, .string x.name, .slice a1 n1 c1, .slice a2 n2 c2, .string x.text] 44 from Blk.alloc _ _)
      have hroot : Hid (rootsTo xs (k + 1) = rootsTo xs k + (if (x.kind = 1 ∧ x.par = -1) then 1 else 0)) := Lib.hid (by
        show rootsTo xs k + _ = _
        unfold hit
        rw [hxk]
        by_cases h1 : x.kind = 1 <;> by_cases h2 : x.par = -1 <;> simp [h1, h2])
      have hrl := rootsTo_le xs k
      have HB := Lib.hid hB
      generalize hR0 : rootsTo xs k = R0 at *
      clear hxk hA1 hS1 hml hok F hR0 HXr
      go_wp2
      go_region_with (go_at_call 45; ((refine (v0 _).mono ?_); rintro e w1 ⟨rfl, hb1⟩; have H1 := (X0 _).trans (hb1.mono (X0 _).size); have B0 := A0.out.later (((Below.refl _ _).drew).trans hb1) A0.out.lt; have k1 := B0.cell 1 _ rfl; have k0 := B0.cell 0 _ rfl; clear B0))
      all_goals
        have HE := Lib.hid (HB.out.trans (H1.mono HB.out.size))
        clear v0 X0 x0 x1 x2 x3 x4 x5 x6 hB hb1 H1
        have q1 : (x.kind == 1) = decide (x.kind = 1) := rfl
        have q2 : (x.par == -1) = decide (x.par = -1) := rfl
        have hroot2 : Hid (rootsTo xs (k + 1) = R0 + (if (decide (x.kind = 1) && decide (x.par = -1)) = true then 1 else 0)) := Lib.hid (by rw [hroot.out]; by_cases h1 : x.kind = 1 <;> by_cases h2 : x.par = -1 <;> simp [h1, h2])
        clear hroot
        generalize decide (x.kind = 1) = r1 at *
        generalize decide (x.par = -1) = r2 at *
        generalize x.kind = kk at *
        generalize x.par = pp at *
        cases r1
        · go_wp2
          go_roundw
          case rel => exact ⟨k + 1, by omega, by go_num, by rw [hroot2.out]; rfl, HE.out⟩
          case measure => simp [intOf]; omega
        · cases r2
          · go_wp2
            go_roundw
            case rel => exact ⟨k + 1, by omega, by go_num, by rw [hroot2.out]; rfl, HE.out⟩
            case measure => simp [intOf]; omega
          · go_wp2
            go_roundw
            case rel => exact ⟨k + 1, by omega, by go_num, by rw [hroot2.out]; first | rfl | go_num, HE.out⟩
            case measure => simp [intOf]; omega
    · have hkI : ¬ (k : Int) < (n : Int) := by omega
      obtain rfl : k = n := by omega
      have h1 : rootsTo xs k = 1 := by have := HRD.out.2; rwa [← HN.out] at this
      rw [h1]
      clear h1
      go_wp2
      go_ret
      exact ⟨rfl, hB⟩
end Go.Proofs.Ytknggcbhfkbelaa
