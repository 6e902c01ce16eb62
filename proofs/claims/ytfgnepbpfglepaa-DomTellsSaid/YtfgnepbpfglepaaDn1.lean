/- Whether a node's parent, and its texts, are right: the program's walks. -/
import Derived.Test.YtfgnepbpfglepaaDm0
import Derived.Test.YtfgnepbpfglepaaRight
namespace Go.Proofs.Ytfgnepbpfglepaa
open Go.RowKit
set_option linter.unusedVariables false
set_option linter.unusedSimpArgs false

/-- A text's bytes as numbers. -/
def nmI (s : ByteArray) : List Int := s.data.toList.map fun b => (b.toNat : Int)
theorem nmI_len (s : ByteArray) : (nmI s).length = s.size := by unfold nmI; rw [List.length_map, Array.length_toList]; rfl
theorem nmI_u8 (s : ByteArray) : U8 (nmI s) := fun z hz => by
  unfold nmI at hz
  obtain ⟨b, _, rfl⟩ := List.mem_map.1 hz
  have := b.toNat_lt
  omega
/-- Is a text right? -/
def rightS (s : ByteArray) : Bool := rightF (nmI s)
def nameS (s : ByteArray) : Bool := !decide (s.size = 0) && rightS s
/-- Is a place right for a parent? -/
def parB (p : Int) (xs : List Nd) : Bool := decide (p = -1) || (decide (0 ≤ p) && decide (p < xs.length) && decide ((xs[p.toNat]?.map Nd.kind) = some 1))

theorem conv_readsD (s : ByteArray) (w : World) (hs : s.size ≤ 1000000) : ∃ cap w', (convert 9 114 (.string s)).run Try.prog w = .ok (.slice (some ⟨w.heap.size, 0, none⟩) s.size cap) w' ∧ Below w.heap.size w w' ∧ Reads w' .u8 (some ⟨w.heap.size, 0, none⟩) cap (nmI s) := by
  have hl := nmI_len s
  have hh := heap_alloc_new w.drew (.cells (bytesRow s (grownCap w s.size 0 5)) 5 ((bytesRow s (grownCap w s.size 0 5)).size, (bytesRow s (grownCap w s.size 0 5)).size + 1))
  refine ⟨_, _, run_bytes_of_string w 9 114 5 s Try.underlying9 Try.underlying114 Try.underlying5, ((Below.refl _ w).drew).alloc (Nat.le_refl _) _, ⟨by rw [hl]; exact grownCap_ge _ _ _ _, grownCap_le_maxLen _ _ _ _ (by unfold maxLen; omega), .inr ⟨_, _, rfl, by simp, fun j hj => ?_⟩⟩⟩
  rw [hl] at hj
  rw [Nat.zero_add]
  have hjs : j < s.data.size := hj
  have hv : (bytesRow s (grownCap w s.size 0 5))[j]? = some (Value.int .u8 ((nmI s)[j]?.getD 0)) := by
    unfold bytesRow
    rw [Array.getElem?_append_left (by simpa using hjs), Array.getElem?_map, Array.getElem?_eq_getElem hjs]
    have : (nmI s)[j]? = some (((s.data[j]'hjs).toNat : Nat) : Int) := by
      unfold nmI
      rw [List.getElem?_map, Array.getElem?_toList, Array.getElem?_eq_getElem hjs]; rfl
    rw [this]; rfl
  show World.cell? _ ⟨w.drew.heap.size, j, none⟩ = _
  simp only [World.cell?, hh]
  simpa using hv

set_option maxRecDepth 100000 in
set_option maxHeartbeats 1000000 in
theorem isRight_any (s : ByteArray) (w : World) (hs : s.size ≤ 1000000) : Calls Try.prog 80 #[.string s] w (Told (.bool (rightS s)) w) := by
  obtain ⟨cap, w1, hcv, hb1, hr⟩ := conv_readsD s w hs
  have hR := right_any _ cap (nmI s) w1 hr (nmI_u8 s)
  rw [nmI_len] at hR
  unfold BoolPost at hR
  rw [show rightF (nmI s) = rightS s from rfl] at hR
  generalize rightS s = r at *
  clear hr
  go_enter Try.func80, Try.ntmps80
  go_wp2_with fail
  refine hR.mono ?_
  rintro e w2 ⟨rfl, hb2⟩
  go_wp2
  go_ret
  exact ⟨rfl, hb1.trans (hb2.mono hb1.size)⟩
set_option maxRecDepth 100000 in
set_option maxHeartbeats 1000000 in
theorem isName_any (s : ByteArray) (w : World) (hs : s.size ≤ 1000000) : Calls Try.prog 81 #[.string s] w (Told (.bool (nameS s)) w) := by
  have hR := fun w => isRight_any s w hs
  have he : s.toList.isEmpty = decide (s.size = 0) := by
    rw [ByteArray.toList_eq, Bool.eq_iff_iff, List.isEmpty_iff, decide_eq_true_iff]
    exact ⟨fun h => by have := congrArg List.length h; simpa using this, fun h => List.length_eq_zero_iff.1 (by simpa using h)⟩
  unfold nameS
  generalize rightS s = r at *
  by_cases hz : s.size = 0
  · rw [decide_eq_true hz] at he ⊢
    clear hz
    go_enter Try.func81, Try.ntmps81
    go_wp2
    go_ret
    exact ⟨rfl, Below.refl _ _⟩
  · rw [decide_eq_false hz] at he ⊢
    clear hz
    go_enter Try.func81, Try.ntmps81
    go_wp2_with (go_at_call 80; (with_reducible refine (hR _).mono ?_); rintro e w2 ⟨rfl, hb2⟩)
    go_ret
    exact ⟨by cases r <;> rfl, hb2⟩
set_option maxRecDepth 100000 in
set_option maxHeartbeats 1000000 in
theorem rightParent_any (p : Int) (xs : List Nd) (a : Option Addr) (n c : Nat) (ok : Nat → Prop) (w : World) (hx : RdN ok w a n c xs) : Calls Try.prog 79 #[.int .i64 p, .slice a n c] w (Tells (.bool (parB p xs)) w) := by
  have hm : n ≤ 9223372036854775807 := by have := hx.2.1; have := hx.2.2.1; unfold maxLen at this; omega
  have HN := Lib.hid hx.1
  unfold parB
  rw [← HN.out]
  by_cases h1 : p = -1
  · rw [decide_eq_true h1]
    subst h1
    clear hx
    go_enter Try.func79, Try.ntmps79
    go_wp2
    go_ret
    exact ⟨rfl, rfl⟩
  have q1 : (p == -1) = false := beq_eq_false_iff_ne.2 h1
  rw [decide_eq_false h1]
  clear h1
  by_cases h0 : 0 ≤ p
  · obtain ⟨k, rfl⟩ := Int.eq_ofNat_of_zero_le h0
    by_cases hk : k < n
    · obtain ⟨x, hxk⟩ : ∃ x, xs[k]? = some x := ⟨_, List.getElem?_eq_getElem (by rw [← HN.out]; exact hk)⟩
      obtain ⟨b, off, rfl, _, _, x1, _⟩ := hx.at k x hxk
      have hkI : (k : Int) < (n : Int) := by omega
      rw [decide_eq_true h0, decide_eq_true hkI, Int.toNat_natCast, hxk]
      have q2 : (x.kind == 1) = decide (x.kind = 1) := rfl
      have hres := Lib.hid (show (false || (true && true && decide (Option.map Nd.kind (some x) = some 1))) = decide (x.kind = 1) from by simp)
      generalize decide (x.kind = 1) = r at *
      generalize x.kind = kk at *
      clear hx hxk
      rw [hres.out]
      go_enter Try.func79, Try.ntmps79
      go_wp2
      go_ret
      exact ⟨rfl, rfl⟩
    · have hkI : ¬ (k : Int) < (n : Int) := by omega
      rw [decide_eq_true h0, decide_eq_false hkI]
      clear hx
      go_enter Try.func79, Try.ntmps79
      go_wp2
      go_ret
      exact ⟨rfl, rfl⟩
  · rw [decide_eq_false h0]
    have hkI : ¬ (0 : Int) ≤ p := h0
    clear hx h0
    go_enter Try.func79, Try.ntmps79
    go_wp2
    go_ret
    exact ⟨rfl, rfl⟩
end Go.Proofs.Ytfgnepbpfglepaa
