/- Whether a document is more than is looked at: a walk. -/
import Derived.Test.YtfgnepbpfglepaaDm0
namespace Go.Proofs.Ytfgnepbpfglepaa
open Go.RowKit
set_option linter.unusedVariables false
set_option linter.unusedSimpArgs false

def SmA (t : At3) : Prop := t.name.size ≤ 200 ∧ t.space.size ≤ 200 ∧ t.val.size ≤ 200
def SmN (x : Nd) : Prop := x.attrs.length ≤ 20 ∧ x.states.length ≤ 20 ∧ x.name.size ≤ 200 ∧ x.space.size ≤ 200 ∧ x.text.size ≤ 200 ∧ ∀ t ∈ x.attrs, SmA t
def GreatP (xs : List Nd) (most : Nat) (w : World) (e : Ending) (w' : World) : Prop := ∃ v : Bool, e = .returned (.bool v) ∧ Below w.heap.size w w' ∧ (v = false → xs.length ≤ most ∧ ∀ x ∈ xs, SmN x)

set_option maxRecDepth 100000 in
set_option maxHeartbeats 8000000 in
theorem rgreat_any (xs : List Nd) (most : Nat) (hmost : most ≤ 100000) (a : Option Addr) (n c : Nat) (w : World) (hx : RdN (· < w.heap.size) w a n c xs) :
    Calls Try.prog 8 #[.slice a n c, .int .i64 most] w (GreatP xs most w) := by
  have hm : n ≤ 9223372036854775807 := by have := hx.2.1; have := hx.2.2.1; unfold maxLen at this; omega
  have HN := Lib.hid hx.1
  have HX := Lib.hid hx
  clear hx
  by_cases hbig : most < n
  · have hb' : (most : Int) < (n : Int) := by omega
    go_enter Try.func8, Try.ntmps8
    go_wp2
    go_ret
    exact ⟨true, rfl, Below.refl _ _, fun h => by cases h⟩
  have hb' : ¬ (most : Int) < (n : Int) := by omega
  go_enter Try.func8, Try.ntmps8
  go_wp2_with fail
  go_loopw [5] (fun i wr => ∃ k : Nat, k ≤ n ∧ i = .int .i64 k ∧ Hid (∀ x ∈ xs.take k, SmN x) ∧ Below w.heap.size w wr) (fun i _ => n - (intOf i).toNat)
  case atStart => exact ⟨0, Nat.zero_le _, rfl, Lib.hid (fun x hx => by simp at hx), Below.refl _ _⟩
  case round =>
    obtain ⟨k, hk, rfl, hp, hB⟩ := hrel
    by_cases hlt : k < n
    · obtain ⟨x, hx⟩ : ∃ x, xs[k]? = some x := ⟨_, List.getElem?_eq_getElem (by rw [← HN.out]; exact hlt)⟩
      obtain ⟨g, off, rfl, hg, x0, x1, x2, x3, ⟨a1, n1, c1, x4, hA1⟩, ⟨a2, n2, c2, x5, hS1⟩, x6, _⟩ := HX.out.at k x hx
      rw [← cell_same (hB.block g hg)] at x0 x1 x2 x3 x4 x5 x6
      have hkI : (0 : Int) ≤ (k : Int) := by omega
      have hkI2 : (k : Int) < (n : Int) := by omega
      have HXK := Lib.hid hx
      have hbX := hB.alloc hB.size (.cells [.int .i64 x.par, .int .i64 x.kind, .string x.space, .string x.name, .slice a1 n1 c1, .slice a2 n2 c2, .string x.text].toArray 44)
      have HB1 := Lib.hid hbX
      have hmv := fun bl (hb : bl < w.heap.size) => (And.intro hb (hbX.block bl hb))
      have HA1 := Lib.hid (RdA.move hmv hA1)
      have HS1 := Lib.hid (RdS.move hmv hS1)
      have hmn1 : n1 ≤ 9223372036854775807 := by have := hA1.2.1; have := hA1.2.2.1; unfold maxLen at this; omega
      clear hx hA1 hS1 hbX hmv hB
      by_cases v0 : (20 : Int) < (n1 : Int)
      · go_wp2
        go_ret
        exact ⟨true, rfl, HB1.out, fun h => by cases h⟩
      by_cases v1 : (20 : Int) < (n2 : Int)
      · go_wp2
        go_ret
        exact ⟨true, rfl, HB1.out, fun h => by cases h⟩
      by_cases v2 : (200 : Int) < (x.name.size : Int)
      · go_wp2
        go_ret
        exact ⟨true, rfl, HB1.out, fun h => by cases h⟩
      by_cases v3 : (200 : Int) < (x.space.size : Int)
      · go_wp2
        go_ret
        exact ⟨true, rfl, HB1.out, fun h => by cases h⟩
      by_cases v4 : (200 : Int) < (x.text.size : Int)
      · go_wp2
        go_ret
        exact ⟨true, rfl, HB1.out, fun h => by cases h⟩
      have HS5 := Lib.hid (And.intro (show x.name.size ≤ 200 by omega) (And.intro (show x.space.size ≤ 200 by omega) (show x.text.size ≤ 200 by omega)))
      have HN2 := Lib.hid (And.intro (show n1 ≤ 20 by omega) (show n2 ≤ 20 by omega))
      go_wp2
      go_loopw [7] (fun i wr' => ∃ j : Nat, j ≤ n1 ∧ i = .int .i64 j ∧ Hid (∀ t ∈ x.attrs.take j, SmA t) ∧ wr' = wr.alloc (.cells #[.int .i64 x.par, .int .i64 x.kind, .string x.space, .string x.name, .slice a1 n1 c1, .slice a2 n2 c2, .string x.text] 44)) (fun i _ => n1 - (intOf i).toNat)
      case atStart => exact ⟨0, Nat.zero_le _, rfl, Lib.hid (fun t ht => by simp at ht), rfl⟩
      case round =>
        obtain ⟨j, hj, rfl, hq, rfl⟩ := hrel
        by_cases hlt1 : j < n1
        · obtain ⟨t, htj⟩ : ∃ t, x.attrs[j]? = some t := ⟨_, List.getElem?_eq_getElem (by rw [← HA1.out.1]; exact hlt1)⟩
          obtain ⟨g1, off1, rfl, hg1, t0, t1, t2, _⟩ := HA1.out.at j t htj
          have hjI : (0 : Int) ≤ (j : Int) := by omega
          have hjI2 : (j : Int) < (n1 : Int) := by omega
          by_cases u0 : (200 : Int) < (t.name.size : Int)
          · go_wp2
            go_ret
            exact ⟨true, rfl, HB1.out, fun h => by cases h⟩
          by_cases u1 : (200 : Int) < (t.space.size : Int)
          · go_wp2
            go_ret
            exact ⟨true, rfl, HB1.out, fun h => by cases h⟩
          by_cases u2 : (200 : Int) < (t.val.size : Int)
          · go_wp2
            go_ret
            exact ⟨true, rfl, HB1.out, fun h => by cases h⟩
          have hst := Lib.hid (show ∀ t ∈ x.attrs.take (j + 1), SmA t from fun u hu => by
            rw [List.take_add_one, htj] at hu
            rcases List.mem_append.1 hu with hu | hu
            · exact hq.out u hu
            · rw [List.mem_singleton.1 hu]
              exact ⟨by omega, by omega, by omega⟩)
          clear hq htj
          go_wp2
          go_roundw
          case rel => exact ⟨j + 1, by omega, by go_num, hst, by first | rfl | trivial⟩
          case measure => simp [intOf]; omega
        · have hjI2 : ¬ (j : Int) < (n1 : Int) := by omega
          have hst := Lib.hid (show ∀ y ∈ xs.take (k + 1), SmN y from fun y hy => by
            rw [List.take_add_one, HXK.out] at hy
            rcases List.mem_append.1 hy with hy | hy
            · exact hp.out y hy
            · rw [List.mem_singleton.1 hy]
              refine ⟨by rw [← HA1.out.1]; exact HN2.out.1, by rw [← HS1.out.1]; exact HN2.out.2, HS5.out.1, HS5.out.2.1, HS5.out.2.2, ?_⟩
              have := hq.out
              rwa [List.take_of_length_le (by rw [← HA1.out.1]; omega)] at this)
          clear hp hq
          go_wp2
          go_roundw
          case rel => exact ⟨k + 1, by omega, by go_num, hst, HB1.out⟩
          case measure => simp [intOf]; omega
    · have hkI : ¬ (k : Int) < (n : Int) := by omega
      have hres := Lib.hid (show ∀ x ∈ xs, SmN x from by
        have := hp.out
        rwa [List.take_of_length_le (by rw [← HN.out]; omega)] at this)
      clear hp
      go_wp2
      go_ret
      exact ⟨false, rfl, hB, fun _ => ⟨by rw [← HN.out]; omega, hres.out⟩⟩
end Go.Proofs.Ytfgnepbpfglepaa
