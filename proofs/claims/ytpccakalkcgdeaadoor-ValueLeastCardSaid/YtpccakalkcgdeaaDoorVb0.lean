/- The shortest value of which a condition holds: walks. -/
import Derived.Test.YtpccakalkcgdeaaDoorVu
import Derived.Test.YtpccakalkcgdeaaDoorShelfC
namespace Go.Proofs.YtpccakalkcgdeaaDoor
open Go.RowKit
set_option linter.unusedVariables false

set_option maxRecDepth 100000 in
theorem clone_any (s : ByteArray) (w : World) (hs : s.size ≤ 1000000) : Calls Tryd.prog 34 #[.string s] w (Told (.string s) w) := by
  have hC := fun w => Tryd.stringslite_Clone s w (by omega)
  go_enter Tryd.func34, Tryd.ntmps34
  go_wp2_with fail
  refine (hC _).mono ?_
  rintro e w1 ⟨rfl, hb⟩
  go_wp2
  go_ret
  exact ⟨rfl, hb⟩

theorem ret_sb {a c : ByteArray} {b d : Bool} (h : a = c) (h2 : b = d) : Ending.returned (.tuple #[.string a, .bool b]) = Ending.returned (.tuple #[.string c, .bool d]) := by rw [h, h2]
/-- The value that is told. -/
def leastF (op : Int) (t : ByteArray) (fold : Bool) : ByteArray := if neverF op (strB t) fold = true ∨ op = 1 then ⟨#[]⟩ else t

set_option maxRecDepth 100000 in
set_option maxHeartbeats 2000000 in
theorem least_any (op : Int) (fold : Bool) (t : ByteArray) (w : World) (hL : LibW w) (ht : t.size ≤ 1000000) :
    Calls Tryd.prog 26 #[.agg #[.int .i64 op, .string t, .bool fold]] w (Told (.tuple #[.string (leastF op t fold), .bool (!neverF op (strB t) fold)]) w) := by
  have cN := fun w h => never_any op fold t w h ht
  have cC := fun w => clone_any t w ht
  have hA := Blk.alloc (w := w) [.int .i64 op, .string t, .bool fold] 34
  have B1 : Below w.heap.size w (w.alloc (.cells #[.int .i64 op, .string t, .bool fold] 34)) := (Below.refl _ w).alloc (Nat.le_refl _) _
  obtain ⟨a0, a1, a2⟩ := cells3 hA
  have HA := Lib.hid hA
  clear hA
  have HL := Lib.hid (hL.later B1)
  clear hL
  unfold leastF
  cases hn : neverF op (strB t) fold
  · rw [hn] at cN
    clear hn
    by_cases h1 : op = 1
    · subst h1
      rw [if_pos (.inr rfl)]
      go_enter Tryd.func26, Tryd.ntmps26
      go_wp2_with fail
      refine (cN _ HL.out).mono ?_
      rintro e w1 ⟨rfl, hb1⟩
      have B2 := below_trans B1 hb1
      obtain ⟨x0, x1, x2⟩ := cells3 (HA.out.later hb1 HA.out.lt)
      go_wp2
      go_ret2
      exact ⟨ret_sb rfl rfl, B2⟩
    · rw [if_neg (by simp [h1])]
      have q1 : (op == 1) = false := by rw [beq_eq_false_iff_ne]; exact h1
      go_enter Tryd.func26, Tryd.ntmps26
      go_wp2_with fail
      refine (cN _ HL.out).mono ?_
      rintro e w1 ⟨rfl, hb1⟩
      have B2 := below_trans B1 hb1
      obtain ⟨x0, x1, x2⟩ := cells3 (HA.out.later hb1 HA.out.lt)
      go_wp2_with fail
      refine (cC _).mono ?_
      rintro e w2 ⟨rfl, hb2⟩
      have B3 := below_trans B2 hb2
      go_wp2
      go_ret2
      exact ⟨ret_sb rfl rfl, B3⟩
  · rw [hn] at cN
    rw [if_pos (.inl rfl)]
    clear hn
    go_enter Tryd.func26, Tryd.ntmps26
    go_wp2_with fail
    refine (cN _ HL.out).mono ?_
    rintro e w1 ⟨rfl, hb1⟩
    have B2 := below_trans B1 hb1
    go_wp2
    go_ret2
    exact ⟨ret_sb rfl rfl, B2⟩
end Go.Proofs.YtpccakalkcgdeaaDoor
