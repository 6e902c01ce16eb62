/- Whether a condition holds of a value, by the document: the walk. -/
import Derived.Test.YtpccakalkcgdeaaDoorVp
namespace Go.Proofs.YtpccakalkcgdeaaDoor
open Go.RowKit
set_option linter.unusedVariables false
set_option linter.unusedSimpArgs false


set_option maxRecDepth 100000 in
set_option maxHeartbeats 4000000 in
theorem rholds_dash_n (fold : Bool) (t v T V : ByteArray) (w : World) (eT : nS fold t = T) (eV : nS fold v = V) (ht : t.size ≤ 1000000) (hv : v.size ≤ 1000000) (hT : T.size ≤ 999999) (hV : V.size ≤ 1000000) (hq : (T.toList == V.toList) = false) :
    Calls Tryd.prog 22 #[.agg #[.int .i64 4, .string t, .bool fold], .string v] w (Told (.bool (atB (strB V) 0 (strB (T ++ ⟨#[45]⟩)))) w) := by
  have hA := Blk.alloc (w := w) [.int .i64 4, .string t, .bool fold] 34
  have B1 : Below w.heap.size w (w.alloc (.cells #[.int .i64 4, .string t, .bool fold] 34)) := (Below.refl _ w).alloc (Nat.le_refl _) _
  obtain ⟨a0, a1, a2⟩ := cellsC hA
  have hlt := hA.lt
  have HA := Lib.hid hA
  clear hA
  cases fold
  · obtain rfl : T = t := eT.symm
    obtain rfl : V = v := eV.symm
    have hbx := B1
    have HAx := HA
    have hz : ¬ 9223372036854775807 < T.size + (⟨#[45]⟩ : ByteArray).size := by rw [show (⟨#[45]⟩ : ByteArray).size = 1 from rfl]; omega
    have hsz : (T ++ (⟨#[45]⟩ : ByteArray)).size ≤ 1000000 := Nat.le_trans (Nat.le_of_eq (size45' T)) (Nat.succ_le_succ hT)
    have hat := fun w => rat_any V (T ++ ⟨#[45]⟩) 0 w hV hsz (Nat.zero_le _)
    rw [show ((0 : Nat) : Int) = 0 from rfl] at hat
    clear hsz
    generalize atB (strB V) 0 (strB (T ++ ⟨#[45]⟩)) = z at *
    go_enter Tryd.func22, Tryd.ntmps22
    go_wp2_with (go_at_call 54; refine (hat _).mono ?_; rintro e w4 ⟨rfl, hw4⟩; replace hw4 := hw4.symm; subst hw4)
    go_ret
    exact ⟨rfl, hbx⟩
  · have c1 := fun w => rlower_any t w (by omega)
    have c2 := fun w => rlower_any v w (by omega)
    rw [show lowS t = T from eT] at c1
    rw [show lowS v = V from eV] at c2
    clear eT eV
    go_enter Tryd.func22, Tryd.ntmps22
    go_wp2_with fail
    refine (c1 _).mono ?_
    rintro e w2 ⟨rfl, hb2⟩
    go_wp2_with fail
    refine (c2 _).mono ?_
    rintro e w3 ⟨rfl, hb3⟩
    have hb23 := below_trans hb2 hb3
    have HAx := Lib.hid (HA.out.later hb23 hlt)
    have hbx := below_trans B1 hb23
    clear a0 a1 a2 c1 c2 HA
    obtain ⟨a0, a1, a2⟩ := cellsC HAx.out
    have hz : ¬ 9223372036854775807 < T.size + (⟨#[45]⟩ : ByteArray).size := by rw [show (⟨#[45]⟩ : ByteArray).size = 1 from rfl]; omega
    have hsz : (T ++ (⟨#[45]⟩ : ByteArray)).size ≤ 1000000 := Nat.le_trans (Nat.le_of_eq (size45' T)) (Nat.succ_le_succ hT)
    have hat := fun w => rat_any V (T ++ ⟨#[45]⟩) 0 w hV hsz (Nat.zero_le _)
    rw [show ((0 : Nat) : Int) = 0 from rfl] at hat
    clear hsz
    generalize atB (strB V) 0 (strB (T ++ ⟨#[45]⟩)) = z at *
    go_wp2_with (go_at_call 54; refine (hat _).mono ?_; rintro e w4 ⟨rfl, hw4⟩; replace hw4 := hw4.symm; subst hw4)
    go_ret
    exact ⟨rfl, hbx⟩
end Go.Proofs.YtpccakalkcgdeaaDoor
