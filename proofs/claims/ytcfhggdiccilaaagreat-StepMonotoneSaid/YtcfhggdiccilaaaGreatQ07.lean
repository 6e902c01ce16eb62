/- Texts of mine in one: Raw Kinds Start Name Vw Vx Lw. -/
import Derived.Test.YtcfhggdiccilaaaGreatQ05
import Derived.Test.YtcfhggdiccilaaaGreatQ04
import Derived.Test.YtcfhggdiccilaaaGreatQ06
import Derived.Lib.FieldsP
import Derived.Lib.SpaceUEq
import Derived.Test.YtcfhggdiccilaaaGreatQ01
import Derived.Laws.IdiomStrings
namespace Go.Proofs.YtcfhggdiccilaaaGreat
section
open Go.RowKit
def Ch (c : Int) : Prop := 0 ≤ c ∧ c < 1114112
def smallF (c : Int) : Int := if 65 ≤ c ∧ c ≤ 90 then c + 32 else c
def digitB (c : Int) : Bool := decide (48 ≤ c ∧ c ≤ 57)
def startB (c : Int) : Bool := decide ((97 ≤ smallF c ∧ smallF c ≤ 122) ∨ c = 95 ∨ 128 ≤ c)
def nameB (c : Int) : Bool := startB c || digitB c || decide (c = 45)
def spaceB (c : Int) : Bool := decide (c = 32 ∨ c = 9 ∨ c = 10)
theorem smallF_ch {c : Int} (h : Ch c) : Ch (smallF c) := by unfold Ch at *; unfold smallF; split <;> omega
set_option maxRecDepth 100000 in
set_option maxHeartbeats 1000000 in
theorem rsmall_any (c : Int) (w : World) (hc : Ch c) : Calls Tryz.prog 124 #[.int .i64 c] w (Tells (.int .i64 (smallF c)) w) := by
  have hs := smallF_ch hc
  obtain ⟨h0, h1⟩ := hc
  obtain ⟨s0, s1⟩ := hs
  have e1 : c - 65 + 97 = c + 32 := by omega
  rcases (show (¬ 65 ≤ c) ∨ (65 ≤ c ∧ c ≤ 90) ∨ (65 ≤ c ∧ ¬ c ≤ 90) from by omega) with ⟨q0⟩ | ⟨q0, q1⟩ | ⟨q0, q1⟩
  · rw [show smallF c = c from by unfold smallF; rw [if_neg (by omega)]]
    go_enter Tryz.func124, Tryz.ntmps124
    go_wp2
    go_ret
    exact ⟨rfl, rfl⟩
  · rw [show smallF c = c + 32 from by unfold smallF; rw [if_pos (by omega)]]
    go_enter Tryz.func124, Tryz.ntmps124
    go_wp2
    go_ret
    exact ⟨rfl, rfl⟩
  · rw [show smallF c = c from by unfold smallF; rw [if_neg (by omega)]]
    go_enter Tryz.func124, Tryz.ntmps124
    go_wp2
    go_ret
    exact ⟨rfl, rfl⟩
set_option maxRecDepth 100000 in
set_option maxHeartbeats 1000000 in
theorem rdigit_any (c : Int) (w : World) (hc : Ch c) : Calls Tryz.prog 122 #[.int .i64 c] w (Tells (.bool (digitB c)) w) := by
  have hs := smallF_ch hc
  obtain ⟨h0, h1⟩ := hc
  obtain ⟨s0, s1⟩ := hs
  have e1 : c - 65 + 97 = c + 32 := by omega
  rcases (show (¬ 48 ≤ c) ∨ (48 ≤ c ∧ c ≤ 57) ∨ (48 ≤ c ∧ ¬ c ≤ 57) from by omega) with ⟨q0⟩ | ⟨q0, q1⟩ | ⟨q0, q1⟩
  · rw [show digitB c = false from by exact decide_eq_false (by omega)]
    go_enter Tryz.func122, Tryz.ntmps122
    go_wp2
    go_ret
    exact ⟨rfl, rfl⟩
  · rw [show digitB c = true from by exact decide_eq_true (by omega)]
    go_enter Tryz.func122, Tryz.ntmps122
    go_wp2
    go_ret
    exact ⟨rfl, rfl⟩
  · rw [show digitB c = false from by exact decide_eq_false (by omega)]
    go_enter Tryz.func122, Tryz.ntmps122
    go_wp2
    go_ret
    exact ⟨rfl, rfl⟩
end

section
open Go.RowKit
set_option maxRecDepth 100000 in
set_option maxHeartbeats 1000000 in
theorem rstart_any (c : Int) (w : World) (hc : Ch c) : Calls Tryz.prog 123 #[.int .i64 c] w (Tells (.bool (startB c)) w) := by
  have hs := smallF_ch hc
  obtain ⟨h0, h1⟩ := hc
  obtain ⟨s0, s1⟩ := hs
  have e1 : c - 65 + 97 = c + 32 := by omega
  rcases (show (97 ≤ smallF c ∧ smallF c ≤ 122) ∨ (¬ 97 ≤ smallF c ∧ c = 95) ∨ (¬ 97 ≤ smallF c ∧ c ≠ 95 ∧ 128 ≤ c) ∨ (¬ 97 ≤ smallF c ∧ c ≠ 95 ∧ ¬ 128 ≤ c) ∨ (97 ≤ smallF c ∧ ¬ smallF c ≤ 122 ∧ c = 95) ∨ (97 ≤ smallF c ∧ ¬ smallF c ≤ 122 ∧ c ≠ 95 ∧ 128 ≤ c) ∨ (97 ≤ smallF c ∧ ¬ smallF c ≤ 122 ∧ c ≠ 95 ∧ ¬ 128 ≤ c) from by omega) with ⟨q0, q1⟩ | ⟨q0, rfl⟩ | ⟨q0, q1, q2⟩ | ⟨q0, q1, q2⟩ | ⟨q0, q1, rfl⟩ | ⟨q0, q1, q2, q3⟩ | ⟨q0, q1, q2, q3⟩
  · rw [show startB c = true from by exact decide_eq_true (by omega)]
    have hk := fun w => rsmall_any c w ⟨h0, h1⟩
    generalize smallF c = s at *
    go_enter Tryz.func123, Tryz.ntmps123
    go_wp2_with fail
    refine (hk _).mono ?_
    rintro e w1 ⟨rfl, rfl⟩
    go_wp2
    go_ret
    exact ⟨rfl, rfl⟩
  · rw [show startB 95 = true from by exact decide_eq_true (by omega)]
    have hk := fun w => rsmall_any 95 w ⟨h0, h1⟩
    generalize smallF 95 = s at *
    go_enter Tryz.func123, Tryz.ntmps123
    go_wp2_with fail
    refine (hk _).mono ?_
    rintro e w1 ⟨rfl, rfl⟩
    go_wp2
    go_ret
    exact ⟨rfl, rfl⟩
  · rw [show startB c = true from by exact decide_eq_true (by omega)]
    have n95 : (c == 95) = false := beq_eq_false_iff_ne.2 (by omega)
    have hk := fun w => rsmall_any c w ⟨h0, h1⟩
    generalize smallF c = s at *
    go_enter Tryz.func123, Tryz.ntmps123
    go_wp2_with fail
    refine (hk _).mono ?_
    rintro e w1 ⟨rfl, rfl⟩
    go_wp2
    go_ret
    exact ⟨rfl, rfl⟩
  · rw [show startB c = false from by exact decide_eq_false (by omega)]
    have n95 : (c == 95) = false := beq_eq_false_iff_ne.2 (by omega)
    have d128 : decide (128 ≤ c) = false := decide_eq_false q2
    have hk := fun w => rsmall_any c w ⟨h0, h1⟩
    generalize smallF c = s at *
    go_enter Tryz.func123, Tryz.ntmps123
    go_wp2_with fail
    refine (hk _).mono ?_
    rintro e w1 ⟨rfl, rfl⟩
    go_wp2
    go_ret
    exact ⟨rfl, rfl⟩
  · rw [show startB 95 = true from by exact decide_eq_true (by omega)]
    have hk := fun w => rsmall_any 95 w ⟨h0, h1⟩
    generalize smallF 95 = s at *
    go_enter Tryz.func123, Tryz.ntmps123
    go_wp2_with fail
    refine (hk _).mono ?_
    rintro e w1 ⟨rfl, rfl⟩
    go_wp2
    go_ret
    exact ⟨rfl, rfl⟩
  · rw [show startB c = true from by exact decide_eq_true (by omega)]
    have n95 : (c == 95) = false := beq_eq_false_iff_ne.2 (by omega)
    have d122 : decide (smallF c ≤ 122) = false := decide_eq_false q1
    have hk := fun w => rsmall_any c w ⟨h0, h1⟩
    generalize smallF c = s at *
    go_enter Tryz.func123, Tryz.ntmps123
    go_wp2_with fail
    refine (hk _).mono ?_
    rintro e w1 ⟨rfl, rfl⟩
    go_wp2
    go_ret
    exact ⟨rfl, rfl⟩
  · rw [show startB c = false from by exact decide_eq_false (by omega)]
    have n95 : (c == 95) = false := beq_eq_false_iff_ne.2 (by omega)
    have d128 : decide (128 ≤ c) = false := decide_eq_false q3
    have d122 : decide (smallF c ≤ 122) = false := decide_eq_false q1
    have hk := fun w => rsmall_any c w ⟨h0, h1⟩
    generalize smallF c = s at *
    go_enter Tryz.func123, Tryz.ntmps123
    go_wp2_with fail
    refine (hk _).mono ?_
    rintro e w1 ⟨rfl, rfl⟩
    go_wp2
    go_ret
    exact ⟨rfl, rfl⟩
end

section
open Go.RowKit
def hexV (c : Int) : Int := if 48 ≤ c ∧ c ≤ 57 then c - 48 else if 97 ≤ smallF c ∧ smallF c ≤ 102 then smallF c - 87 else -1
set_option maxRecDepth 100000 in
set_option maxHeartbeats 1000000 in
theorem rspace_any (c : Int) (w : World) (hc : Ch c) : Calls Tryz.prog 72 #[.int .i64 c] w (Tells (.bool (spaceB c)) w) := by
  obtain ⟨h0, h1⟩ := hc
  rcases (show (c = 32) ∨ (c = 9) ∨ (c = 10) ∨ (c ≠ 32 ∧ c ≠ 9 ∧ c ≠ 10) from by omega) with rfl | rfl | rfl | ⟨q0, q1, q2⟩
  · go_enter Tryz.func72, Tryz.ntmps72
    go_wp2
    go_ret
    exact ⟨rfl, rfl⟩
  · go_enter Tryz.func72, Tryz.ntmps72
    go_wp2
    go_ret
    exact ⟨rfl, rfl⟩
  · go_enter Tryz.func72, Tryz.ntmps72
    go_wp2
    go_ret
    exact ⟨rfl, rfl⟩
  · rw [show spaceB c = false from decide_eq_false (by omega)]
    have n0 : (c == 32) = false := beq_eq_false_iff_ne.2 q0
    have n1 : (c == 9) = false := beq_eq_false_iff_ne.2 q1
    have n2 : (c == 10) = false := beq_eq_false_iff_ne.2 q2
    go_enter Tryz.func72, Tryz.ntmps72
    go_wp2
    go_ret
    exact ⟨rfl, rfl⟩
set_option maxRecDepth 100000 in
set_option maxHeartbeats 1000000 in
theorem rname_any (c : Int) (w : World) (hc : Ch c) : Calls Tryz.prog 112 #[.int .i64 c] w (Tells (.bool (nameB c)) w) := by
  have hs := fun w => rstart_any c w hc
  have hd := fun w => rdigit_any c w hc
  unfold nameB
  obtain ⟨h0, h1⟩ := hc
  by_cases h : c = 45
  · rw [show decide (c = 45) = true from decide_eq_true h]
    have n0 : (c == 45) = true := beq_iff_eq.2 h
    clear h
    generalize startB c = s at *
    generalize digitB c = d at *
    cases s <;> cases d
    all_goals
      go_enter Tryz.func112, Tryz.ntmps112
      go_wp2_with (first | (go_at_call 123; refine (hs _).mono ?_; rintro e w1 ⟨rfl, rfl⟩) | (go_at_call 122; refine (hd _).mono ?_; rintro e w1 ⟨rfl, rfl⟩))
      go_ret
      exact ⟨rfl, rfl⟩
  · rw [show decide (c = 45) = false from decide_eq_false h]
    have n0 : (c == 45) = false := beq_eq_false_iff_ne.2 h
    generalize startB c = s at *
    generalize digitB c = d at *
    cases s <;> cases d
    all_goals
      go_enter Tryz.func112, Tryz.ntmps112
      go_wp2_with (first | (go_at_call 123; refine (hs _).mono ?_; rintro e w1 ⟨rfl, rfl⟩) | (go_at_call 122; refine (hd _).mono ?_; rintro e w1 ⟨rfl, rfl⟩))
      go_ret
      exact ⟨rfl, rfl⟩
end

section
open Go.RowKit
def strB (s : ByteArray) : List UInt8 := s.data.toList
theorem strB_len (s : ByteArray) : (strB s).length = s.size := by unfold strB; rw [Array.length_toList]; rfl
end

section
open Go.RowKit
theorem conv3_any {P : Program} (w : World) (src e dst : TypeId) (hs : P.underlying src = some (.slice e)) (he : P.underlying e = some (.int .u8)) (hd : P.underlying dst = some .string)
    (a : Option Addr) (n cap : Nat) (zs : List Int) (hn : zs.length = n) (hr : Reads w .u8 a cap zs) : (convert src dst (.slice a n cap)).run P w = .ok (.string (strOfNums zs)) w := by
  by_cases h0 : zs = []
  · subst h0; subst hn
    rw [run_convert_bytes_string w src dst e _ _ cap hs he hd]
    cases a with
    | none => simp [Conv.bytesToString]; rfl
    | some ad => simp [Conv.bytesToString, loadCells, loadCellsFrom]; rfl
  · obtain ⟨b, off, rfl, hat⟩ := hr.2.2.resolve_left h0
    exact run_convert_bytes_arg w src e hs he b off n cap zs hn (fun i hi => by rw [List.getD_eq_getElem?_getD]; exact hat.2 i (by rw [hn]; exact hi)) dst hd
def lowL (bs : List UInt8) : List Int := bs.map fun b => smallF b.toNat
theorem lowL_len (s : ByteArray) : (lowL (strB s)).length = s.size := by unfold lowL; rw [List.length_map, strB_len]
theorem low_snoc (s : ByteArray) (k : Nat) (h : k < s.size) : (lowL (strB s)).take (k + 1) = (lowL (strB s)).take k ++ [smallF (((s[k]'h).toNat : Nat) : Int)] := by
  have hk : (lowL (strB s))[k]? = some (smallF (((s[k]'h).toNat : Nat) : Int)) := by
    unfold lowL strB
    rw [List.getElem?_map]
    have : s.data.toList[k]? = some (s[k]'h) := by
      rw [Array.getElem?_toList, Array.getElem?_eq_getElem (by exact h)]; rfl
    rw [this]; rfl
  rw [List.take_add_one, hk]; rfl
def sameB (a b : ByteArray) : Bool := decide (lowL (strB a) = lowL (strB b))
theorem sameB_len {a b : ByteArray} (h : a.size ≠ b.size) : sameB a b = false := by
  unfold sameB
  refine decide_eq_false (fun e => h ?_)
  rw [← lowL_len a, ← lowL_len b, e]
theorem lowL_at (s : ByteArray) (k : Nat) (h : k < s.size) : (lowL (strB s))[k]? = some (smallF (((s[k]'h).toNat : Nat) : Int)) := by
  unfold lowL strB
  rw [List.getElem?_map]
  have : s.data.toList[k]? = some (s[k]'h) := by
    rw [Array.getElem?_toList, Array.getElem?_eq_getElem (by exact h)]; rfl
  rw [this]; rfl
theorem sameB_not {a b : ByteArray} {k : Nat} (ha : k < a.size) (hb : k < b.size) (h : smallF (((a[k]'ha).toNat : Nat) : Int) ≠ smallF (((b[k]'hb).toNat : Nat) : Int)) : sameB a b = false := by
  unfold sameB
  refine decide_eq_false (fun e => h ?_)
  have h1 := lowL_at a k ha
  rw [e, lowL_at b k hb] at h1
  exact (Option.some.inj h1).symm
end
end Go.Proofs.YtcfhggdiccilaaaGreat
