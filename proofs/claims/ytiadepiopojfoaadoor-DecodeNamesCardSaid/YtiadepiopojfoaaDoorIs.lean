/- errors.Is of a fault, or of one that came from another one, at a kind. -/
import Derived.Test.YtiadepiopojfoaaDoorErr
namespace Go.Proofs.YtiadepiopojfoaaDoor
open Go.RowKit Go.Extern.Stop Go.Stop Go.Extern

def kndV (k : Int) : Value := .iface 26 (.int .i64 k)
theorem Tryd.mIs (p : Value) (w : World) : (Go.method 257 43 p "Is").run Tryd.prog w = .ok (108, p) w := by kernel_rfl
theorem Tryd.mUnwrap (p : Value) (w : World) : (Go.method 257 43 p "Unwrap").run Tryd.prog w = .ok (109, p) w := by kernel_rfl
theorem Tryd.mComparable (h : Value) (w : World) : (Go.method 257 93 (.agg #[h]) "Comparable").run Tryd.prog w = .ok (116, .agg #[h]) w := by kernel_rfl
theorem Tryd.tOfErrno (v : Value) (w : World) : (ReflectliteType.typeOf #[.iface 26 v]).run Tryd.prog w = .ok (.iface 93 (.agg #[.pointer (some ⟨4, 26, none⟩)])) w := by kernel_rfl
theorem Tryd.comparableErrno (w : World) : (ReflectliteType.method (fun t => do Rtype.noPackHeld "Comparable" t; pure (.bool (← typeInfo t).comparable)) #[.agg #[.pointer (some ⟨4, 26, none⟩)]]).run Tryd.prog w = .ok (.bool true) w := by kernel_rfl
theorem Tryd.eqFlt (e : Addr) (k : Int) (w : World) : (binOp .eql 24 (.iface 43 (.pointer (some e))) (.iface 26 (.int .i64 k))).run Tryd.prog w = .ok (.bool false) w := by kernel_rfl

theorem Tryd.assertErrno (t : Int) (w : World) : (Instr.typeAssert (.iface 26 (.int .i64 t)) 24 26 true).run Tryd.prog w = .ok (.tuple #[.int .i64 t, .bool true]) w := by kernel_rfl
theorem Tryd.assertIs (p : Addr) (w : World) : (Instr.typeAssert (.iface 43 (.pointer (some p))) 24 105 true).run Tryd.prog w = .ok (.tuple #[.iface 43 (.pointer (some p)), .bool true]) w := by kernel_rfl
theorem Tryd.assertUnwrap (p : Addr) (w : World) : (Instr.typeAssert (.iface 43 (.pointer (some p))) 24 100 true).run Tryd.prog w = .ok (.tuple #[.iface 43 (.pointer (some p)), .bool true]) w := by kernel_rfl

set_option maxRecDepth 100000 in
set_option maxHeartbeats 1000000 in
theorem fltIs_any (e : Nat) (k at_ t : Int) (v : Value) (w : World) (hB : Blk w e [.int .i64 k, .int .i64 at_, v] 45) :
    Calls Tryd.prog 108 #[.pointer (some ⟨e, 0, none⟩), kndV t] w fun r w' => r = .returned (.bool (t == k)) ∧ w' = w := by
  have h0 := hB.cell 0 _ rfl
  have a1 := Tryd.assertErrno
  unfold kndV
  go_enter Tryd.func108, Tryd.ntmps108
  go_wp2
  go_ret
  exact ⟨rfl, rfl⟩
set_option maxRecDepth 100000 in
set_option maxHeartbeats 1000000 in
theorem fltUnwrap_any (e : Nat) (k at_ : Int) (v : Value) (w : World) (hB : Blk w e [.int .i64 k, .int .i64 at_, v] 45) :
    Calls Tryd.prog 109 #[.pointer (some ⟨e, 0, none⟩)] w fun r w' => r = .returned v ∧ w' = w := by
  have h0 := hB.cell 2 _ rfl
  go_enter Tryd.func109, Tryd.ntmps109
  go_wp2
  go_ret
  exact ⟨rfl, rfl⟩

set_option maxRecDepth 100000 in
set_option maxHeartbeats 1000000 in
theorem is1_yes (e : Nat) (k at_ : Int) (v : Value) (w : World) (hB : Blk w e [.int .i64 k, .int .i64 at_, v] 45) :
    Calls Tryd.prog 55 #[fltV e, kndV k, .bool true] w fun r w' => r = .returned (.bool true) ∧ w' = w := by
  have hi := fun t w hB => fltIs_any e k at_ t v w hB
  have hu := fun w hB => fltUnwrap_any e k at_ v w hB
  have m1 := Tryd.mIs
  have m2 := Tryd.mUnwrap
  have m3 := Tryd.eqFlt
  have a2 := Tryd.assertIs
  have a3 := Tryd.assertUnwrap
  unfold fltV kndV at *
  go_enter Tryd.func55, Tryd.ntmps55
  go_wp2_with fail
  refine wp_loop_rounds 1 ?_
  rw [rounds_succ]
  go_wp2_with (go_at_call 108; refine (hi _ _ hB).mono ?_; rintro r w' ⟨rfl, rfl⟩)
  go_ret
  exact ⟨rfl, rfl⟩

set_option maxRecDepth 100000 in
set_option maxHeartbeats 1000000 in
theorem is1_no (e : Nat) (k at_ t : Int) (w : World) (hne : t ≠ k) (hB : Blk w e [.int .i64 k, .int .i64 at_, .nilIface] 45) :
    Calls Tryd.prog 55 #[fltV e, kndV t, .bool true] w fun r w' => r = .returned (.bool false) ∧ w' = w := by
  have hi := fun t w hB => fltIs_any e k at_ t .nilIface w hB
  have hu := fun w hB => fltUnwrap_any e k at_ .nilIface w hB
  have hk : (t == k) = false := beq_eq_false_iff_ne.2 hne
  have m1 := Tryd.mIs
  have m2 := Tryd.mUnwrap
  have m3 := Tryd.eqFlt
  have a2 := Tryd.assertIs
  have a3 := Tryd.assertUnwrap
  unfold fltV kndV at *
  go_enter Tryd.func55, Tryd.ntmps55
  go_wp2_with fail
  refine wp_loop_rounds 1 ?_
  rw [rounds_succ]
  go_wp2_with (first | (go_at_call 108; refine (hi _ _ hB).mono ?_; rintro r w' ⟨rfl, rfl⟩) | (go_at_call 109; refine (hu _ hB).mono ?_; rintro r w' ⟨rfl, rfl⟩))
  go_ret
  exact ⟨rfl, rfl⟩

set_option maxRecDepth 100000 in
set_option maxHeartbeats 2000000 in
theorem is2_in (e e2 : Nat) (k at_ k2 at2 : Int) (v : Value) (w : World) (hne : k2 ≠ k) (hB : Blk w e [.int .i64 k, .int .i64 at_, fltV e2] 45) (hB2 : Blk w e2 [.int .i64 k2, .int .i64 at2, v] 45) :
    Calls Tryd.prog 55 #[fltV e, kndV k2, .bool true] w fun r w' => r = .returned (.bool true) ∧ w' = w := by
  have hi := fun t w hB => fltIs_any e k at_ t (fltV e2) w hB
  have hu := fun w hB => fltUnwrap_any e k at_ (fltV e2) w hB
  have hi2 := fun t w hB => fltIs_any e2 k2 at2 t v w hB
  have hk : (k2 == k) = false := beq_eq_false_iff_ne.2 hne
  have m1 := Tryd.mIs
  have m2 := Tryd.mUnwrap
  have m3 := Tryd.eqFlt
  have a2 := Tryd.assertIs
  have a3 := Tryd.assertUnwrap
  unfold fltV kndV at *
  go_enter Tryd.func55, Tryd.ntmps55
  go_wp2_with fail
  refine wp_loop_rounds 2 ?_
  rw [rounds_succ]
  go_wp2_with (first | (go_at_call 108; refine (hi _ _ hB).mono ?_; rintro r w' ⟨rfl, rfl⟩) | (go_at_call 109; refine (hu _ hB).mono ?_; rintro r w' ⟨rfl, rfl⟩))
  rw [rounds_succ]
  go_wp2_with (first | (go_at_call 108; refine (hi2 _ _ hB2).mono ?_; rintro r w' ⟨rfl, rfl⟩))
  go_ret
  exact ⟨rfl, rfl⟩

set_option maxRecDepth 100000 in
set_option maxHeartbeats 2000000 in
theorem is2_no (e e2 : Nat) (k at_ k2 at2 t : Int) (w : World) (hne : t ≠ k) (hne2 : t ≠ k2) (hB : Blk w e [.int .i64 k, .int .i64 at_, fltV e2] 45) (hB2 : Blk w e2 [.int .i64 k2, .int .i64 at2, .nilIface] 45) :
    Calls Tryd.prog 55 #[fltV e, kndV t, .bool true] w fun r w' => r = .returned (.bool false) ∧ w' = w := by
  have hi := fun t w hB => fltIs_any e k at_ t (fltV e2) w hB
  have hu := fun w hB => fltUnwrap_any e k at_ (fltV e2) w hB
  have hi2 := fun t w hB => fltIs_any e2 k2 at2 t .nilIface w hB
  have hu2 := fun w hB => fltUnwrap_any e2 k2 at2 .nilIface w hB
  have hk : (t == k) = false := beq_eq_false_iff_ne.2 hne
  have hk2 : (t == k2) = false := beq_eq_false_iff_ne.2 hne2
  have m1 := Tryd.mIs
  have m2 := Tryd.mUnwrap
  have m3 := Tryd.eqFlt
  have a2 := Tryd.assertIs
  have a3 := Tryd.assertUnwrap
  unfold fltV kndV at *
  go_enter Tryd.func55, Tryd.ntmps55
  go_wp2_with fail
  refine wp_loop_rounds 2 ?_
  rw [rounds_succ]
  go_wp2_with (first | (go_at_call 108; refine (hi _ _ hB).mono ?_; rintro r w' ⟨rfl, rfl⟩) | (go_at_call 109; refine (hu _ hB).mono ?_; rintro r w' ⟨rfl, rfl⟩))
  rw [rounds_succ]
  go_wp2_with (first | (go_at_call 108; refine (hi2 _ _ hB2).mono ?_; rintro r w' ⟨rfl, rfl⟩) | (go_at_call 109; refine (hu2 _ hB2).mono ?_; rintro r w' ⟨rfl, rfl⟩))
  go_ret
  exact ⟨rfl, rfl⟩

end Go.Proofs.YtiadepiopojfoaaDoor
