/- errors.Is of a fault, or of one that came from another one, at a kind. -/
import Derived.Test.YticlkjkombgchaaGreatDoorErr
namespace Go.Proofs.YticlkjkombgchaaGreatDoor
open Go.RowKit Go.Extern.Stop Go.Stop Go.Extern

def kndV (k : Int) : Value := .iface 54 (.int .i64 k)
theorem Tryz.mIs (p : Value) (w : World) : (Go.method 326 69 p "Is").run Tryz.prog w = .ok (211, p) w := by kernel_rfl
theorem Tryz.mUnwrap (p : Value) (w : World) : (Go.method 326 69 p "Unwrap").run Tryz.prog w = .ok (212, p) w := by kernel_rfl
theorem Tryz.mComparable (h : Value) (w : World) : (Go.method 326 124 (.agg #[h]) "Comparable").run Tryz.prog w = .ok (218, .agg #[h]) w := by kernel_rfl
theorem Tryz.tOfErrno (v : Value) (w : World) : (ReflectliteType.typeOf #[.iface 54 v]).run Tryz.prog w = .ok (.iface 124 (.agg #[.pointer (some ⟨10, 54, none⟩)])) w := by kernel_rfl
theorem Tryz.comparableErrno (w : World) : (ReflectliteType.method (fun t => do Rtype.noPackHeld "Comparable" t; pure (.bool (← typeInfo t).comparable)) #[.agg #[.pointer (some ⟨10, 54, none⟩)]]).run Tryz.prog w = .ok (.bool true) w := by kernel_rfl
theorem Tryz.eqFlt (e : Addr) (k : Int) (w : World) : (binOp .eql 35 (.iface 69 (.pointer (some e))) (.iface 54 (.int .i64 k))).run Tryz.prog w = .ok (.bool false) w := by kernel_rfl

theorem Tryz.assertErrno (t : Int) (w : World) : (Instr.typeAssert (.iface 54 (.int .i64 t)) 35 54 true).run Tryz.prog w = .ok (.tuple #[.int .i64 t, .bool true]) w := by kernel_rfl
theorem Tryz.assertIs (p : Addr) (w : World) : (Instr.typeAssert (.iface 69 (.pointer (some p))) 35 126 true).run Tryz.prog w = .ok (.tuple #[.iface 69 (.pointer (some p)), .bool true]) w := by kernel_rfl
theorem Tryz.assertUnwrap (p : Addr) (w : World) : (Instr.typeAssert (.iface 69 (.pointer (some p))) 35 129 true).run Tryz.prog w = .ok (.tuple #[.iface 69 (.pointer (some p)), .bool true]) w := by kernel_rfl

set_option maxRecDepth 100000 in
set_option maxHeartbeats 1000000 in
theorem fltIs_any (e : Nat) (k at_ t : Int) (v : Value) (w : World) (hB : Blk w e [.int .i64 k, .int .i64 at_, v] 73) :
    Calls Tryz.prog 211 #[.pointer (some ⟨e, 0, none⟩), kndV t] w fun r w' => r = .returned (.bool (t == k)) ∧ w' = w := by
  have h0 := hB.cell 0 _ rfl
  have a1 := Tryz.assertErrno
  unfold kndV
  go_enter Tryz.func211, Tryz.ntmps211
  go_wp2
  go_ret
  exact ⟨rfl, rfl⟩
set_option maxRecDepth 100000 in
set_option maxHeartbeats 1000000 in
theorem fltUnwrap_any (e : Nat) (k at_ : Int) (v : Value) (w : World) (hB : Blk w e [.int .i64 k, .int .i64 at_, v] 73) :
    Calls Tryz.prog 212 #[.pointer (some ⟨e, 0, none⟩)] w fun r w' => r = .returned v ∧ w' = w := by
  have h0 := hB.cell 2 _ rfl
  go_enter Tryz.func212, Tryz.ntmps212
  go_wp2
  go_ret
  exact ⟨rfl, rfl⟩

set_option maxRecDepth 100000 in
set_option maxHeartbeats 1000000 in
theorem is1_yes (e : Nat) (k at_ : Int) (v : Value) (w : World) (hB : Blk w e [.int .i64 k, .int .i64 at_, v] 73) :
    Calls Tryz.prog 61 #[fltV e, kndV k, .bool true] w fun r w' => r = .returned (.bool true) ∧ w' = w := by
  have hi := fun t w hB => fltIs_any e k at_ t v w hB
  have hu := fun w hB => fltUnwrap_any e k at_ v w hB
  have m1 := Tryz.mIs
  have m2 := Tryz.mUnwrap
  have m3 := Tryz.eqFlt
  have a2 := Tryz.assertIs
  have a3 := Tryz.assertUnwrap
  unfold fltV kndV at *
  go_enter Tryz.func61, Tryz.ntmps61
  go_wp2_with fail
  refine wp_loop_rounds 1 ?_
  rw [rounds_succ]
  go_wp2_with (go_at_call 211; refine (hi _ _ hB).mono ?_; rintro r w' ⟨rfl, rfl⟩)
  go_ret
  exact ⟨rfl, rfl⟩

set_option maxRecDepth 100000 in
set_option maxHeartbeats 1000000 in
theorem is1_no (e : Nat) (k at_ t : Int) (w : World) (hne : t ≠ k) (hB : Blk w e [.int .i64 k, .int .i64 at_, .nilIface] 73) :
    Calls Tryz.prog 61 #[fltV e, kndV t, .bool true] w fun r w' => r = .returned (.bool false) ∧ w' = w := by
  have hi := fun t w hB => fltIs_any e k at_ t .nilIface w hB
  have hu := fun w hB => fltUnwrap_any e k at_ .nilIface w hB
  have hk : (t == k) = false := beq_eq_false_iff_ne.2 hne
  have m1 := Tryz.mIs
  have m2 := Tryz.mUnwrap
  have m3 := Tryz.eqFlt
  have a2 := Tryz.assertIs
  have a3 := Tryz.assertUnwrap
  unfold fltV kndV at *
  go_enter Tryz.func61, Tryz.ntmps61
  go_wp2_with fail
  refine wp_loop_rounds 1 ?_
  rw [rounds_succ]
  go_wp2_with (first | (go_at_call 211; refine (hi _ _ hB).mono ?_; rintro r w' ⟨rfl, rfl⟩) | (go_at_call 212; refine (hu _ hB).mono ?_; rintro r w' ⟨rfl, rfl⟩))
  go_ret
  exact ⟨rfl, rfl⟩

set_option maxRecDepth 100000 in
set_option maxHeartbeats 2000000 in
theorem is2_in (e e2 : Nat) (k at_ k2 at2 : Int) (v : Value) (w : World) (hne : k2 ≠ k) (hB : Blk w e [.int .i64 k, .int .i64 at_, fltV e2] 73) (hB2 : Blk w e2 [.int .i64 k2, .int .i64 at2, v] 73) :
    Calls Tryz.prog 61 #[fltV e, kndV k2, .bool true] w fun r w' => r = .returned (.bool true) ∧ w' = w := by
  have hi := fun t w hB => fltIs_any e k at_ t (fltV e2) w hB
  have hu := fun w hB => fltUnwrap_any e k at_ (fltV e2) w hB
  have hi2 := fun t w hB => fltIs_any e2 k2 at2 t v w hB
  have hk : (k2 == k) = false := beq_eq_false_iff_ne.2 hne
  have m1 := Tryz.mIs
  have m2 := Tryz.mUnwrap
  have m3 := Tryz.eqFlt
  have a2 := Tryz.assertIs
  have a3 := Tryz.assertUnwrap
  unfold fltV kndV at *
  go_enter Tryz.func61, Tryz.ntmps61
  go_wp2_with fail
  refine wp_loop_rounds 2 ?_
  rw [rounds_succ]
  go_wp2_with (first | (go_at_call 211; refine (hi _ _ hB).mono ?_; rintro r w' ⟨rfl, rfl⟩) | (go_at_call 212; refine (hu _ hB).mono ?_; rintro r w' ⟨rfl, rfl⟩))
  rw [rounds_succ]
  go_wp2_with (first | (go_at_call 211; refine (hi2 _ _ hB2).mono ?_; rintro r w' ⟨rfl, rfl⟩))
  go_ret
  exact ⟨rfl, rfl⟩

set_option maxRecDepth 100000 in
set_option maxHeartbeats 2000000 in
theorem is2_no (e e2 : Nat) (k at_ k2 at2 t : Int) (w : World) (hne : t ≠ k) (hne2 : t ≠ k2) (hB : Blk w e [.int .i64 k, .int .i64 at_, fltV e2] 73) (hB2 : Blk w e2 [.int .i64 k2, .int .i64 at2, .nilIface] 73) :
    Calls Tryz.prog 61 #[fltV e, kndV t, .bool true] w fun r w' => r = .returned (.bool false) ∧ w' = w := by
  have hi := fun t w hB => fltIs_any e k at_ t (fltV e2) w hB
  have hu := fun w hB => fltUnwrap_any e k at_ (fltV e2) w hB
  have hi2 := fun t w hB => fltIs_any e2 k2 at2 t .nilIface w hB
  have hu2 := fun w hB => fltUnwrap_any e2 k2 at2 .nilIface w hB
  have hk : (t == k) = false := beq_eq_false_iff_ne.2 hne
  have hk2 : (t == k2) = false := beq_eq_false_iff_ne.2 hne2
  have m1 := Tryz.mIs
  have m2 := Tryz.mUnwrap
  have m3 := Tryz.eqFlt
  have a2 := Tryz.assertIs
  have a3 := Tryz.assertUnwrap
  unfold fltV kndV at *
  go_enter Tryz.func61, Tryz.ntmps61
  go_wp2_with fail
  refine wp_loop_rounds 2 ?_
  rw [rounds_succ]
  go_wp2_with (first | (go_at_call 211; refine (hi _ _ hB).mono ?_; rintro r w' ⟨rfl, rfl⟩) | (go_at_call 212; refine (hu _ hB).mono ?_; rintro r w' ⟨rfl, rfl⟩))
  rw [rounds_succ]
  go_wp2_with (first | (go_at_call 211; refine (hi2 _ _ hB2).mono ?_; rintro r w' ⟨rfl, rfl⟩) | (go_at_call 212; refine (hu2 _ hB2).mono ?_; rintro r w' ⟨rfl, rfl⟩))
  go_ret
  exact ⟨rfl, rfl⟩

end Go.Proofs.YticlkjkombgchaaGreatDoor
