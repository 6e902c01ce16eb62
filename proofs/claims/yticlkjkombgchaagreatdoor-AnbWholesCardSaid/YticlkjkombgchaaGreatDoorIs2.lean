/- errors.Is of the program's faults. -/
import Derived.Test.YticlkjkombgchaaGreatDoorIs
namespace Go.Proofs.YticlkjkombgchaaGreatDoor
open Go.RowKit Go.Extern.Stop Go.Stop Go.Extern

theorem Tryz.comparableErrno2 (w : World) : (ReflectliteType.method (fun t => do Rtype.noPackHeld "Comparable" t; (fun a : TypeInfo => Value.bool a.comparable) <$> typeInfo t) #[.agg #[.pointer (some ⟨10, 54, none⟩)]]).run Tryz.prog w = .ok (.bool true) w := by kernel_rfl

set_option maxRecDepth 100000 in
set_option maxHeartbeats 2000000 in
/-- errors.Is at a kind, where what errors.is tells is known. -/
theorem Is_of (e : Nat) (t : Int) (b : Bool) (w : World) (h : Calls Tryz.prog 61 #[fltV e, kndV t, .bool true] w fun r w' => r = .returned (.bool b) ∧ w' = w) :
    Calls Tryz.prog 38 #[fltV e, kndV t] w fun r w' => r = .returned (.bool b) ∧ w' = w := by
  have h10 := @run_callFunc_extern Tryz.prog 60 _ ReflectliteType.typeOf Tryz.func60 (by kernel_rfl) (by kernel_rfl) (by kernel_rfl) (by kernel_rfl)
  have h11 := @run_callFunc_extern Tryz.prog 218 _ (ReflectliteType.method (fun t => do Rtype.noPackHeld "Comparable" t; pure (.bool (← typeInfo t).comparable))) Tryz.func218 (by kernel_rfl) (by kernel_rfl) (by kernel_rfl) (by kernel_rfl)
  have m1 := Tryz.mComparable
  have m2 := Tryz.tOfErrno
  have m3 := Tryz.comparableErrno2
  unfold fltV kndV at *
  go_enter Tryz.func38, Tryz.ntmps38
  go_wp2_with (go_at_call 61; refine h.mono ?_; rintro r w' ⟨rfl, rfl⟩)
  go_ret
  exact ⟨rfl, rfl⟩

set_option maxRecDepth 100000 in
set_option maxHeartbeats 2000000 in
theorem has_of (e : Nat) (t : Int) (b : Bool) (w : World) (h : Calls Tryz.prog 61 #[fltV e, kndV t, .bool true] w fun r w' => r = .returned (.bool b) ∧ w' = w) :
    Calls Tryz.prog 29 #[fltV e, .int .i64 t] w fun r w' => r = .returned (.bool b) ∧ Below w.heap.size w w' := by
  have h1 := Is_of e t b w h
  unfold fltV kndV at *
  go_enter Tryz.func29, Tryz.ntmps29
  go_wp2_with (go_at_call 38; refine h1.mono ?_; rintro r w' ⟨rfl, rfl⟩)
  go_ret
  exact ⟨rfl, Below.refl _ _⟩
end Go.Proofs.YticlkjkombgchaaGreatDoor
