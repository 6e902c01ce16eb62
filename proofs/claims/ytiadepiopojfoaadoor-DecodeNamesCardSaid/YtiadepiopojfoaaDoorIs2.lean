/- errors.Is of the program's faults. -/
import Derived.Test.YtiadepiopojfoaaDoorIs
namespace Go.Proofs.YtiadepiopojfoaaDoor
open Go.RowKit Go.Extern.Stop Go.Stop Go.Extern

theorem Tryd.comparableErrno2 (w : World) : (ReflectliteType.method (fun t => do Rtype.noPackHeld "Comparable" t; (fun a : TypeInfo => Value.bool a.comparable) <$> typeInfo t) #[.agg #[.pointer (some ⟨4, 26, none⟩)]]).run Tryd.prog w = .ok (.bool true) w := by kernel_rfl

set_option maxRecDepth 100000 in
set_option maxHeartbeats 2000000 in
/-- errors.Is at a kind, where what errors.is tells is known. -/
theorem Is_of (e : Nat) (t : Int) (b : Bool) (w : World) (h : Calls Tryd.prog 55 #[fltV e, kndV t, .bool true] w fun r w' => r = .returned (.bool b) ∧ w' = w) :
    Calls Tryd.prog 28 #[fltV e, kndV t] w fun r w' => r = .returned (.bool b) ∧ w' = w := by
  have h10 := @run_callFunc_extern Tryd.prog 54 _ ReflectliteType.typeOf Tryd.func54 (by kernel_rfl) (by kernel_rfl) (by kernel_rfl) (by kernel_rfl)
  have h11 := @run_callFunc_extern Tryd.prog 116 _ (ReflectliteType.method (fun t => do Rtype.noPackHeld "Comparable" t; pure (.bool (← typeInfo t).comparable))) Tryd.func116 (by kernel_rfl) (by kernel_rfl) (by kernel_rfl) (by kernel_rfl)
  have m1 := Tryd.mComparable
  have m2 := Tryd.tOfErrno
  have m3 := Tryd.comparableErrno2
  unfold fltV kndV at *
  go_enter Tryd.func28, Tryd.ntmps28
  go_wp2_with (go_at_call 55; refine h.mono ?_; rintro r w' ⟨rfl, rfl⟩)
  go_ret
  exact ⟨rfl, rfl⟩

set_option maxRecDepth 100000 in
set_option maxHeartbeats 2000000 in
theorem has_of (e : Nat) (t : Int) (b : Bool) (w : World) (h : Calls Tryd.prog 55 #[fltV e, kndV t, .bool true] w fun r w' => r = .returned (.bool b) ∧ w' = w) :
    Calls Tryd.prog 13 #[fltV e, .int .i64 t] w fun r w' => r = .returned (.bool b) ∧ Below w.heap.size w w' := by
  have h1 := Is_of e t b w h
  unfold fltV kndV at *
  go_enter Tryd.func13, Tryd.ntmps13
  go_wp2_with (go_at_call 28; refine h1.mono ?_; rintro r w' ⟨rfl, rfl⟩)
  go_ret
  exact ⟨rfl, Below.refl _ _⟩
end Go.Proofs.YtiadepiopojfoaaDoor
