/- Several texts of mine in one. -/
import Derived.Test.YtickcbmfboajiaaGreatDoorRows
import Derived.WalkKit
import Derived.LaidEql
import Derived.Stop.Asserts
import Derived.RowKitTokens
import Derived.Test.YtickcbmfboajiaaGreatDoorFA
import Derived.Test.YtickcbmfboajiaaGreatDoorFD
namespace Go.Proofs.YtickcbmfboajiaaGreatDoor
section
open Go.RowKit Go.Extern.Stop Go.Stop Go.Extern

theorem as_nil (t : Value) (w : World) :
    Calls Tryz.prog 35 #[.nilIface, t] w fun e w' => e = .returned (.bool false) ∧ w' = w := by
  go_enter Tryz.func35, Tryz.ntmps35
  go_wp2
  go_ret
  exact ⟨rfl, rfl⟩

theorem Tryz.As_valueOf27 (t : Addr) (w : World) : (ReflectliteValue.unpack (.iface 67 (.pointer (some t)))).run Tryz.prog w
    = .ok (.agg #[.pointer (some ⟨10, 67, none⟩), .pointer (some ⟨w.heap.size, 0, none⟩), .int .u64 150]) (w.alloc (.cells #[.pointer (some t)] 67)) := by kernel_rfl
theorem Tryz.As_type27 (a : Addr) (w : World) : (ReflectliteValue.methodAny (ReflectliteValue.valueError "reflectlite.Value.Type" 0) (fun t _ _ _ => ReflectliteType.toType t) #[.agg #[.pointer (some ⟨10, 67, none⟩), .pointer (some a), .int .u64 150]]).run Tryz.prog w
    = .ok (.iface 121 (.agg #[.pointer (some ⟨10, 67, none⟩)])) w := by kernel_rfl
theorem Tryz.As_methodKind (h : Value) (w : World) : (Go.method 324 121 (.agg #[h]) "Kind").run Tryz.prog w = .ok (201, h) w := by kernel_rfl
theorem Tryz.As_kind27 (w : World) : ((ReflectliteType.abiMethod fun t => (fun a : Nat => Value.int IntKind.u8 (a : Int)) <$> Rtype.kind t) #[.pointer (some ⟨10, 67, none⟩)]).run Tryz.prog w = .ok (.int .u8 22) w := by kernel_rfl
theorem Tryz.As_kind25 (w : World) : ((ReflectliteType.abiMethod fun t => (fun a : Nat => Value.int IntKind.u8 (a : Int)) <$> Rtype.kind t) #[.pointer (some ⟨10, 65, none⟩)]).run Tryz.prog w = .ok (.int .u8 22) w := by kernel_rfl

theorem rlm (z : Sem Value) (f : TypeId → Addr → Nat → Nat → Sem Value) (v : Value) :
    ReflectliteValue.method z f #[v] = (do match ← ReflectliteValue.parts v with | none => z | some (t, a, fl) => f t a fl (fl % 32)) := rfl
theorem Tryz.As_parts27 (a : Addr) (w : World) : (ReflectliteValue.parts (.agg #[.pointer (some ⟨10, 67, none⟩), .pointer (some a), .int .u64 150])).run Tryz.prog w = .ok (some (67, a, 150)) w := by kernel_rfl
theorem Tryz.As_isNil27 (a p : Addr) (W : World) (ha : W.cell? a = some (.pointer (some p))) :
    (ReflectliteValue.method (ReflectliteValue.valueError "reflectlite.Value.IsNil" 0) ReflectliteValue.isNil #[.agg #[.pointer (some ⟨10, 67, none⟩), .pointer (some a), .int .u64 150]]).run Tryz.prog W = .ok (.bool false) W := by
  rw [rlm]
  simp only [Sem.run_bind, Tryz.As_parts27, Result.andThen]
  simp [ReflectliteValue.isNil, loadVar, isAgg, underlying, Tryz.underlying67, ha, Result.andThen]

theorem Tryz.As_methodElem (h : Value) (w : World) : (Go.method 324 121 (.agg #[h]) "Elem").run Tryz.prog w = .ok (214, .agg #[h]) w := by kernel_rfl
theorem Tryz.As_methodImplements (h : Value) (w : World) : (Go.method 324 121 (.agg #[h]) "Implements").run Tryz.prog w = .ok (215, .agg #[h]) w := by kernel_rfl
theorem Tryz.As_methodAssignableTo (h : Value) (w : World) : (Go.method 324 121 (.agg #[h]) "AssignableTo").run Tryz.prog w = .ok (212, .agg #[h]) w := by kernel_rfl
theorem Tryz.As_elem27 (w : World) : (ReflectliteType.method ReflectliteType.elem #[.agg #[.pointer (some ⟨10, 67, none⟩)]]).run Tryz.prog w = .ok (.iface 121 (.agg #[.pointer (some ⟨10, 65, none⟩)])) w := by kernel_rfl
theorem Tryz.As_implements25 (w : World) : (ReflectliteType.relation "Implements" ReflectliteType.implements_ #[.agg #[.pointer (some ⟨10, 65, none⟩)], .iface 121 (.agg #[.pointer (some ⟨10, 35, none⟩)])]).run Tryz.prog w = .ok (.bool true) w := by kernel_rfl
theorem Tryz.As_typeOf25 (v : Value) (w : World) : (ReflectliteType.typeOf #[.iface 65 v]).run Tryz.prog w = .ok (.iface 121 (.agg #[.pointer (some ⟨10, 65, none⟩)])) w := by kernel_rfl
theorem Tryz.As_assignable25 (w : World) : (ReflectliteType.relation "AssignableTo" ReflectliteType.assignableTo #[.agg #[.pointer (some ⟨10, 65, none⟩)], .iface 121 (.agg #[.pointer (some ⟨10, 65, none⟩)])]).run Tryz.prog w = .ok (.bool true) w := by kernel_rfl
theorem Tryz.As_valueOf25 (e : Addr) (w : World) : (ReflectliteValue.unpack (.iface 65 (.pointer (some e)))).run Tryz.prog w
    = .ok (.agg #[.pointer (some ⟨10, 65, none⟩), .pointer (some ⟨w.heap.size, 0, none⟩), .int .u64 150]) (w.alloc (.cells #[.pointer (some e)] 65)) := by kernel_rfl

theorem Tryz.As_elemOf27 (w : World) : (Rtype.elem? 67).run Tryz.prog w = .ok (some 65) w := by kernel_rfl
theorem Tryz.As_mk25 (p : Addr) (w : World) : (ReflectliteValue.mk 65 p ReflectliteValue.flagAddr).run Tryz.prog w = .ok (.agg #[.pointer (some ⟨10, 65, none⟩), .pointer (some p), .int .u64 406]) w := by kernel_rfl
theorem Tryz.As_elemV27 (a p : Addr) (W : World) (ha : W.cell? a = some (.pointer (some p))) :
    (ReflectliteValue.method (ReflectliteValue.valueError "reflectlite.Value.Elem" 0) ReflectliteValue.elem #[.agg #[.pointer (some ⟨10, 67, none⟩), .pointer (some a), .int .u64 150]]).run Tryz.prog W
      = .ok (.agg #[.pointer (some ⟨10, 65, none⟩), .pointer (some p), .int .u64 406]) W := by
  rw [rlm]
  simp only [Sem.run_bind, Tryz.As_parts27, Result.andThen]
  simp [ReflectliteValue.elem, loadVar, isAgg, underlying, Tryz.underlying67, ha, Result.andThen, Tryz.As_elemOf27, Tryz.As_mk25]
theorem rls (v x : Value) : ReflectliteValue.set #[v, x] = (do
    let (some (dst, a, fl), some (src, b, _)) := (← ReflectliteValue.parts v, ← ReflectliteValue.parts x)
      | unsupported (.noEntry "extern/(internal/reflectlite.Value).Set.zeroValue")
    if fl / ReflectliteValue.flagAddr % 2 == 0 then unsupported (.noEntry "extern/(internal/reflectlite.Value).Set.unaddressable")
    let val ← loadVar src b
    if ← Rtype.directlyAssignable dst src then storeVar dst a val
    else if ← Rtype.implements dst src then
      if (← Rtype.kind src) == 20 then
        match val with
        | .nilIface => unsupported (.noEntry "extern/reflectlite: a nil value of one interface type handed on as a value of another")
        | _ => storeVar dst a val
      else storeVar dst a (.iface src val)
    else panicString ("reflectlite.Set: value of type " ++ (← Rtype.spelt src) ++ " is not assignable to type " ++ (← Rtype.spelt dst))
    pure (.tuple #[])) := rfl
theorem Tryz.As_parts25a (a : Addr) (w : World) : (ReflectliteValue.parts (.agg #[.pointer (some ⟨10, 65, none⟩), .pointer (some a), .int .u64 406])).run Tryz.prog w = .ok (some (65, a, 406)) w := by kernel_rfl
theorem Tryz.As_parts25 (a : Addr) (w : World) : (ReflectliteValue.parts (.agg #[.pointer (some ⟨10, 65, none⟩), .pointer (some a), .int .u64 150])).run Tryz.prog w = .ok (some (65, a, 150)) w := by kernel_rfl
theorem Tryz.As_direct25 (w : World) : (Rtype.directlyAssignable 65 65).run Tryz.prog w = .ok true w := by kernel_rfl
theorem Tryz.As_size25 (w : World) : (sizeOf 65).run Tryz.prog w = .ok 1 w := by kernel_rfl
theorem Tryz.As_set25 (ta b e : Addr) (old : Value) (W : World) (hb : W.cell? b = some (.pointer (some e))) (ht : W.cell? ta = some old) (hf : W.frozen? ta = false) :
    (ReflectliteValue.set #[.agg #[.pointer (some ⟨10, 65, none⟩), .pointer (some ta), .int .u64 406], .agg #[.pointer (some ⟨10, 65, none⟩), .pointer (some b), .int .u64 150]]).run Tryz.prog W
      = .ok (.tuple #[]) (W.setCell ta (.pointer (some e))) := by
  rw [rls]
  simp only [Sem.run_bind, Tryz.As_parts25a, Tryz.As_parts25, Result.andThen]
  simp [ReflectliteValue.flagAddr, loadVar, isAgg, underlying, Tryz.underlying65, hb, Result.andThen, Tryz.As_direct25, storeVar, Value.cells, storeCells, Addr.add]
  rw [run_store Tryz.prog W ta _ _ (by rfl)]
  simp [ht, hf]

set_option maxHeartbeats 4000000 in
theorem as_hit (e t : Addr) (old : Value) (w : World) (hg : w.cell? ⟨1, 0, none⟩ = some (.iface 121 (.agg #[.pointer (some ⟨10, 35, none⟩)]))) (ht0 : w.cell? t = some old) (hf0 : w.frozen? t = false) :
    Calls Tryz.prog 35 #[.iface 65 (.pointer (some e)), .iface 67 (.pointer (some t))] w fun ev w' => ev = .returned (.bool true) ∧ w' = ((((w.alloc (.cells #[.pointer (some t)] 67)).alloc (.cells #[.pointer (some ⟨10, 67, none⟩), .pointer (some ⟨w.heap.size, 0, none⟩), .int .u64 150] 95)).alloc (.cells #[.pointer (some ⟨10, 67, none⟩), .pointer (some ⟨w.heap.size, 0, none⟩), .int .u64 150] 95)).alloc (.cells #[.pointer (some e)] 65)).setCell t (.pointer (some e)) := by
  have h6 := @run_callFunc_extern Tryz.prog 62 _ (fun args => ReflectliteValue.unpack (args.getD 0 (.tuple #[]))) Tryz.func62 (by kernel_rfl) (by kernel_rfl) (by kernel_rfl) (by kernel_rfl)
  have h7 := @run_callFunc_extern Tryz.prog 63 _ (ReflectliteValue.methodAny (ReflectliteValue.valueError "reflectlite.Value.Type" 0) (fun t _ _ _ => ReflectliteType.toType t)) Tryz.func63 (by kernel_rfl) (by kernel_rfl) (by kernel_rfl) (by kernel_rfl)
  have h8 := @run_callFunc_extern Tryz.prog 64 _ (ReflectliteValue.method (ReflectliteValue.valueError "reflectlite.Value.IsNil" 0) ReflectliteValue.isNil) Tryz.func64 (by kernel_rfl) (by kernel_rfl) (by kernel_rfl) (by kernel_rfl)
  have h27 := @run_callFunc_extern Tryz.prog 201 _ (ReflectliteType.abiMethod fun t => do pure (.int .u8 (← Rtype.kind t))) Tryz.func201 (by kernel_rfl) (by kernel_rfl) (by kernel_rfl) (by kernel_rfl)
  have h37 := @run_callFunc_extern Tryz.prog 214 _ (ReflectliteType.method ReflectliteType.elem) Tryz.func214 (by kernel_rfl) (by kernel_rfl) (by kernel_rfl) (by kernel_rfl)
  have h38 := @run_callFunc_extern Tryz.prog 215 _ (ReflectliteType.relation "Implements" ReflectliteType.implements_) Tryz.func215 (by kernel_rfl) (by kernel_rfl) (by kernel_rfl) (by kernel_rfl)
  have h10 := @run_callFunc_extern Tryz.prog 54 _ ReflectliteType.typeOf Tryz.func54 (by kernel_rfl) (by kernel_rfl) (by kernel_rfl) (by kernel_rfl)
  have h35 := @run_callFunc_extern Tryz.prog 212 _ (ReflectliteType.relation "AssignableTo" ReflectliteType.assignableTo) Tryz.func212 (by kernel_rfl) (by kernel_rfl) (by kernel_rfl) (by kernel_rfl)
  have h11 := @run_callFunc_extern Tryz.prog 108 _ (ReflectliteValue.method (ReflectliteValue.valueError "reflectlite.Value.Elem" 0) ReflectliteValue.elem) Tryz.func108 (by kernel_rfl) (by kernel_rfl) (by kernel_rfl) (by kernel_rfl)
  have h12 := @run_callFunc_extern Tryz.prog 109 _ ReflectliteValue.set Tryz.func109 (by kernel_rfl) (by kernel_rfl) (by kernel_rfl) (by kernel_rfl)
  have tO := Tryz.As_typeOf25
  have mA := Tryz.As_methodAssignableTo
  have a25 := Tryz.As_assignable25
  have v25 := Tryz.As_valueOf25
  have f6 := Tryz.As_valueOf27
  have f7 := Tryz.As_type27
  have mK := Tryz.As_methodKind
  have mE := Tryz.As_methodElem
  have mI := Tryz.As_methodImplements
  have k27 := Tryz.As_kind27
  have k25 := Tryz.As_kind25
  have e27 := Tryz.As_elem27
  have i25 := Tryz.As_implements25
  have n8 := Tryz.As_isNil27 ⟨w.heap.size, 0, none⟩ t ((w.alloc (.cells #[.pointer (some t)] 67)).alloc (.cells #[.pointer (some ⟨10, 67, none⟩), .pointer (some ⟨w.heap.size, 0, none⟩), .int .u64 150] 95)) (by simp)
  have hlt : 1 < w.heap.size := World.block_lt_of_cell? w _ hg
  have hg2 : ((w.alloc (.cells #[.pointer (some t)] 67)).alloc (.cells #[.pointer (some ⟨10, 67, none⟩), .pointer (some ⟨w.heap.size, 0, none⟩), .int .u64 150] 95)).cell? ⟨1, 0, none⟩ = some (.iface 121 (.agg #[.pointer (some ⟨10, 35, none⟩)])) := by
    rw [World.cell?_alloc_lt _ _ ⟨1, 0, none⟩ (by simp <;> omega), World.cell?_alloc_lt _ _ ⟨1, 0, none⟩ hlt]; exact hg
  have htl : t.block < w.heap.size := World.block_lt_of_cell? w _ ht0
  have el := Tryz.As_elemV27 ⟨w.heap.size, 0, none⟩ t (((w.alloc (.cells #[.pointer (some t)] 67)).alloc (.cells #[.pointer (some ⟨10, 67, none⟩), .pointer (some ⟨w.heap.size, 0, none⟩), .int .u64 150] 95)).alloc (.cells #[.pointer (some ⟨10, 67, none⟩), .pointer (some ⟨w.heap.size, 0, none⟩), .int .u64 150] 95)) (by rw [World.cell?_alloc_lt _ _ ⟨w.heap.size, 0, none⟩ (by simp; omega)]; simp)
  have st := Tryz.As_set25 t ⟨w.heap.size + 1 + 1 + 1, 0, none⟩ e old ((((w.alloc (.cells #[.pointer (some t)] 67)).alloc (.cells #[.pointer (some ⟨10, 67, none⟩), .pointer (some ⟨w.heap.size, 0, none⟩), .int .u64 150] 95)).alloc (.cells #[.pointer (some ⟨10, 67, none⟩), .pointer (some ⟨w.heap.size, 0, none⟩), .int .u64 150] 95)).alloc (.cells #[.pointer (some e)] 65))
    (by rw [World.cell?_alloc_at _ _ _ _ (by simp)]; rfl)
    (by rw [World.cell?_alloc_lt _ _ t (by simp; omega), World.cell?_alloc_lt _ _ t (by simp; omega), World.cell?_alloc_lt _ _ t (by simp; omega), World.cell?_alloc_lt _ _ t htl]; exact ht0)
    (by rw [World.frozen?_alloc_old _ _ t (by simp; omega), World.frozen?_alloc_old _ _ t (by simp; omega), World.frozen?_alloc_old _ _ t (by simp; omega), World.frozen?_alloc_old _ _ t (Nat.ne_of_lt htl)]; exact hf0)
  go_enter Tryz.func35, Tryz.ntmps35
  go_wp2
  refine wp_loop_rounds 1 ?_
  rw [rounds_succ]
  go_wp2
  go_ret
  exact ⟨rfl, rfl⟩
end

section
open Go.RowKit

/-- The error value of a fault at a place. -/
def fltV (e : Nat) : Value := .iface 65 (.pointer (some ⟨e, 0, none⟩))
/-- The variable errors.errorType holds the handle of the type error. -/
def HasET (w : World) : Prop := w.cell? ⟨1, 0, none⟩ = some (.iface 121 (.agg #[.pointer (some ⟨10, 35, none⟩)]))
theorem HasET.below {w w' : World} {B : Nat} (h : HasET w) (hb : Below B w w') (hB : 1 < B) : HasET w' := (hb.cell (p := ⟨1, 0, none⟩) hB).trans h

theorem fail_any (k at_ : Int) (w : World) : Calls Tryz.prog 30 #[.int .i64 k, .int .i64 at_] w fun e w' => e = .returned (fltV w.heap.size) ∧ w' = w.alloc (.cells [.int .i64 k, .int .i64 at_, .nilIface].toArray 69) := by
  go_enter Tryz.func30, Tryz.ntmps30
  go_wp2
  go_ret
  exact ⟨rfl, rfl⟩


set_option maxRecDepth 100000 in
set_option maxHeartbeats 1000000 in
theorem kind_hit (e : Nat) (k at_ : Int) (v : Value) (w : World) (hB : Blk w e [.int .i64 k, .int .i64 at_, v] 69) (hg : HasET w) :
    Calls Tryz.prog 17 #[fltV e] w fun r w' => r = .returned (.int .i64 k) ∧ Below w.heap.size w w' := by
  have hlt := hB.lt
  have hgl := World.block_lt_of_cell? w _ hg
  have hg1 : HasET (w.alloc (.cells #[.pointer none] 65)) := hg.below ((Below.refl _ w).alloc (Nat.le_refl _) _) hgl
  unfold fltV
  go_enter Tryz.func17, Tryz.ntmps17
  go_wp2_with fail
  refine (as_hit ⟨e, 0, none⟩ ⟨w.heap.size, 0, none⟩ (.pointer none) _ hg1 (by simp) (by simp)).mono ?_
  rintro r w2 ⟨rfl, hw2⟩
  have hb2 : Below w.heap.size w w2 := by
    rw [hw2]
    exact (((((((Below.refl _ w).alloc (Nat.le_refl _) _).alloc (by simp) _).alloc (by simp <;> omega) _).alloc (by simp <;> omega) _).alloc (by simp <;> omega) _).setCell (p := ⟨w.heap.size, 0, none⟩) (Nat.le_refl _) _)
  have ht : w2.cell? ⟨w.heap.size, 0, none⟩ = some (.pointer (some ⟨e, 0, none⟩)) := by
    rw [hw2, World.cell?_setCell_same' _ _ _ ?_]
    rw [World.cell?_alloc_lt _ _ ⟨w.heap.size, 0, none⟩ (by simp <;> omega), World.cell?_alloc_lt _ _ ⟨w.heap.size, 0, none⟩ (by simp <;> omega), World.cell?_alloc_lt _ _ ⟨w.heap.size, 0, none⟩ (by simp <;> omega), World.cell?_alloc_lt _ _ ⟨w.heap.size, 0, none⟩ (by simp <;> omega)]
    simp
  have h0 := (hB.later hb2 hlt).cell 0 _ rfl
  clear hw2
  go_wp2
  go_ret
  exact ⟨rfl, hb2⟩
set_option maxRecDepth 100000 in
set_option maxHeartbeats 1000000 in
theorem at_hit (e : Nat) (k at_ : Int) (v : Value) (w : World) (hB : Blk w e [.int .i64 k, .int .i64 at_, v] 69) (hg : HasET w) :
    Calls Tryz.prog 18 #[fltV e] w fun r w' => r = .returned (.int .i64 at_) ∧ Below w.heap.size w w' := by
  have hlt := hB.lt
  have hgl := World.block_lt_of_cell? w _ hg
  have hg1 : HasET (w.alloc (.cells #[.pointer none] 65)) := hg.below ((Below.refl _ w).alloc (Nat.le_refl _) _) hgl
  unfold fltV
  go_enter Tryz.func18, Tryz.ntmps18
  go_wp2_with fail
  refine (as_hit ⟨e, 0, none⟩ ⟨w.heap.size, 0, none⟩ (.pointer none) _ hg1 (by simp) (by simp)).mono ?_
  rintro r w2 ⟨rfl, hw2⟩
  have hb2 : Below w.heap.size w w2 := by
    rw [hw2]
    exact (((((((Below.refl _ w).alloc (Nat.le_refl _) _).alloc (by simp) _).alloc (by simp <;> omega) _).alloc (by simp <;> omega) _).alloc (by simp <;> omega) _).setCell (p := ⟨w.heap.size, 0, none⟩) (Nat.le_refl _) _)
  have ht : w2.cell? ⟨w.heap.size, 0, none⟩ = some (.pointer (some ⟨e, 0, none⟩)) := by
    rw [hw2, World.cell?_setCell_same' _ _ _ ?_]
    rw [World.cell?_alloc_lt _ _ ⟨w.heap.size, 0, none⟩ (by simp <;> omega), World.cell?_alloc_lt _ _ ⟨w.heap.size, 0, none⟩ (by simp <;> omega), World.cell?_alloc_lt _ _ ⟨w.heap.size, 0, none⟩ (by simp <;> omega), World.cell?_alloc_lt _ _ ⟨w.heap.size, 0, none⟩ (by simp <;> omega)]
    simp
  have h0 := (hB.later hb2 hlt).cell 1 _ rfl
  clear hw2
  go_wp2
  go_ret
  exact ⟨rfl, hb2⟩
end

section
open Go.RowKit Go.Extern.Stop Go.Stop Go.Extern

def kndV (k : Int) : Value := .iface 56 (.int .i64 k)
theorem Tryz.mIs (p : Value) (w : World) : (Go.method 324 65 p "Is").run Tryz.prog w = .ok (206, p) w := by kernel_rfl
theorem Tryz.mUnwrap (p : Value) (w : World) : (Go.method 324 65 p "Unwrap").run Tryz.prog w = .ok (207, p) w := by kernel_rfl
theorem Tryz.mComparable (h : Value) (w : World) : (Go.method 324 121 (.agg #[h]) "Comparable").run Tryz.prog w = .ok (213, .agg #[h]) w := by kernel_rfl
theorem Tryz.tOfErrno (v : Value) (w : World) : (ReflectliteType.typeOf #[.iface 56 v]).run Tryz.prog w = .ok (.iface 121 (.agg #[.pointer (some ⟨10, 56, none⟩)])) w := by kernel_rfl
theorem Tryz.comparableErrno (w : World) : (ReflectliteType.method (fun t => do Rtype.noPackHeld "Comparable" t; pure (.bool (← typeInfo t).comparable)) #[.agg #[.pointer (some ⟨10, 56, none⟩)]]).run Tryz.prog w = .ok (.bool true) w := by kernel_rfl
theorem Tryz.eqFlt (e : Addr) (k : Int) (w : World) : (binOp .eql 35 (.iface 65 (.pointer (some e))) (.iface 56 (.int .i64 k))).run Tryz.prog w = .ok (.bool false) w := by kernel_rfl

theorem Tryz.assertErrno (t : Int) (w : World) : (Instr.typeAssert (.iface 56 (.int .i64 t)) 35 56 true).run Tryz.prog w = .ok (.tuple #[.int .i64 t, .bool true]) w := by kernel_rfl
theorem Tryz.assertIs (p : Addr) (w : World) : (Instr.typeAssert (.iface 65 (.pointer (some p))) 35 123 true).run Tryz.prog w = .ok (.tuple #[.iface 65 (.pointer (some p)), .bool true]) w := by kernel_rfl
theorem Tryz.assertUnwrap (p : Addr) (w : World) : (Instr.typeAssert (.iface 65 (.pointer (some p))) 35 126 true).run Tryz.prog w = .ok (.tuple #[.iface 65 (.pointer (some p)), .bool true]) w := by kernel_rfl

set_option maxRecDepth 100000 in
set_option maxHeartbeats 1000000 in
theorem fltIs_any (e : Nat) (k at_ t : Int) (v : Value) (w : World) (hB : Blk w e [.int .i64 k, .int .i64 at_, v] 69) :
    Calls Tryz.prog 206 #[.pointer (some ⟨e, 0, none⟩), kndV t] w fun r w' => r = .returned (.bool (t == k)) ∧ w' = w := by
  have h0 := hB.cell 0 _ rfl
  have a1 := Tryz.assertErrno
  unfold kndV
  go_enter Tryz.func206, Tryz.ntmps206
  go_wp2
  go_ret
  exact ⟨rfl, rfl⟩
set_option maxRecDepth 100000 in
set_option maxHeartbeats 1000000 in
theorem fltUnwrap_any (e : Nat) (k at_ : Int) (v : Value) (w : World) (hB : Blk w e [.int .i64 k, .int .i64 at_, v] 69) :
    Calls Tryz.prog 207 #[.pointer (some ⟨e, 0, none⟩)] w fun r w' => r = .returned v ∧ w' = w := by
  have h0 := hB.cell 2 _ rfl
  go_enter Tryz.func207, Tryz.ntmps207
  go_wp2
  go_ret
  exact ⟨rfl, rfl⟩

set_option maxRecDepth 100000 in
set_option maxHeartbeats 1000000 in
theorem is1_yes (e : Nat) (k at_ : Int) (v : Value) (w : World) (hB : Blk w e [.int .i64 k, .int .i64 at_, v] 69) :
    Calls Tryz.prog 55 #[fltV e, kndV k, .bool true] w fun r w' => r = .returned (.bool true) ∧ w' = w := by
  have hi := fun t w hB => fltIs_any e k at_ t v w hB
  have hu := fun w hB => fltUnwrap_any e k at_ v w hB
  have m1 := Tryz.mIs
  have m2 := Tryz.mUnwrap
  have m3 := Tryz.eqFlt
  have a2 := Tryz.assertIs
  have a3 := Tryz.assertUnwrap
  unfold fltV kndV at *
  go_enter Tryz.func55, Tryz.ntmps55
  go_wp2_with fail
  refine wp_loop_rounds 1 ?_
  rw [rounds_succ]
  go_wp2_with (go_at_call 206; refine (hi _ _ hB).mono ?_; rintro r w' ⟨rfl, rfl⟩)
  go_ret
  exact ⟨rfl, rfl⟩

set_option maxRecDepth 100000 in
set_option maxHeartbeats 1000000 in
theorem is1_no (e : Nat) (k at_ t : Int) (w : World) (hne : t ≠ k) (hB : Blk w e [.int .i64 k, .int .i64 at_, .nilIface] 69) :
    Calls Tryz.prog 55 #[fltV e, kndV t, .bool true] w fun r w' => r = .returned (.bool false) ∧ w' = w := by
  have hi := fun t w hB => fltIs_any e k at_ t .nilIface w hB
  have hu := fun w hB => fltUnwrap_any e k at_ .nilIface w hB
  have hk : (t == k) = false := beq_eq_false_iff_ne.2 hne
  have m1 := Tryz.mIs
  have m2 := Tryz.mUnwrap
  have m3 := Tryz.eqFlt
  have a2 := Tryz.assertIs
  have a3 := Tryz.assertUnwrap
  unfold fltV kndV at *
  go_enter Tryz.func55, Tryz.ntmps55
  go_wp2_with fail
  refine wp_loop_rounds 1 ?_
  rw [rounds_succ]
  go_wp2_with (first | (go_at_call 206; refine (hi _ _ hB).mono ?_; rintro r w' ⟨rfl, rfl⟩) | (go_at_call 207; refine (hu _ hB).mono ?_; rintro r w' ⟨rfl, rfl⟩))
  go_ret
  exact ⟨rfl, rfl⟩

set_option maxRecDepth 100000 in
set_option maxHeartbeats 2000000 in
theorem is2_in (e e2 : Nat) (k at_ k2 at2 : Int) (v : Value) (w : World) (hne : k2 ≠ k) (hB : Blk w e [.int .i64 k, .int .i64 at_, fltV e2] 69) (hB2 : Blk w e2 [.int .i64 k2, .int .i64 at2, v] 69) :
    Calls Tryz.prog 55 #[fltV e, kndV k2, .bool true] w fun r w' => r = .returned (.bool true) ∧ w' = w := by
  have hi := fun t w hB => fltIs_any e k at_ t (fltV e2) w hB
  have hu := fun w hB => fltUnwrap_any e k at_ (fltV e2) w hB
  have hi2 := fun t w hB => fltIs_any e2 k2 at2 t v w hB
  have hk : (k2 == k) = false := beq_eq_false_iff_ne.2 hne
  have m1 := Tryz.mIs
  have m2 := Tryz.mUnwrap
  have m3 := Tryz.eqFlt
  have a2 := Tryz.assertIs
  have a3 := Tryz.assertUnwrap
  unfold fltV kndV at *
  go_enter Tryz.func55, Tryz.ntmps55
  go_wp2_with fail
  refine wp_loop_rounds 2 ?_
  rw [rounds_succ]
  go_wp2_with (first | (go_at_call 206; refine (hi _ _ hB).mono ?_; rintro r w' ⟨rfl, rfl⟩) | (go_at_call 207; refine (hu _ hB).mono ?_; rintro r w' ⟨rfl, rfl⟩))
  rw [rounds_succ]
  go_wp2_with (first | (go_at_call 206; refine (hi2 _ _ hB2).mono ?_; rintro r w' ⟨rfl, rfl⟩))
  go_ret
  exact ⟨rfl, rfl⟩

set_option maxRecDepth 100000 in
set_option maxHeartbeats 2000000 in
theorem is2_no (e e2 : Nat) (k at_ k2 at2 t : Int) (w : World) (hne : t ≠ k) (hne2 : t ≠ k2) (hB : Blk w e [.int .i64 k, .int .i64 at_, fltV e2] 69) (hB2 : Blk w e2 [.int .i64 k2, .int .i64 at2, .nilIface] 69) :
    Calls Tryz.prog 55 #[fltV e, kndV t, .bool true] w fun r w' => r = .returned (.bool false) ∧ w' = w := by
  have hi := fun t w hB => fltIs_any e k at_ t (fltV e2) w hB
  have hu := fun w hB => fltUnwrap_any e k at_ (fltV e2) w hB
  have hi2 := fun t w hB => fltIs_any e2 k2 at2 t .nilIface w hB
  have hu2 := fun w hB => fltUnwrap_any e2 k2 at2 .nilIface w hB
  have hk : (t == k) = false := beq_eq_false_iff_ne.2 hne
  have hk2 : (t == k2) = false := beq_eq_false_iff_ne.2 hne2
  have m1 := Tryz.mIs
  have m2 := Tryz.mUnwrap
  have m3 := Tryz.eqFlt
  have a2 := Tryz.assertIs
  have a3 := Tryz.assertUnwrap
  unfold fltV kndV at *
  go_enter Tryz.func55, Tryz.ntmps55
  go_wp2_with fail
  refine wp_loop_rounds 2 ?_
  rw [rounds_succ]
  go_wp2_with (first | (go_at_call 206; refine (hi _ _ hB).mono ?_; rintro r w' ⟨rfl, rfl⟩) | (go_at_call 207; refine (hu _ hB).mono ?_; rintro r w' ⟨rfl, rfl⟩))
  rw [rounds_succ]
  go_wp2_with (first | (go_at_call 206; refine (hi2 _ _ hB2).mono ?_; rintro r w' ⟨rfl, rfl⟩) | (go_at_call 207; refine (hu2 _ hB2).mono ?_; rintro r w' ⟨rfl, rfl⟩))
  go_ret
  exact ⟨rfl, rfl⟩
end

section
open Go.RowKit Go.Extern.Stop Go.Stop Go.Extern

theorem Tryz.comparableErrno2 (w : World) : (ReflectliteType.method (fun t => do Rtype.noPackHeld "Comparable" t; (fun a : TypeInfo => Value.bool a.comparable) <$> typeInfo t) #[.agg #[.pointer (some ⟨10, 56, none⟩)]]).run Tryz.prog w = .ok (.bool true) w := by kernel_rfl

set_option maxRecDepth 100000 in
set_option maxHeartbeats 2000000 in
/-- errors.Is at a kind, where what errors.is tells is known. -/
theorem Is_of (e : Nat) (t : Int) (b : Bool) (w : World) (h : Calls Tryz.prog 55 #[fltV e, kndV t, .bool true] w fun r w' => r = .returned (.bool b) ∧ w' = w) :
    Calls Tryz.prog 32 #[fltV e, kndV t] w fun r w' => r = .returned (.bool b) ∧ w' = w := by
  have h10 := @run_callFunc_extern Tryz.prog 54 _ ReflectliteType.typeOf Tryz.func54 (by kernel_rfl) (by kernel_rfl) (by kernel_rfl) (by kernel_rfl)
  have h11 := @run_callFunc_extern Tryz.prog 213 _ (ReflectliteType.method (fun t => do Rtype.noPackHeld "Comparable" t; pure (.bool (← typeInfo t).comparable))) Tryz.func213 (by kernel_rfl) (by kernel_rfl) (by kernel_rfl) (by kernel_rfl)
  have m1 := Tryz.mComparable
  have m2 := Tryz.tOfErrno
  have m3 := Tryz.comparableErrno2
  unfold fltV kndV at *
  go_enter Tryz.func32, Tryz.ntmps32
  go_wp2_with (go_at_call 55; refine h.mono ?_; rintro r w' ⟨rfl, rfl⟩)
  go_ret
  exact ⟨rfl, rfl⟩
end

section
open Go.RowKit

/-- The variable strconv.ErrRange holds an error. -/
def HasER (w : World) : Prop := ∃ (t : TypeId) (p : Addr), w.cell? ⟨0, 0, none⟩ = some (.iface t (.pointer (some p)))
theorem HasER.below {w w' : World} {B : Nat} (h : HasER w) (hb : Below B w w') (hB : 0 < B) : HasER w' := by
  obtain ⟨t, p, hc⟩ := h
  exact ⟨t, p, (hb.cell (p := ⟨0, 0, none⟩) hB).trans hc⟩

set_option maxRecDepth 100000 in
set_option maxHeartbeats 1000000 in
theorem is_nil_any (t : TypeId) (v : Value) (w : World) : Calls Tryz.prog 32 #[.nilIface, .iface t v] w (Tells (.bool false) w) := by
  have m := fun w => Go.run_eql_iface_nil_left (P := Tryz.prog) w t v Tryz.underlying35
  go_enter Tryz.func32, Tryz.ntmps32
  go_wp2
  go_ret
  exact ⟨rfl, rfl⟩

set_option maxRecDepth 100000 in
set_option maxHeartbeats 2000000 in
theorem atoiIn_2 (w : World) : Calls Tryz.prog 105 #[.string ⟨#[50]⟩] w (Told (.tuple #[.int .i64 2, .nilIface]) w) := by
  obtain ⟨cap, w2, hrun, hcap, hb2, hcells⟩ := conv_str ⟨#[50]⟩ w
  have c0 : w2.cell? ⟨w.heap.size, 0, none⟩ = some (.int .u8 50) := hcells 0 50 rfl
  have hsz : ByteArray.size ⟨#[50]⟩ = 1 := rfl
  have q0 : (((({ data := #[50] } : ByteArray)[0]'(by decide)).toNat : Nat) : Int) = 50 := by decide +kernel
  have q1 : (((({ data := #[50] } : ByteArray)[0]'(by decide)).toNat : Nat) : Int) = 50 := by decide +kernel
  rw [hsz] at hrun hcap
  have hcap' : (1 : Int) ≤ (cap : Int) := by omega
  clear hcells
  go_enter Tryz.func105, Tryz.ntmps105
  go_wp2_with fail
  refine wp_loop_rounds 2 ?_
  rw [rounds_succ]
  go_wp2
  rw [rounds_succ]
  go_wp2
  go_ret2
  exact ⟨rfl, hb2⟩

set_option maxRecDepth 100000 in
theorem atoi_2 (w : World) : Calls Tryz.prog 53 #[.string ⟨#[50]⟩] w (Told (.tuple #[.int .i64 2, .nilIface]) w) := by
  have h := fun w => atoiIn_2 w
  go_enter Tryz.func53, Tryz.ntmps53
  go_wp2_with fail
  refine (h _).mono ?_
  rintro e w1 ⟨rfl, hb1⟩
  go_wp2
  go_ret2
  exact ⟨rfl, hb1⟩

set_option maxRecDepth 100000 in
set_option maxHeartbeats 1000000 in
theorem wholeA_2 (w : World) (hER : HasER w) : Calls Tryz.prog 31 #[.string ⟨#[50]⟩] w (Told (.tuple #[.int .i64 2, .nilIface]) w) := by
  have h := fun w => atoi_2 w
  have hn := isNumber_any ⟨#[50]⟩ w (by decide)
  rw [show numB ⟨#[50]⟩ = true from by decide +kernel] at hn
  have hlt : 0 < w.heap.size := by obtain ⟨t, p, hc⟩ := hER; exact World.block_lt_of_cell? w _ hc
  have HE := Lib.hid hER; clear hER
  go_enter Tryz.func31, Tryz.ntmps31
  go_wp2_with fail
  refine hn.mono ?_
  rintro e w1 ⟨rfl, hb1⟩
  go_wp2_with fail
  refine (h _).mono ?_
  rintro e w2 ⟨rfl, hb2⟩
  have hb := hb1.trans (hb2.mono hb1.size)
  obtain ⟨t, p, hc⟩ := HE.out.below hb hlt
  have hi := fun w => is_nil_any t (.pointer (some p)) w
  go_wp2_with (go_at_call 32; refine (hi _).mono ?_; rintro e w3 ⟨rfl, rfl⟩)
  go_ret2
  exact ⟨rfl, hb⟩

set_option maxRecDepth 100000 in
set_option maxHeartbeats 2000000 in
theorem atoiIn_p1 (w : World) : Calls Tryz.prog 105 #[.string ⟨#[43, 49]⟩] w (Told (.tuple #[.int .i64 1, .nilIface]) w) := by
  have hx : ({ data := #[43, 49] } : ByteArray).extract 1 2 = ⟨#[49]⟩ := by decide +kernel
  obtain ⟨cap, w2, hrun, hcap, hb2, hcells⟩ := conv_str ⟨#[49]⟩ w
  have c0 : w2.cell? ⟨w.heap.size, 0, none⟩ = some (.int .u8 49) := hcells 0 49 rfl
  have hsz : ByteArray.size ⟨#[49]⟩ = 1 := rfl
  have q0 : (((({ data := #[43, 49] } : ByteArray)[0]'(by decide)).toNat : Nat) : Int) = 43 := by decide +kernel
  have q1 : (((({ data := #[49] } : ByteArray)[0]'(by decide)).toNat : Nat) : Int) = 49 := by decide +kernel
  rw [hsz] at hrun hcap
  have hcap' : (1 : Int) ≤ (cap : Int) := by omega
  clear hcells
  go_enter Tryz.func105, Tryz.ntmps105
  go_wp2_with fail
  refine wp_loop_rounds 2 ?_
  rw [rounds_succ]
  go_wp2
  rw [rounds_succ]
  go_wp2
  go_ret2
  exact ⟨rfl, hb2⟩

set_option maxRecDepth 100000 in
theorem atoi_p1 (w : World) : Calls Tryz.prog 53 #[.string ⟨#[43, 49]⟩] w (Told (.tuple #[.int .i64 1, .nilIface]) w) := by
  have h := fun w => atoiIn_p1 w
  go_enter Tryz.func53, Tryz.ntmps53
  go_wp2_with fail
  refine (h _).mono ?_
  rintro e w1 ⟨rfl, hb1⟩
  go_wp2
  go_ret2
  exact ⟨rfl, hb1⟩

set_option maxRecDepth 100000 in
set_option maxHeartbeats 1000000 in
theorem wholeA_p1 (w : World) (hER : HasER w) : Calls Tryz.prog 31 #[.string ⟨#[43, 49]⟩] w (Told (.tuple #[.int .i64 1, .nilIface]) w) := by
  have h := fun w => atoi_p1 w
  have hn := isNumber_any ⟨#[43, 49]⟩ w (by decide)
  rw [show numB ⟨#[43, 49]⟩ = true from by decide +kernel] at hn
  have hlt : 0 < w.heap.size := by obtain ⟨t, p, hc⟩ := hER; exact World.block_lt_of_cell? w _ hc
  have HE := Lib.hid hER; clear hER
  go_enter Tryz.func31, Tryz.ntmps31
  go_wp2_with fail
  refine hn.mono ?_
  rintro e w1 ⟨rfl, hb1⟩
  go_wp2_with fail
  refine (h _).mono ?_
  rintro e w2 ⟨rfl, hb2⟩
  have hb := hb1.trans (hb2.mono hb1.size)
  obtain ⟨t, p, hc⟩ := HE.out.below hb hlt
  have hi := fun w => is_nil_any t (.pointer (some p)) w
  go_wp2_with (go_at_call 32; refine (hi _).mono ?_; rintro e w3 ⟨rfl, rfl⟩)
  go_ret2
  exact ⟨rfl, hb⟩
end

section
open Go.RowKit

def valD (ds : List UInt8) (acc : Int) : Int := ds.foldl (fun n b => n * 10 + ((b.toNat : Int) - 48)) acc
def valS (s : ByteArray) : Int := if firstB s 45 then - valD (strB (tailS s)) 0 else if firstB s 43 then valD (strB (tailS s)) 0 else valD (strB s) 0
theorem valD_snoc (ds : List UInt8) (b : UInt8) (acc : Int) : valD (ds ++ [b]) acc = valD ds acc * 10 + ((b.toNat : Int) - 48) := by unfold valD; rw [List.foldl_append]; rfl
theorem valD_bd0 : ∀ (ds : List UInt8) (acc : Int), 0 ≤ acc → (∀ b ∈ ds, digitB b.toNat = true) → 0 ≤ valD ds acc ∧ valD ds acc + 1 ≤ (acc + 1) * 10 ^ ds.length
  | [], acc, h, _ => ⟨h, by show acc + 1 ≤ (acc + 1) * 10 ^ 0; rw [Int.pow_zero]; omega⟩
  | b :: ds, acc, h, hd => by
    have hb := hd b (by simp)
    unfold digitB at hb
    rw [decide_eq_true_iff] at hb
    obtain ⟨i1, i2⟩ := valD_bd0 ds (acc * 10 + ((b.toNat : Int) - 48)) (by omega) fun x hx => hd x (by simp [hx])
    refine ⟨i1, Int.le_trans i2 ?_⟩
    have hp : (0 : Int) ≤ 10 ^ ds.length := Int.pow_nonneg (by decide)
    have hm : (acc * 10 + ((b.toNat : Int) - 48) + 1) * 10 ^ ds.length ≤ ((acc + 1) * 10) * 10 ^ ds.length := Int.mul_le_mul_of_nonneg_right (by omega) hp
    rw [List.length_cons, Int.pow_succ, Int.mul_comm (10 ^ ds.length) 10, ← Int.mul_assoc]
    exact hm
theorem valD_bd (ds : List UInt8) (h : ∀ b ∈ ds, digitB b.toNat = true) : 0 ≤ valD ds 0 ∧ valD ds 0 + 1 ≤ 10 ^ ds.length := by
  have := valD_bd0 ds 0 (by decide) h
  simpa using this
theorem first_get (s : ByteArray) (h1 : 0 < s.size) : (strB s)[0]? = some (s[0]'h1) := by
  unfold strB
  rw [Array.getElem?_toList]
  exact Array.getElem?_eq_getElem h1
theorem first_of (s : ByteArray) (h1 : 0 < s.size) (c : UInt8) : firstB s c = decide (s[0]'h1 = c) := by
  unfold firstB; rw [first_get s h1]; simp

set_option maxRecDepth 100000 in
set_option maxHeartbeats 4000000 in
theorem atoiIn_any (s : ByteArray) (w : World) (h : numB s = true) (h1 : 0 < s.size) (hs : s.size ≤ 18) : Calls Tryz.prog 105 #[.string s] w (Told (.tuple #[.int .i64 (valS s), .nilIface]) w) := by
  have h1' : (1 : Int) ≤ (s.size : Int) := by omega
  have hs' : (s.size : Int) ≤ 18 := by omega
  have hsE := tailS_size s
  by_cases h45 : s[0]'h1 = 45
  · have hsg : signedB s = true := by unfold signedB; rw [first_of s h1, first_of s h1, h45]; rfl
    have HVS := Lib.hid (show valS s = - valD (strB (tailS s)) 0 by unfold valS; rw [first_of s h1, h45, if_pos (by decide)])
    have q0 : ((s[0]'h1).toNat : Int) = 45 := by rw [h45]; rfl
    unfold numB at h
    rw [hsg, if_pos rfl, Bool.and_eq_true, decide_eq_true_iff] at h
    obtain ⟨hall, hpos⟩ := h
    have hT : s.extract 1 s.size = tailS s := rfl
    have hpos' : ¬ ((tailS s).size : Int) < 1 := by omega
    have hts : (tailS s).size ≤ 18 := by omega
    generalize valS s = V at *
    clear hsg h45
    generalize tailS s = t at *
    clear hsE
    obtain ⟨cap, w2, hrun, hcap, hb2, hcells⟩ := conv_str t w
    have hcs : ∀ (j : Nat), j < t.size → ∃ b : UInt8, (strB t)[j]? = some b := fun j hj => ⟨_, List.getElem?_eq_getElem (by rw [strB_len]; exact hj)⟩
    have hszl : (strB t).length = t.size := strB_len _
    have hdig : ∀ b ∈ strB t, digitB b.toNat = true := fun b hb => by unfold bytesAll at hall; exact List.all_eq_true.1 hall b hb
    have hbd : ∀ k, k ≤ t.size → 0 ≤ valD ((strB t).take k) 0 ∧ valD ((strB t).take k) 0 + 1 ≤ 1000000000000000000 := fun k hk => by
      obtain ⟨a1, a2⟩ := valD_bd ((strB t).take k) (fun b hb => hdig b (List.mem_of_mem_take hb))
      refine ⟨a1, Int.le_trans a2 ?_⟩
      rw [List.length_take, hszl, Nat.min_eq_left hk]
      have : (10 : Int) ^ k ≤ 10 ^ 18 := by exact_mod_cast Nat.pow_le_pow_right (by decide) (show k ≤ 18 by omega)
      exact this
    have HBD := Lib.hid hbd; clear hbd
    go_enter Tryz.func105, Tryz.ntmps105
    go_wp2_with fail
    go_loopw [49, 6] (fun i v wr => ∃ k : Nat, k ≤ t.size ∧ i = .int .i64 k ∧ v = .int .i64 (valD ((strB t).take k) 0) ∧ wr = w2) (fun i _ _ => t.size - (intOf i).toNat)
    case atStart => exact ⟨0, by omega, rfl, rfl, rfl⟩
    case round =>
      obtain ⟨k, hk, rfl, rfl, rfl⟩ := hrel
      by_cases hlt : k < t.size
      · obtain ⟨b, hb⟩ := hcs k hlt
        have hc := hcells k b hb
        have hlt' : (k : Int) < (t.size : Int) := by omega
        have hd := hdig b (List.mem_of_getElem? hb)
        unfold digitB at hd
        rw [decide_eq_true_iff] at hd
        obtain ⟨d1, d2⟩ := hd
        have htk : (strB t).take (k + 1) = (strB t).take k ++ [b] := by rw [List.take_add_one, hb]; rfl
        have HV := Lib.hid (show valD ((strB t).take (k + 1)) 0 = valD ((strB t).take k) 0 * 10 + ((b.toNat : Int) - 48) by rw [htk, valD_snoc])
        obtain ⟨v1, v2⟩ := HBD.out k hk
        obtain ⟨v3, v4⟩ := HBD.out (k + 1) (by omega)
        rw [HV.out] at v3 v4
        clear hcells hcs htk hdig hall hb
        generalize valD ((strB t).take k) 0 = v at *
        generalize (b.toNat : Int) = c at *
        go_wp2
        go_roundw
        case rel => exact ⟨k + 1, by omega, by go_num, by rw [HV.out]; try go_num, by first | rfl | trivial⟩
        case measure => simp [intOf]; omega
      · have hke : k = t.size := by omega
        have hN : (strB t).take k = strB t := by rw [hke, ← hszl, List.take_length]
        rw [hN]
        obtain ⟨v1, v2⟩ := HBD.out t.size (Nat.le_refl _)
        rw [← hszl, List.take_length] at v1 v2
        subst hke
        clear hcells hcs hdig hall hN
        generalize valD (strB t) 0 = v at *
        go_wp2
        go_ret2
        exact ⟨by rw [HVS.out]; rfl, hb2⟩
  · by_cases h43 : s[0]'h1 = 43
    · have hsg : signedB s = true := by unfold signedB; rw [first_of s h1, first_of s h1, h43]; rfl
      have HVS := Lib.hid (show valS s = valD (strB (tailS s)) 0 by unfold valS; rw [first_of s h1, first_of s h1, h43, if_neg (by decide), if_pos (by decide)])
      have q0 : ((s[0]'h1).toNat : Int) = 43 := by rw [h43]; rfl
      unfold numB at h
      rw [hsg, if_pos rfl, Bool.and_eq_true, decide_eq_true_iff] at h
      obtain ⟨hall, hpos⟩ := h
      have hT : s.extract 1 s.size = tailS s := rfl
      have hpos' : ¬ ((tailS s).size : Int) < 1 := by omega
      have hts : (tailS s).size ≤ 18 := by omega
      generalize valS s = V at *
      clear hsg h45 h43
      generalize tailS s = t at *
      clear hsE
      obtain ⟨cap, w2, hrun, hcap, hb2, hcells⟩ := conv_str t w
      have hcs : ∀ (j : Nat), j < t.size → ∃ b : UInt8, (strB t)[j]? = some b := fun j hj => ⟨_, List.getElem?_eq_getElem (by rw [strB_len]; exact hj)⟩
      have hszl : (strB t).length = t.size := strB_len _
      have hdig : ∀ b ∈ strB t, digitB b.toNat = true := fun b hb => by unfold bytesAll at hall; exact List.all_eq_true.1 hall b hb
      have hbd : ∀ k, k ≤ t.size → 0 ≤ valD ((strB t).take k) 0 ∧ valD ((strB t).take k) 0 + 1 ≤ 1000000000000000000 := fun k hk => by
        obtain ⟨a1, a2⟩ := valD_bd ((strB t).take k) (fun b hb => hdig b (List.mem_of_mem_take hb))
        refine ⟨a1, Int.le_trans a2 ?_⟩
        rw [List.length_take, hszl, Nat.min_eq_left hk]
        have : (10 : Int) ^ k ≤ 10 ^ 18 := by exact_mod_cast Nat.pow_le_pow_right (by decide) (show k ≤ 18 by omega)
        exact this
      have HBD := Lib.hid hbd; clear hbd
      go_enter Tryz.func105, Tryz.ntmps105
      go_wp2_with fail
      go_loopw [49, 6] (fun i v wr => ∃ k : Nat, k ≤ t.size ∧ i = .int .i64 k ∧ v = .int .i64 (valD ((strB t).take k) 0) ∧ wr = w2) (fun i _ _ => t.size - (intOf i).toNat)
      case atStart => exact ⟨0, by omega, rfl, rfl, rfl⟩
      case round =>
        obtain ⟨k, hk, rfl, rfl, rfl⟩ := hrel
        by_cases hlt : k < t.size
        · obtain ⟨b, hb⟩ := hcs k hlt
          have hc := hcells k b hb
          have hlt' : (k : Int) < (t.size : Int) := by omega
          have hd := hdig b (List.mem_of_getElem? hb)
          unfold digitB at hd
          rw [decide_eq_true_iff] at hd
          obtain ⟨d1, d2⟩ := hd
          have htk : (strB t).take (k + 1) = (strB t).take k ++ [b] := by rw [List.take_add_one, hb]; rfl
          have HV := Lib.hid (show valD ((strB t).take (k + 1)) 0 = valD ((strB t).take k) 0 * 10 + ((b.toNat : Int) - 48) by rw [htk, valD_snoc])
          obtain ⟨v1, v2⟩ := HBD.out k hk
          obtain ⟨v3, v4⟩ := HBD.out (k + 1) (by omega)
          rw [HV.out] at v3 v4
          clear hcells hcs htk hdig hall hb
          generalize valD ((strB t).take k) 0 = v at *
          generalize (b.toNat : Int) = c at *
          go_wp2
          go_roundw
          case rel => exact ⟨k + 1, by omega, by go_num, by rw [HV.out]; try go_num, by first | rfl | trivial⟩
          case measure => simp [intOf]; omega
        · have hke : k = t.size := by omega
          have hN : (strB t).take k = strB t := by rw [hke, ← hszl, List.take_length]
          rw [hN]
          obtain ⟨v1, v2⟩ := HBD.out t.size (Nat.le_refl _)
          rw [← hszl, List.take_length] at v1 v2
          subst hke
          clear hcells hcs hdig hall hN
          generalize valD (strB t) 0 = v at *
          go_wp2
          go_ret2
          exact ⟨by rw [HVS.out]; rfl, hb2⟩
    · have hsg : signedB s = false := by unfold signedB; rw [first_of s h1, first_of s h1, decide_eq_false h45, decide_eq_false h43]; rfl
      have HVS := Lib.hid (show valS s = valD (strB s) 0 by unfold valS; rw [first_of s h1, first_of s h1, if_neg (by simpa using h45), if_neg (by simpa using h43)])
      have q0 : (((s[0]'h1).toNat : Int) == 45) = false := beq_eq_false_iff_ne.2 fun e => h45 (UInt8.toNat_inj.1 (by have : (45 : UInt8).toNat = 45 := rfl; omega))
      have q1 : (((s[0]'h1).toNat : Int) == 43) = false := beq_eq_false_iff_ne.2 fun e => h43 (UInt8.toNat_inj.1 (by have : (43 : UInt8).toNat = 43 := rfl; omega))
      unfold numB at h
      rw [hsg, if_neg (by decide), Bool.and_eq_true, decide_eq_true_iff] at h
      obtain ⟨hall, hpos⟩ := h
      have hpos' : ¬ (s.size : Int) < 1 := by omega
      generalize valS s = V at *
      clear hsg h45 h43 hsE
      obtain ⟨cap, w2, hrun, hcap, hb2, hcells⟩ := conv_str s w
      have hcs : ∀ (j : Nat), j < s.size → ∃ b : UInt8, (strB s)[j]? = some b := fun j hj => ⟨_, List.getElem?_eq_getElem (by rw [strB_len]; exact hj)⟩
      have hszl : (strB s).length = s.size := strB_len _
      have hdig : ∀ b ∈ strB s, digitB b.toNat = true := fun b hb => by unfold bytesAll at hall; exact List.all_eq_true.1 hall b hb
      have hbd : ∀ k, k ≤ s.size → 0 ≤ valD ((strB s).take k) 0 ∧ valD ((strB s).take k) 0 + 1 ≤ 1000000000000000000 := fun k hk => by
        obtain ⟨a1, a2⟩ := valD_bd ((strB s).take k) (fun b hb => hdig b (List.mem_of_mem_take hb))
        refine ⟨a1, Int.le_trans a2 ?_⟩
        rw [List.length_take, hszl, Nat.min_eq_left hk]
        have : (10 : Int) ^ k ≤ 10 ^ 18 := by exact_mod_cast Nat.pow_le_pow_right (by decide) (show k ≤ 18 by omega)
        exact this
      have HBD := Lib.hid hbd; clear hbd
      go_enter Tryz.func105, Tryz.ntmps105
      go_wp2_with fail
      go_loopw [49, 6] (fun i v wr => ∃ k : Nat, k ≤ s.size ∧ i = .int .i64 k ∧ v = .int .i64 (valD ((strB s).take k) 0) ∧ wr = w2) (fun i _ _ => s.size - (intOf i).toNat)
      case atStart => exact ⟨0, by omega, rfl, rfl, rfl⟩
      case round =>
        obtain ⟨k, hk, rfl, rfl, rfl⟩ := hrel
        by_cases hlt : k < s.size
        · obtain ⟨b, hb⟩ := hcs k hlt
          have hc := hcells k b hb
          have hlt' : (k : Int) < (s.size : Int) := by omega
          have hd := hdig b (List.mem_of_getElem? hb)
          unfold digitB at hd
          rw [decide_eq_true_iff] at hd
          obtain ⟨d1, d2⟩ := hd
          have htk : (strB s).take (k + 1) = (strB s).take k ++ [b] := by rw [List.take_add_one, hb]; rfl
          have HV := Lib.hid (show valD ((strB s).take (k + 1)) 0 = valD ((strB s).take k) 0 * 10 + ((b.toNat : Int) - 48) by rw [htk, valD_snoc])
          obtain ⟨v1, v2⟩ := HBD.out k hk
          obtain ⟨v3, v4⟩ := HBD.out (k + 1) (by omega)
          rw [HV.out] at v3 v4
          clear hcells hcs htk hdig hall hb
          generalize valD ((strB s).take k) 0 = v at *
          generalize (b.toNat : Int) = c at *
          go_wp2
          go_roundw
          case rel => exact ⟨k + 1, by omega, by go_num, by rw [HV.out]; try go_num, by first | rfl | trivial⟩
          case measure => simp [intOf]; omega
        · have hke : k = s.size := by omega
          have hN : (strB s).take k = strB s := by rw [hke, ← hszl, List.take_length]
          rw [hN]
          obtain ⟨v1, v2⟩ := HBD.out s.size (Nat.le_refl _)
          rw [← hszl, List.take_length] at v1 v2
          subst hke
          clear hcells hcs hdig hall hN
          generalize valD (strB s) 0 = v at *
          go_wp2
          go_ret2
          exact ⟨by rw [HVS.out]; rfl, hb2⟩
end
end Go.Proofs.YtickcbmfboajiaaGreatDoor
