/- The program's numbers of texts: Atoi at short texts, Whole at "2" and "+1", errors.Is of no error: walks. -/
import Derived.Test.YticlkjkombgchaaGreatDoorNum
import Derived.Test.YticlkjkombgchaaGreatDoorIs2
namespace Go.Proofs.YticlkjkombgchaaGreatDoor
open Go.RowKit

/-- The variable strconv.ErrRange holds an error. -/
def HasER (w : World) : Prop := ∃ (t : TypeId) (p : Addr), w.cell? ⟨0, 0, none⟩ = some (.iface t (.pointer (some p)))
theorem HasER.below {w w' : World} {B : Nat} (h : HasER w) (hb : Below B w w') (hB : 0 < B) : HasER w' := by
  obtain ⟨t, p, hc⟩ := h
  exact ⟨t, p, (hb.cell (p := ⟨0, 0, none⟩) hB).trans hc⟩

set_option maxRecDepth 100000 in
set_option maxHeartbeats 1000000 in
theorem is_nil_any (t : TypeId) (v : Value) (w : World) : Calls Tryz.prog 38 #[.nilIface, .iface t v] w (Tells (.bool false) w) := by
  have m := fun w => Go.run_eql_iface_nil_left (P := Tryz.prog) w t v Tryz.underlying35
  go_enter Tryz.func38, Tryz.ntmps38
  go_wp2
  go_ret
  exact ⟨rfl, rfl⟩

set_option maxRecDepth 100000 in
set_option maxHeartbeats 2000000 in
theorem atoiIn_2 (w : World) : Calls Tryz.prog 73 #[.string ⟨#[50]⟩] w (Told (.tuple #[.int .i64 2, .nilIface]) w) := by
  obtain ⟨cap, w2, hrun, hcap, hb2, hcells⟩ := conv_str ⟨#[50]⟩ w
  have c0 : w2.cell? ⟨w.heap.size, 0, none⟩ = some (.int .u8 50) := hcells 0 50 rfl
  have hsz : ByteArray.size ⟨#[50]⟩ = 1 := rfl
  have q0 : (((({ data := #[50] } : ByteArray)[0]'(by decide)).toNat : Nat) : Int) = 50 := by decide +kernel
  have q1 : (((({ data := #[50] } : ByteArray)[0]'(by decide)).toNat : Nat) : Int) = 50 := by decide +kernel
  rw [hsz] at hrun hcap
  have hcap' : (1 : Int) ≤ (cap : Int) := by omega
  clear hcells
  go_enter Tryz.func73, Tryz.ntmps73
  go_wp2_with fail
  refine wp_loop_rounds 2 ?_
  rw [rounds_succ]
  go_wp2
  rw [rounds_succ]
  go_wp2
  go_ret2
  exact ⟨rfl, hb2⟩

set_option maxRecDepth 100000 in
theorem atoi_2 (w : World) : Calls Tryz.prog 42 #[.string ⟨#[50]⟩] w (Told (.tuple #[.int .i64 2, .nilIface]) w) := by
  have h := fun w => atoiIn_2 w
  go_enter Tryz.func42, Tryz.ntmps42
  go_wp2_with fail
  refine (h _).mono ?_
  rintro e w1 ⟨rfl, hb1⟩
  go_wp2
  go_ret2
  exact ⟨rfl, hb1⟩

set_option maxRecDepth 100000 in
set_option maxHeartbeats 1000000 in
theorem wholeA_2 (w : World) (hER : HasER w) : Calls Tryz.prog 22 #[.string ⟨#[50]⟩] w (Told (.tuple #[.int .i64 2, .nilIface]) w) := by
  have h := fun w => atoi_2 w
  have hn := isNumber_any ⟨#[50]⟩ w (by decide)
  rw [show numB ⟨#[50]⟩ = true from by decide +kernel] at hn
  have hlt : 0 < w.heap.size := by obtain ⟨t, p, hc⟩ := hER; exact World.block_lt_of_cell? w _ hc
  have HE := Lib.hid hER; clear hER
  go_enter Tryz.func22, Tryz.ntmps22
  go_wp2_with fail
  refine hn.mono ?_
  rintro e w1 ⟨rfl, hb1⟩
  go_wp2_with fail
  refine (h _).mono ?_
  rintro e w2 ⟨rfl, hb2⟩
  have hb := hb1.trans (hb2.mono hb1.size)
  obtain ⟨t, p, hc⟩ := HE.out.below hb hlt
  have hi := fun w => is_nil_any t (.pointer (some p)) w
  go_wp2_with (go_at_call 38; refine (hi _).mono ?_; rintro e w3 ⟨rfl, rfl⟩)
  go_ret2
  exact ⟨rfl, hb⟩

set_option maxRecDepth 100000 in
set_option maxHeartbeats 2000000 in
theorem atoiIn_p1 (w : World) : Calls Tryz.prog 73 #[.string ⟨#[43, 49]⟩] w (Told (.tuple #[.int .i64 1, .nilIface]) w) := by
  have hx : ({ data := #[43, 49] } : ByteArray).extract 1 2 = ⟨#[49]⟩ := by decide +kernel
  obtain ⟨cap, w2, hrun, hcap, hb2, hcells⟩ := conv_str ⟨#[49]⟩ w
  have c0 : w2.cell? ⟨w.heap.size, 0, none⟩ = some (.int .u8 49) := hcells 0 49 rfl
  have hsz : ByteArray.size ⟨#[49]⟩ = 1 := rfl
  have q0 : (((({ data := #[43, 49] } : ByteArray)[0]'(by decide)).toNat : Nat) : Int) = 43 := by decide +kernel
  have q1 : (((({ data := #[49] } : ByteArray)[0]'(by decide)).toNat : Nat) : Int) = 49 := by decide +kernel
  rw [hsz] at hrun hcap
  have hcap' : (1 : Int) ≤ (cap : Int) := by omega
  clear hcells
  go_enter Tryz.func73, Tryz.ntmps73
  go_wp2_with fail
  refine wp_loop_rounds 2 ?_
  rw [rounds_succ]
  go_wp2
  rw [rounds_succ]
  go_wp2
  go_ret2
  exact ⟨rfl, hb2⟩

set_option maxRecDepth 100000 in
theorem atoi_p1 (w : World) : Calls Tryz.prog 42 #[.string ⟨#[43, 49]⟩] w (Told (.tuple #[.int .i64 1, .nilIface]) w) := by
  have h := fun w => atoiIn_p1 w
  go_enter Tryz.func42, Tryz.ntmps42
  go_wp2_with fail
  refine (h _).mono ?_
  rintro e w1 ⟨rfl, hb1⟩
  go_wp2
  go_ret2
  exact ⟨rfl, hb1⟩

set_option maxRecDepth 100000 in
set_option maxHeartbeats 1000000 in
theorem wholeA_p1 (w : World) (hER : HasER w) : Calls Tryz.prog 22 #[.string ⟨#[43, 49]⟩] w (Told (.tuple #[.int .i64 1, .nilIface]) w) := by
  have h := fun w => atoi_p1 w
  have hn := isNumber_any ⟨#[43, 49]⟩ w (by decide)
  rw [show numB ⟨#[43, 49]⟩ = true from by decide +kernel] at hn
  have hlt : 0 < w.heap.size := by obtain ⟨t, p, hc⟩ := hER; exact World.block_lt_of_cell? w _ hc
  have HE := Lib.hid hER; clear hER
  go_enter Tryz.func22, Tryz.ntmps22
  go_wp2_with fail
  refine hn.mono ?_
  rintro e w1 ⟨rfl, hb1⟩
  go_wp2_with fail
  refine (h _).mono ?_
  rintro e w2 ⟨rfl, hb2⟩
  have hb := hb1.trans (hb2.mono hb1.size)
  obtain ⟨t, p, hc⟩ := HE.out.below hb hlt
  have hi := fun w => is_nil_any t (.pointer (some p)) w
  go_wp2_with (go_at_call 38; refine (hi _).mono ?_; rintro e w3 ⟨rfl, rfl⟩)
  go_ret2
  exact ⟨rfl, hb⟩

end Go.Proofs.YticlkjkombgchaaGreatDoor
