/- What decode's begin does: a walk. -/
import Derived.Test.YtfgnepbpfglepaaMore
namespace Go.Proofs.Ytfgnepbpfglepaa
open Go.RowKit

def charBegin (z : Int) : Int := if 240 ≤ z then bits .and .i32 z 7 else if 224 ≤ z then bits .and .i32 z 15 else if 128 ≤ z then bits .and .i32 z 31 else z
def loOf (z : Int) : Int := if z = 224 then 160 else if z = 240 then 144 else 128
def hiOf (z : Int) : Int := if z = 237 then 159 else if z = 244 then 143 else 191

set_option maxRecDepth 100000 in
set_option maxHeartbeats 1000000 in
theorem begin_any (b off len cap : Nat) (z : Int) (w : World) (hlen : 1 ≤ len) (hz : 0 ≤ z ∧ z ≤ 255)
    (hc : w.cell? ⟨b, off, none⟩ = some (.int .u8 z)) :
    Calls Try.prog 105 #[.slice (some ⟨b, off, none⟩) len cap] w fun e w' =>
      e = .returned (.agg (rdCells b off len cap (charBegin z) 1 (loOf z) (hiOf z)).toArray) ∧ Below w.heap.size w w' := by
  obtain ⟨hz0, hz1⟩ := hz
  have hb : b < w.heap.size := World.block_lt_of_cell? w _ hc
  have key : z < 128 ∨ (128 ≤ z ∧ z < 224) ∨ z = 224 ∨ z = 237 ∨ (224 < z ∧ z < 240 ∧ (z == 237) = false) ∨ z = 240 ∨ z = 244 ∨ (240 < z ∧ (z == 244) = false) := by
    simp only [beq_eq_false_iff_ne, ne_eq]; omega
  rcases key with h | ⟨h, h'⟩ | h | h | ⟨h, h', h''⟩ | h | h | ⟨h, h'⟩
  all_goals first | subst h | skip
  all_goals
    go_enter Try.func105, Try.ntmps105
    go_wp2
  · refine bodyPost_ret (v := .agg #[.slice (some ⟨b, off, none⟩) len cap, .int .i32 (z), .int .i64 1, .int .u8 128, .int .u8 191]) (by simp [results, Try.results105, go_sem]) rfl ⟨?_, ((Below.refl _ _).alloc (Nat.le_refl _) _).alloc (by simp) _⟩
    rw [show charBegin z = z from by simp only [charBegin]; (repeat' split) <;> first | rfl | omega, show loOf z = 128 from by first | decide | ((try simp only [beq_eq_false_iff_ne, ne_eq] at *); simp only [loOf]; (repeat' split) <;> first | rfl | omega), show hiOf z = 191 from by first | decide | ((try simp only [beq_eq_false_iff_ne, ne_eq] at *); simp only [hiOf]; (repeat' split) <;> first | rfl | omega)]; rfl
  · refine bodyPost_ret (v := .agg #[.slice (some ⟨b, off, none⟩) len cap, .int .i32 (bits .and .i32 z 31), .int .i64 1, .int .u8 128, .int .u8 191]) (by simp [results, Try.results105, go_sem]) rfl ⟨?_, ((Below.refl _ _).alloc (Nat.le_refl _) _).alloc (by simp) _⟩
    rw [show charBegin z = bits .and .i32 z 31 from by simp only [charBegin]; (repeat' split) <;> first | rfl | omega, show loOf z = 128 from by first | decide | ((try simp only [beq_eq_false_iff_ne, ne_eq] at *); simp only [loOf]; (repeat' split) <;> first | rfl | omega), show hiOf z = 191 from by first | decide | ((try simp only [beq_eq_false_iff_ne, ne_eq] at *); simp only [hiOf]; (repeat' split) <;> first | rfl | omega)]; rfl
  · refine bodyPost_ret (v := .agg #[.slice (some ⟨b, off, none⟩) len cap, .int .i32 (bits .and .i32 224 15), .int .i64 1, .int .u8 160, .int .u8 191]) (by simp [results, Try.results105, go_sem]) rfl ⟨?_, ((Below.refl _ _).alloc (Nat.le_refl _) _).alloc (by simp) _⟩
    rw [show charBegin 224 = bits .and .i32 224 15 from by simp only [charBegin]; (repeat' split) <;> first | rfl | omega, show loOf 224 = 160 from by first | decide | ((try simp only [beq_eq_false_iff_ne, ne_eq] at *); simp only [loOf]; (repeat' split) <;> first | rfl | omega), show hiOf 224 = 191 from by first | decide | ((try simp only [beq_eq_false_iff_ne, ne_eq] at *); simp only [hiOf]; (repeat' split) <;> first | rfl | omega)]; rfl
  · refine bodyPost_ret (v := .agg #[.slice (some ⟨b, off, none⟩) len cap, .int .i32 (bits .and .i32 237 15), .int .i64 1, .int .u8 128, .int .u8 159]) (by simp [results, Try.results105, go_sem]) rfl ⟨?_, ((Below.refl _ _).alloc (Nat.le_refl _) _).alloc (by simp) _⟩
    rw [show charBegin 237 = bits .and .i32 237 15 from by simp only [charBegin]; (repeat' split) <;> first | rfl | omega, show loOf 237 = 128 from by first | decide | ((try simp only [beq_eq_false_iff_ne, ne_eq] at *); simp only [loOf]; (repeat' split) <;> first | rfl | omega), show hiOf 237 = 159 from by first | decide | ((try simp only [beq_eq_false_iff_ne, ne_eq] at *); simp only [hiOf]; (repeat' split) <;> first | rfl | omega)]; rfl
  · refine bodyPost_ret (v := .agg #[.slice (some ⟨b, off, none⟩) len cap, .int .i32 (bits .and .i32 z 15), .int .i64 1, .int .u8 128, .int .u8 191]) (by simp [results, Try.results105, go_sem]) rfl ⟨?_, ((Below.refl _ _).alloc (Nat.le_refl _) _).alloc (by simp) _⟩
    rw [show charBegin z = bits .and .i32 z 15 from by simp only [charBegin]; (repeat' split) <;> first | rfl | omega, show loOf z = 128 from by first | decide | ((try simp only [beq_eq_false_iff_ne, ne_eq] at *); simp only [loOf]; (repeat' split) <;> first | rfl | omega), show hiOf z = 191 from by first | decide | ((try simp only [beq_eq_false_iff_ne, ne_eq] at *); simp only [hiOf]; (repeat' split) <;> first | rfl | omega)]; rfl
  · refine bodyPost_ret (v := .agg #[.slice (some ⟨b, off, none⟩) len cap, .int .i32 (bits .and .i32 240 7), .int .i64 1, .int .u8 144, .int .u8 191]) (by simp [results, Try.results105, go_sem]) rfl ⟨?_, ((Below.refl _ _).alloc (Nat.le_refl _) _).alloc (by simp) _⟩
    rw [show charBegin 240 = bits .and .i32 240 7 from by simp only [charBegin]; (repeat' split) <;> first | rfl | omega, show loOf 240 = 144 from by first | decide | ((try simp only [beq_eq_false_iff_ne, ne_eq] at *); simp only [loOf]; (repeat' split) <;> first | rfl | omega), show hiOf 240 = 191 from by first | decide | ((try simp only [beq_eq_false_iff_ne, ne_eq] at *); simp only [hiOf]; (repeat' split) <;> first | rfl | omega)]; rfl
  · refine bodyPost_ret (v := .agg #[.slice (some ⟨b, off, none⟩) len cap, .int .i32 (bits .and .i32 244 7), .int .i64 1, .int .u8 128, .int .u8 143]) (by simp [results, Try.results105, go_sem]) rfl ⟨?_, ((Below.refl _ _).alloc (Nat.le_refl _) _).alloc (by simp) _⟩
    rw [show charBegin 244 = bits .and .i32 244 7 from by simp only [charBegin]; (repeat' split) <;> first | rfl | omega, show loOf 244 = 128 from by first | decide | ((try simp only [beq_eq_false_iff_ne, ne_eq] at *); simp only [loOf]; (repeat' split) <;> first | rfl | omega), show hiOf 244 = 143 from by first | decide | ((try simp only [beq_eq_false_iff_ne, ne_eq] at *); simp only [hiOf]; (repeat' split) <;> first | rfl | omega)]; rfl
  · refine bodyPost_ret (v := .agg #[.slice (some ⟨b, off, none⟩) len cap, .int .i32 (bits .and .i32 z 7), .int .i64 1, .int .u8 128, .int .u8 191]) (by simp [results, Try.results105, go_sem]) rfl ⟨?_, ((Below.refl _ _).alloc (Nat.le_refl _) _).alloc (by simp) _⟩
    rw [show charBegin z = bits .and .i32 z 7 from by simp only [charBegin]; (repeat' split) <;> first | rfl | omega, show loOf z = 128 from by first | decide | ((try simp only [beq_eq_false_iff_ne, ne_eq] at *); simp only [loOf]; (repeat' split) <;> first | rfl | omega), show hiOf z = 191 from by first | decide | ((try simp only [beq_eq_false_iff_ne, ne_eq] at *); simp only [hiOf]; (repeat' split) <;> first | rfl | omega)]; rfl
end Go.Proofs.Ytfgnepbpfglepaa
