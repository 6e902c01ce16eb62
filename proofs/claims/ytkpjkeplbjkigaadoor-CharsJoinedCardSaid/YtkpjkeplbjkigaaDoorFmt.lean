/- A number's digits of base 16, by the library: walks. -/
import Derived.Test.YtkpjkeplbjkigaaDoorBld
namespace Go.Proofs.YtkpjkeplbjkigaaDoor
open Go.RowKit

/-- What the walks want of the library's table: one of its numbers. -/
def Tab (w : World) : Prop := w.cell? ⟨5, 15, none⟩ = some (.int .u8 4)

set_option maxRecDepth 100000 in
set_option maxHeartbeats 1000000 in
theorem trailing_16 (w : World) (h : Tab w) : Calls Tryd.prog 100 #[.int .u64 16] w fun e w' => e = .returned (.int .i64 4) ∧ w' = w := by
  unfold Tab at h
  have e0 : IntKind.u64.wrap (bits BinOp.and IntKind.u64 16 (IntKind.u64.wrap (-16)) * 285870213051353865) / 288230376151711744 = 15 := by decide +kernel
  go_enter Tryd.func100, Tryd.ntmps100
  go_wp2
  go_ret
  exact ⟨rfl, rfl⟩

theorem Tab.lt {w : World} (h : Tab w) : 5 < w.heap.size := World.block_lt_of_cell? w _ h
theorem Tab.later {w w' : World} {B : Nat} (h : Tab w) (hb : Below B w w') (hB : 5 < B) : Tab w' := (hb.cell (p := ⟨5, 15, none⟩) hB).trans h

set_option maxRecDepth 100000 in
theorem pow_16 (w : World) : Calls Tryd.prog 99 #[.int .i64 16] w fun e w' => e = .returned (.bool true) ∧ w' = w := by
  have e0 : bits BinOp.and IntKind.i64 16 15 = 0 := by decide +kernel
  go_enter Tryd.func99, Tryd.ntmps99
  go_wp2
  go_ret
  exact ⟨rfl, rfl⟩

/-- A digit of base 16. -/
def hexD (d : Int) : Int := if d < 10 then 48 + d else 87 + d

theorem digit_at (d : Int) (h0 : 0 ≤ d) (h1 : d < 16) (hp : d.toNat < (ByteArray.mk #[48, 49, 50, 51, 52, 53, 54, 55, 56, 57, 97, 98, 99, 100, 101, 102, 103, 104, 105, 106, 107, 108, 109, 110, 111, 112, 113, 114, 115, 116, 117, 118, 119, 120, 121, 122]).size) :
    (((ByteArray.mk #[48, 49, 50, 51, 52, 53, 54, 55, 56, 57, 97, 98, 99, 100, 101, 102, 103, 104, 105, 106, 107, 108, 109, 110, 111, 112, 113, 114, 115, 116, 117, 118, 119, 120, 121, 122])[d.toNat]'hp).toNat : Int) = hexD d := by
  have key : ∀ n : Fin 16, (((ByteArray.mk #[48, 49, 50, 51, 52, 53, 54, 55, 56, 57, 97, 98, 99, 100, 101, 102, 103, 104, 105, 106, 107, 108, 109, 110, 111, 112, 113, 114, 115, 116, 117, 118, 119, 120, 121, 122]).data[n.val]?.getD 0).toNat : Int) = hexD n.val := by decide +kernel
  have := key ⟨d.toNat, by omega⟩
  rw [show ((d.toNat : Nat) : Int) = d from by omega] at this
  rw [← this]
  congr 2
  exact (Option.getD_eq_iff.2 (.inl (Array.getElem?_eq_getElem _))).symm

theorem and_15 (u : Int) (h0 : 0 ≤ u) (h1 : u < 18446744073709551616) : bits BinOp.and IntKind.u64 u 15 = u % 16 := by
  rw [u64_and u 15 h0 h1 (by omega) (by omega), show (15 : Int).toNat = 15 from rfl, nat_mask4]; omega
theorem Tryd.zeroSize : Tryd.zeroCells103.size = 65 := by kernel_rfl

/-- The last bytes of a new array, as a text. -/
theorem tail_text (w : World) (C : Array Value) (off n : Nat) (xs : List Int) (hn : xs.length = n) (hc : ∀ i, i < n → C[off + i]? = some (.int .u8 (xs.getD i 0))) :
    (convert 30 9 (.slice (some ⟨w.heap.size, off, none⟩) n n)).run Tryd.prog (w.alloc (.cells C 103)) = .ok (.string (strOfNums xs)) (w.alloc (.cells C 103)) :=
  run_convert_bytes_arg _ 30 5 Tryd.underlying30 Tryd.underlying5 w.heap.size off n n xs hn (fun i hi => by rw [cell_of_row _ w.heap.size (off + i) C _ _ (heap_alloc_new w _)]; exact hc i hi) 9 Tryd.underlying9

def BitsPost (xs : List Int) (w : World) (e : Ending) (w' : World) : Prop := e = .returned (.tuple #[.slice none 0 0, .string (strOfNums xs)]) ∧ Below w.heap.size w w'

set_option maxRecDepth 100000 in
set_option maxHeartbeats 1000000 in
theorem bits_1 (u : Int) (w : World) (h : Tab w) (h0 : 0 ≤ u) (h1 : u < 16) :
    Calls Tryd.prog 88 #[.slice none 0 0, .int .u64 u, .int .i64 16, .bool false, .bool false] w (BitsPost [hexD u] w) := by
  have ht := h.lt
  have hd1 := digit_at u h0 h1
  go_enter Tryd.func88, Tryd.ntmps88
  go_wp2_with fail
  refine (pow_16 _).mono ?_
  rintro e w1 ⟨rfl, rfl⟩
  go_wp2_with fail
  refine (trailing_16 _ (h.later ((Below.refl _ w).alloc (Nat.le_refl _) _) ht)).mono ?_
  rintro e w1 ⟨rfl, rfl⟩
  go_wp2
  refine wp_loop_rounds 1 ?_; rw [rounds_succ]
  go_wp2
  rw [tail_text w _ 64 1 [hexD u] rfl (fun i hi => by
    obtain rfl : i = 0 := by omega
    rw [Array.getElem?_setIfInBounds]; simp)]
  simp only [Result.andThen]
  rw [Oper.upon_value]
  go_wp2
  go_ret2
  exact ⟨rfl, (Below.refl _ w).alloc (Nat.le_refl _) _⟩

set_option maxRecDepth 100000 in
set_option maxHeartbeats 1000000 in
theorem bits_2 (u : Int) (w : World) (h : Tab w) (h0 : 16 ≤ u) (h1 : u < 256) :
    Calls Tryd.prog 88 #[.slice none 0 0, .int .u64 u, .int .i64 16, .bool false, .bool false] w (BitsPost [hexD (u / 16), hexD (u % 16)] w) := by
  have ht := h.lt
  have hd1 := digit_at (u / 16) (by omega) (by omega)
  have hd2 := digit_at (u % 16) (by omega) (by omega)
  have hb2 := and_15 u (by omega) (by omega)
  go_enter Tryd.func88, Tryd.ntmps88
  go_wp2_with fail
  refine (pow_16 _).mono ?_
  rintro e w1 ⟨rfl, rfl⟩
  go_wp2_with fail
  refine (trailing_16 _ (h.later ((Below.refl _ w).alloc (Nat.le_refl _) _) ht)).mono ?_
  rintro e w1 ⟨rfl, rfl⟩
  go_wp2
  refine wp_loop_rounds 2 ?_; rw [rounds_succ]
  go_wp2
  rw [rounds_succ]
  go_wp2
  rw [tail_text w _ 63 2 [hexD (u / 16), hexD (u % 16)] rfl (fun i hi => by
    rcases (show i = 0 ∨ i = 1 from by omega) with rfl | rfl <;> (repeat rw [Array.getElem?_setIfInBounds]) <;> simp)]
  simp only [Result.andThen]
  rw [Oper.upon_value]
  go_wp2
  go_ret2
  exact ⟨rfl, (Below.refl _ w).alloc (Nat.le_refl _) _⟩

set_option maxRecDepth 100000 in
set_option maxHeartbeats 2000000 in
theorem bits_4 (u : Int) (w : World) (h : Tab w) (h0 : 4096 ≤ u) (h1 : u < 65536) :
    Calls Tryd.prog 88 #[.slice none 0 0, .int .u64 u, .int .i64 16, .bool false, .bool false] w (BitsPost [hexD (u / 4096), hexD (u / 256 % 16), hexD (u / 16 % 16), hexD (u % 16)] w) := by
  have ht := h.lt
  have hd1 := digit_at (u / 4096) (by omega) (by omega)
  have hd2 := digit_at (u / 256 % 16) (by omega) (by omega)
  have hd3 := digit_at (u / 16 % 16) (by omega) (by omega)
  have hd4 := digit_at (u % 16) (by omega) (by omega)
  have hb1 := and_15 u (by omega) (by omega)
  have hb2 := and_15 (u / 16) (by omega) (by omega)
  have hb3 := and_15 (u / 256) (by omega) (by omega)
  have q1 : u / 16 / 16 = u / 256 := by omega
  have q2 : u / 256 / 16 = u / 4096 := by omega
  have g1 : 16 ≤ u := by omega
  have g2 : 16 ≤ u / 16 := by omega
  have g3 : 16 ≤ u / 256 := by omega
  have g4 : u / 4096 < 16 := by omega
  go_enter Tryd.func88, Tryd.ntmps88
  go_wp2_with fail
  refine (pow_16 _).mono ?_
  rintro e w1 ⟨rfl, rfl⟩
  go_wp2_with fail
  refine (trailing_16 _ (h.later ((Below.refl _ w).alloc (Nat.le_refl _) _) ht)).mono ?_
  rintro e w1 ⟨rfl, rfl⟩
  go_wp2
  refine wp_loop_rounds 4 ?_; rw [rounds_succ]
  go_wp2
  rw [rounds_succ]
  go_wp2
  rw [rounds_succ]
  go_wp2
  rw [rounds_succ]
  go_wp2
  rw [tail_text w _ 61 4 [hexD (u / 4096), hexD (u / 256 % 16), hexD (u / 16 % 16), hexD (u % 16)] rfl (fun i hi => by
    rcases (show i = 0 ∨ i = 1 ∨ i = 2 ∨ i = 3 from by omega) with rfl | rfl | rfl | rfl <;> (repeat rw [Array.getElem?_setIfInBounds]) <;> simp)]
  simp only [Result.andThen]
  rw [Oper.upon_value]
  go_wp2
  go_ret2
  exact ⟨rfl, (Below.refl _ w).alloc (Nat.le_refl _) _⟩

/-- A number's digits of base 16, where it has one, two or four of them. -/
def hexF (u : Int) : List Int := if u < 16 then [hexD u] else if u < 256 then [hexD (u / 16), hexD (u % 16)] else [hexD (u / 4096), hexD (u / 256 % 16), hexD (u / 16 % 16), hexD (u % 16)]
/-- Numbers that have so many digits. -/
def Hexes (u : Int) : Prop := 0 ≤ u ∧ (u < 256 ∨ (4096 ≤ u ∧ u < 65536))

theorem bits_any (u : Int) (w : World) (h : Tab w) (hu : Hexes u) :
    Calls Tryd.prog 88 #[.slice none 0 0, .int .u64 u, .int .i64 16, .bool false, .bool false] w (BitsPost (hexF u) w) := by
  obtain ⟨h0, h1⟩ := hu
  unfold hexF
  by_cases c1 : u < 16
  · rw [if_pos c1]; exact bits_1 u w h h0 c1
  · by_cases c2 : u < 256
    · rw [if_neg c1, if_pos c2]; exact bits_2 u w h (by omega) c2
    · rw [if_neg c1, if_neg c2]; exact bits_4 u w h (by omega) (by omega)

end Go.Proofs.YtkpjkeplbjkigaaDoor
