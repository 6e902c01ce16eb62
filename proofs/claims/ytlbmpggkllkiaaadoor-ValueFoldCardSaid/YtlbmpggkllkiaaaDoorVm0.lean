/- ValueFold: the law's walk. -/
import Derived.Test.YtlbmpggkllkiaaaDoorVl
import Derived.Deep.RegionHeld3
namespace Go.Proofs.YtlbmpggkllkiaaaDoor
open Go.RowKit
set_option linter.unusedVariables false

/-- A great letter for a small one, as a number. -/
def upF (c : Int) : Int := if 97 ≤ c ∧ c ≤ 122 then c - 32 else c
def upL (bs : List UInt8) : List Int := bs.map fun b => upF b.toNat
theorem upF_byte (b : UInt8) : 0 ≤ upF b.toNat ∧ upF b.toNat ≤ 255 := by
  have h := b.toNat_lt
  unfold upF; split <;> omega
theorem upL_len (s : ByteArray) : (upL (strB s)).length = s.size := by unfold upL; rw [List.length_map, strB_len]
theorem strB_up (s : ByteArray) : strB (strOfNums (upL (strB s))) = (strB s).map upB := by
  show (upL (strB s)).map (fun n => UInt8.ofNat n.toNat) = (strB s).map upB
  unfold upL
  rw [List.map_map]
  refine List.map_congr_left (fun b _ => ?_)
  have h : ∀ b : Fin 256, ((fun n : Int => UInt8.ofNat n.toNat) ∘ fun b : UInt8 => upF (b.toNat : Int)) (UInt8.ofNat b.val) = upB (UInt8.ofNat b.val) := by decide +kernel
  have := h ⟨b.toNat, b.toNat_lt⟩
  simpa using this

/-- What the last region reads, and what it keeps. -/
def FoldS (op : Int) (t s G : ByteArray) (A P g cap n : Nat) (w0 w' : World) : Prop :=
  Blk w' A [.int .i64 op, .string t, .bool true] 34 ∧ Blk w' P [.int .i64 op, .string t, .bool false] 34 ∧ At w' .u8 g 0 (upL (strB s)) ∧ LibW w' ∧ Below w0.heap.size w0 w'
theorem FoldS.later {op : Int} {t s G : ByteArray} {A P g cap n : Nat} {w0 w1 w2 : World} (h : FoldS op t s G A P g cap n w0 w1) (hb : Below w1.heap.size w1 w2) : FoldS op t s G A P g cap n w0 w2 := by
  obtain ⟨h1, h2, h3, h4, h5⟩ := h
  exact ⟨h1.later hb h1.lt, h2.later hb h2.lt, h3.later hb h3.1, h4.later hb, below_trans h5 hb⟩
theorem FoldS.lib {op : Int} {t s G : ByteArray} {A P g cap n : Nat} {w0 w1 : World} (h : FoldS op t s G A P g cap n w0 w1) : LibW w1 := h.2.2.2.1
theorem FoldS.below {op : Int} {t s G : ByteArray} {A P g cap n : Nat} {w0 w1 : World} (h : FoldS op t s G A P g cap n w0 w1) : Below w0.heap.size w0 w1 := h.2.2.2.2
theorem FoldS.says {op : Int} {t s : ByteArray} {A P g cap n : Nat} {w0 w1 : World} (hn : n = s.size) (h : FoldS op t s (strOfNums (upL (strB s))) A P g cap n w0 w1) :
    w1.cell? ⟨A, 0, none⟩ = some (.int .i64 op) ∧ w1.cell? ⟨A, 1, none⟩ = some (.string t) ∧ w1.cell? ⟨A, 2, none⟩ = some (.bool true) ∧
    w1.cell? ⟨P, 0, none⟩ = some (.int .i64 op) ∧ w1.cell? ⟨P, 1, none⟩ = some (.string t) ∧ w1.cell? ⟨P, 2, none⟩ = some (.bool false) ∧
    (convert 29 9 (.slice (some ⟨g, 0, none⟩) n cap)).run Tryd.prog w1 = .ok (.string (strOfNums (upL (strB s)))) w1 := by
  obtain ⟨h1, h2, h3, h4, h5⟩ := h
  exact ⟨h1.cell 0 _ rfl, h1.cell 1 _ rfl, h1.cell 2 _ rfl, h2.cell 0 _ rfl, h2.cell 1 _ rfl, h2.cell 2 _ rfl,
    run_convert_bytes_arg w1 29 5 Tryd.underlying29 Tryd.underlying5 g 0 n cap (upL (strB s)) (by rw [upL_len, hn]) (fun i hi => by rw [List.getD_eq_getElem?_getD]; exact h3.2 i (by rw [upL_len, ← hn]; exact hi)) 9 Tryd.underlying9⟩

set_option maxRecDepth 100000 in
set_option maxHeartbeats 2000000 in
theorem fold_e1 (op : Int) (fold : Bool) (t s : ByteArray) (w : World) (hL : LibW w) (h1 : (1000 : Int) < (t.size : Int)) :
    Calls Tryd.prog 10 #[.agg #[.int .i64 op, .string t, .bool fold], .string s] w (Told (.bool true) w) := by
  have hA := Blk.alloc (w := w) [.int .i64 op, .string t, .bool fold] 34
  have B1 : Below w.heap.size w (w.alloc (.cells #[.int .i64 op, .string t, .bool fold] 34)) := (Below.refl _ w).alloc (Nat.le_refl _) _
  have HA := Lib.hid hA
  have HL := Lib.hid hL
  clear hA hL
  go_enter Tryd.func10, Tryd.ntmps10
  go_wp2_with fail
  refine (speaks6_any _ (HL.out.later B1)).mono ?_
  rintro e w1 ⟨rfl, hb1⟩
  have HA1 := Lib.hid (HA.out.later hb1 HA.out.lt)
  have B2 := below_trans B1 hb1
  obtain ⟨x0, x1, x2⟩ := cells3 HA1.out
  clear HA
  go_wp2
  go_ret
  exact ⟨rfl, B2⟩
set_option maxRecDepth 100000 in
set_option maxHeartbeats 2000000 in
theorem fold_e2 (op : Int) (fold : Bool) (t s : ByteArray) (w : World) (hL : LibW w) (h1 : ¬ (1000 : Int) < (t.size : Int)) (h2 : (1000 : Int) < (s.size : Int)) :
    Calls Tryd.prog 10 #[.agg #[.int .i64 op, .string t, .bool fold], .string s] w (Told (.bool true) w) := by
  have hA := Blk.alloc (w := w) [.int .i64 op, .string t, .bool fold] 34
  have B1 : Below w.heap.size w (w.alloc (.cells #[.int .i64 op, .string t, .bool fold] 34)) := (Below.refl _ w).alloc (Nat.le_refl _) _
  have HA := Lib.hid hA
  have HL := Lib.hid hL
  clear hA hL
  go_enter Tryd.func10, Tryd.ntmps10
  go_wp2_with fail
  refine (speaks6_any _ (HL.out.later B1)).mono ?_
  rintro e w1 ⟨rfl, hb1⟩
  have HA1 := Lib.hid (HA.out.later hb1 HA.out.lt)
  have B2 := below_trans B1 hb1
  obtain ⟨x0, x1, x2⟩ := cells3 HA1.out
  clear HA
  go_wp2
  go_ret
  exact ⟨rfl, B2⟩

end Go.Proofs.YtlbmpggkllkiaaaDoor
