/- Several texts of mine in one. -/
import Derived.Test.YtickcbmfboajiaaGreatDoorRows
import Derived.WalkKit
import Derived.WalkSpells
import Derived.WalkLawsBesides
import Derived.Lib.Hide
import Derived.Deep.QuietTactic
import Derived.BigQuiet
namespace Go.Proofs.YtickcbmfboajiaaGreatDoor
section
open Go.RowKit

theorem ret_int {k : IntKind} {a b : Int} (h : a = b) : Ending.returned (.int k a) = .returned (.int k b) := by rw [h]
theorem ret_bool {a b : Bool} (h : a = b) : Ending.returned (.bool a) = .returned (.bool b) := by rw [h]

/-- All numbers of a list are bytes. -/
def U8 (zs : List Int) : Prop := ∀ z ∈ zs, 0 ≤ z ∧ z ≤ 255
/-- All numbers of a list are ints. -/
def I64 (zs : List Int) : Prop := ∀ z ∈ zs, -9223372036854775808 ≤ z ∧ z ≤ 9223372036854775807

theorem U8.at {zs : List Int} (h : U8 zs) (j : Nat) : 0 ≤ zs[j]?.getD 0 ∧ zs[j]?.getD 0 ≤ 255 := by
  rcases Nat.lt_or_ge j zs.length with hj | hj
  · rw [List.getElem?_eq_getElem hj]; exact h _ (List.getElem_mem hj)
  · rw [List.getElem?_eq_none hj]; simp
theorem I64.at {zs : List Int} (h : I64 zs) (j : Nat) : -9223372036854775808 ≤ zs[j]?.getD 0 ∧ zs[j]?.getD 0 ≤ 9223372036854775807 := by
  rcases Nat.lt_or_ge j zs.length with hj | hj
  · rw [List.getElem?_eq_getElem hj]; exact h _ (List.getElem_mem hj)
  · rw [List.getElem?_eq_none hj]; simp
theorem U8.drop {zs : List Int} (h : U8 zs) (k : Nat) : U8 (zs.drop k) := fun z hz => h z (List.mem_of_mem_drop hz)
theorem U8.take {zs : List Int} (h : U8 zs) (k : Nat) : U8 (zs.take k) := fun z hz => h z (List.mem_of_mem_take hz)

/-- The cells at a place hold the numbers of a list. -/
def At (w : World) (k : IntKind) (b off : Nat) (zs : List Int) : Prop :=
  b < w.heap.size ∧ ∀ j, j < zs.length → w.cell? ⟨b, off + j, none⟩ = some (.int k (zs[j]?.getD 0))

theorem At.later {w w' : World} {k : IntKind} {b off B : Nat} {zs : List Int} (h : At w k b off zs) (hb : Below B w w') (hB : b < B) : At w' k b off zs :=
  ⟨Nat.lt_of_lt_of_le h.1 hb.size, fun j hj => (hb.cell (p := ⟨b, off + j, none⟩) hB).trans (h.2 j hj)⟩
theorem At.drop {w : World} {k : IntKind} {b off : Nat} {zs : List Int} (h : At w k b off zs) (n : Nat) : At w k b (off + n) (zs.drop n) :=
  ⟨h.1, fun j hj => by
    have := h.2 (n + j) (by simp at hj; omega)
    rw [List.getElem?_drop, Nat.add_assoc]; exact this⟩
theorem At.take {w : World} {k : IntKind} {b off : Nat} {zs : List Int} (h : At w k b off zs) (n : Nat) : At w k b off (zs.take n) :=
  ⟨h.1, fun j hj => by
    simp at hj
    have := h.2 j (by omega)
    rw [List.getElem?_take_of_lt (by omega)]; exact this⟩

/-- A slice reads as a list of numbers. -/
def Reads (w : World) (k : IntKind) (a : Option Addr) (cap : Nat) (zs : List Int) : Prop :=
  zs.length ≤ cap ∧ cap ≤ maxLen ∧ (zs = [] ∨ ∃ b off, a = some ⟨b, off, none⟩ ∧ At w k b off zs)

theorem Reads.later {w w' : World} {k : IntKind} {a : Option Addr} {cap : Nat} {zs : List Int} (h : Reads w k a cap zs) (hb : Below w.heap.size w w') : Reads w' k a cap zs := by
  obtain ⟨h1, h2, h3⟩ := h
  refine ⟨h1, h2, ?_⟩
  rcases h3 with h3 | ⟨b, off, rfl, hat⟩
  · exact .inl h3
  · exact .inr ⟨b, off, rfl, hat.later hb hat.1⟩

/-- A slice that the call has made reads as its numbers. -/
theorem Reads.of_owns {w : World} {base : Nat} {e : TypeId} {k : IntKind} {v : Value} {zs : List Int} (h : w.ownsRow base e 1 v zs.length (zs.map (Value.int k))) :
    ∃ a cap, v = .slice a zs.length cap ∧ Reads w k a cap zs := by
  rcases h.2 with ⟨rfl, h0⟩ | ⟨g, cap, cur, rfl, hg, hh, hn, hcap, hsz, htake⟩
  · have : zs = [] := List.length_eq_zero_iff.1 h0
    subst this
    exact ⟨none, 0, rfl, by simp, by simp [maxLen], .inl rfl⟩
  · refine ⟨_, cap, rfl, hn, hcap, .inr ⟨g, 0, rfl, (Array.getElem?_eq_some_iff.1 hh).1, fun j hj => ?_⟩⟩
    have hx := h.cells (g := g) rfl j (.int k (zs[j]?.getD 0)) (by
      rw [List.getElem?_map, List.getElem?_eq_getElem hj]; rfl)
    rw [← hx]; congr 1; unfold Addr.add; simp

/-- A block of plain cells that may be written. -/
def Blk (w : World) (p : Nat) (cs : List Value) (T : TypeId) : Prop := w.heap[p]? = some (.cells cs.toArray T (0, 0))
theorem Blk.lt {w : World} {p : Nat} {cs : List Value} {T : TypeId} (h : Blk w p cs T) : p < w.heap.size := lt_of_block h
theorem Blk.cell {w : World} {p : Nat} {cs : List Value} {T : TypeId} (h : Blk w p cs T) (i : Nat) (v : Value) (hv : cs[i]? = some v) : w.cell? ⟨p, i, none⟩ = some v := by
  rw [cell_of_row w p i _ T _ h]; simpa using hv
theorem Blk.frozen {w : World} {p : Nat} {cs : List Value} {T : TypeId} (h : Blk w p cs T) (i : Nat) : w.frozen? ⟨p, i, none⟩ = false := by
  unfold Blk at h; simp [World.frozen?, h]
theorem Blk.setCell {w : World} {p : Nat} {cs : List Value} {T : TypeId} (h : Blk w p cs T) (i : Nat) (v : Value) : Blk (w.setCell ⟨p, i, none⟩ v) p (cs.set i v) T := by
  have hlt := h.lt
  have h' : w.heap[p] = .cells cs.toArray T (0, 0) := by unfold Blk at h; simpa [Array.getElem?_eq_getElem hlt] using h
  show (w.heap.modify p _)[p]? = _
  rw [Array.getElem?_eq_getElem (by simpa using hlt), Array.getElem_modify_self, h']
  simp
theorem Blk.kept {w w' : World} {p : Nat} {cs : List Value} {T : TypeId} (h : Blk w p cs T) {row : Option Nat} (hg : w.grownBy w' row) (hne : row ≠ some p) : Blk w' p cs T :=
  (hg.block p h.lt (fun e => hne e.symm)).trans h
theorem Blk.later {w w' : World} {p : Nat} {cs : List Value} {T : TypeId} (h : Blk w p cs T) {B : Nat} (hb : Below B w w') (hB : p < B) : Blk w' p cs T := (hb.block p hB).trans h
theorem Blk.drewN {w : World} {p : Nat} {cs : List Value} {T : TypeId} (h : Blk w p cs T) (n : Nat) : Blk (w.drewN n) p cs T := h
theorem Blk.alloc {w : World} (cs : List Value) (T : TypeId) : Blk (w.alloc (.cells cs.toArray T)) w.heap.size cs T := heap_alloc_new w _
theorem Blk.alloc_old {w : World} {p : Nat} {cs : List Value} {T : TypeId} (h : Blk w p cs T) (o : Obj) : Blk (w.alloc o) p cs T := (heap_alloc_old w o h.lt).trans h
theorem grown_setCell (w : World) (p i : Nat) (v : Value) : w.grownBy (w.setCell ⟨p, i, none⟩ v) (some p) :=
  ⟨rfl, rfl, rfl, by simp, fun k _ hne => Below.heap_setCell _ _ _ _ (fun e => hne (congrArg some e))⟩
theorem grown_trans {a b c : World} {row : Option Nat} (h : a.grownBy b row) (k : b.grownBy c row) : a.grownBy c row :=
  ⟨k.os.trans h.os, k.tape.trans h.tape, k.output.trans h.output, Nat.le_trans h.size k.size, fun i hi hne => (k.block i (Nat.lt_of_lt_of_le hi h.size) hne).trans (h.block i hi hne)⟩
theorem grown_drewN {w w' : World} {row : Option Nat} (h : w.grownBy w' row) (n : Nat) : w.grownBy (w'.drewN n) row := grown_trans h ⟨rfl, rfl, rfl, Nat.le_refl _, fun _ _ _ => rfl⟩
theorem Below.of_grown {w w' : World} {B : Nat} {row : Option Nat} (h : w.grownBy w' row) (hB : B ≤ w.heap.size) (hr : ∀ k, row = some k → B ≤ k) : Below B w w' := (Below.refl B w).grown h hB hr
/-- The length of a slice in a slot: for a loop's measure. -/
def lenIn : Value → Nat | .slice _ n _ => n | _ => 0
theorem grown_of_below {w w' : World} (h : Below w.heap.size w w') : w.grownBy w' none := ⟨h.os, h.tape, h.output, h.size, fun k hk _ => h.block k hk⟩
/-- What is owned stays owned over a call that leaves all old blocks alone. -/
theorem owns_later {w w' : World} {base : Nat} {e : TypeId} {size : Nat} {v : Value} {n : Nat} {xs : List Value} (h : w.ownsRow base e size v n xs) (hb : Below w.heap.size w w') : w'.ownsRow base e size v n xs :=
  h.kept (grown_of_below hb) (by cases v.ownBlock <;> simp)
/-- One more number at the end of an owned row. -/
theorem owns_snoc {w : World} {base : Nat} {e : TypeId} {k : IntKind} {v : Value} {zs : List Int} {z : Int} (h : w.ownsRow base e 1 v (zs.length + 1) (zs.map (Value.int k) ++ [.int k z])) :
    w.ownsRow base e 1 v (zs ++ [z]).length ((zs ++ [z]).map (Value.int k)) := by
  rw [List.length_append, List.map_append]; exact h
/-- The post of a call that tells a value and changes nothing. -/
def Tells (v : Value) (w : World) (e : Ending) (w' : World) : Prop := e = .returned v ∧ w' = w
/-- The post of a call that tells a value and leaves memory as it was. -/
def Told (v : Value) (w : World) (e : Ending) (w' : World) : Prop := e = .returned v ∧ Below w.heap.size w w'
theorem Tells.told {v : Value} {w : World} {e : Ending} {w' : World} (h : Tells v w e w') : Told v w e w' := ⟨h.1, by rw [h.2]; exact Below.refl _ _⟩
theorem below_drewN {B : Nat} {a w : World} (h : Below B a w) (n : Nat) : Below B a (w.drewN n) := ⟨h.os, h.tape, h.output, h.size, h.block⟩
theorem below_trans {w a b : World} (h : Below w.heap.size w a) (k : Below a.heap.size a b) : Below w.heap.size w b := h.trans (k.mono h.size)
end

section
open Go.RowKit

/-- The cells of a reading. -/
def rdCells (b off len cap : Nat) (c : Int) (size : Nat) (lo hi : Int) : List Value :=
  [.slice (some ⟨b, off, none⟩) len cap, .int .i32 c, .int .i64 size, .int .u8 lo, .int .u8 hi]

/-- The char behind one byte more. -/
def charNext (c z : Int) : Int := bits .or .i32 (wrap32 (c * 64)) (wrap32 (bits .and .u8 z 63))

theorem more_world (p b off len cap T : Nat) (c lo hi z : Int) (size : Nat) (w : World) (n : Nat) (hB : Blk w p (rdCells b off len cap c size lo hi) T) :
    Blk (((((w.drewN n).setCell ⟨p, 1, none⟩ (.int .i32 (charNext c z))).setCell ⟨p, 2, none⟩ (.int .i64 (↑size + 1))).setCell ⟨p, 3, none⟩ (.int .u8 128)).setCell ⟨p, 4, none⟩ (.int .u8 191))
      p (rdCells b off len cap (charNext c z) (size + 1) 128 191) T ∧
    w.grownBy (((((w.drewN n).setCell ⟨p, 1, none⟩ (.int .i32 (charNext c z))).setCell ⟨p, 2, none⟩ (.int .i64 (↑size + 1))).setCell ⟨p, 3, none⟩ (.int .u8 128)).setCell ⟨p, 4, none⟩ (.int .u8 191)) (some p) := by
  generalize charNext c z = d
  have h := ((((hB.drewN n).setCell 1 (.int .i32 d)).setCell 2 (.int .i64 (↑size + 1))).setCell 3 (.int .u8 128)).setCell 4 (.int .u8 191)
  refine ⟨?_, grown_trans (grown_trans (grown_trans (grown_trans (grown_drewN (World.grownBy.refl _ _) _) (grown_setCell _ _ _ _)) (grown_setCell _ _ _ _)) (grown_setCell _ _ _ _)) (grown_setCell _ _ _ _)⟩
  simpa [rdCells] using h

set_option maxRecDepth 100000 in
set_option maxHeartbeats 400000 in
theorem more_no (p b off len cap T : Nat) (c lo hi : Int) (size : Nat) (w : World)
    (hB : Blk w p (rdCells b off len cap c size lo hi) T) (_hl : len ≤ cap) (_hcap : cap ≤ maxLen)
    (zs : List Int) (hz : zs.length = len) (hat : At w .u8 b off zs) (hs : size ≤ len)
    (hno : ¬ (size < len ∧ lo ≤ zs[size]?.getD 0 ∧ zs[size]?.getD 0 ≤ hi)) :
    Calls Tryz.prog 69 #[.pointer (some ⟨p, 0, none⟩)] w fun e w' => e = .returned (.bool false) ∧ Blk w' p (rdCells b off len cap c size lo hi) T ∧ w.grownBy w' (some p) := by
  have h0 := hB.cell 0 _ rfl
  have h2 := hB.cell 2 _ rfl
  have h3 := hB.cell 3 _ rfl
  have h4 := hB.cell 4 _ rfl
  have HB := Lib.hid hB; clear hB
  by_cases he : size = len
  · subst he
    have HZ := Lib.hid hz; clear hz
    go_enter Tryz.func69, Tryz.ntmps69
    go_wp2
    go_quiet (fail)
    go_wp2
    go_ret
    exact ⟨rfl, HB.out.drewN _, grown_drewN (World.grownBy.refl _ _) _⟩
  · have hc := hat.2 size (by omega)
    have hlt : (size : Int) < (len : Int) := by omega
    have hne : ((size : Int) == (len : Int)) = false := by simp; omega
    have hno' : ¬ (lo ≤ zs[size]?.getD 0 ∧ zs[size]?.getD 0 ≤ hi) := fun h => hno ⟨by omega, h⟩
    generalize zs[size]?.getD 0 = z at *
    clear hat hno he
    have HZ := Lib.hid hz; clear hz
    go_enter Tryz.func69, Tryz.ntmps69
    go_wp2
    go_quiet (fail)
    go_wp2
    go_quiet (fail)
    go_wp2
    all_goals
      go_ret
      exact ⟨rfl, HB.out.drewN _, grown_drewN (World.grownBy.refl _ _) _⟩

set_option maxRecDepth 100000 in
set_option maxHeartbeats 400000 in
theorem more_yes (p b off len cap T : Nat) (c lo hi : Int) (size : Nat) (w : World)
    (hB : Blk w p (rdCells b off len cap c size lo hi) T) (_hl : len ≤ cap) (hcap : cap ≤ maxLen)
    (zs : List Int) (hz : zs.length = len) (hat : At w .u8 b off zs) (hs : size < len)
    (hyes : lo ≤ zs[size]?.getD 0 ∧ zs[size]?.getD 0 ≤ hi) :
    Calls Tryz.prog 69 #[.pointer (some ⟨p, 0, none⟩)] w fun e w' => e = .returned (.bool true) ∧
      Blk w' p (rdCells b off len cap (charNext c (zs[size]?.getD 0)) (size + 1) 128 191) T ∧ w.grownBy w' (some p) := by
  unfold maxLen at hcap
  have h0 := hB.cell 0 _ rfl
  have h1 := hB.cell 1 _ rfl
  have h2 := hB.cell 2 _ rfl
  have h3 := hB.cell 3 _ rfl
  have h4 := hB.cell 4 _ rfl
  have f1 := hB.frozen 1
  have f2 := hB.frozen 2
  have f3 := hB.frozen 3
  have f4 := hB.frozen 4
  have hc := hat.2 size (by omega)
  have hlt : (size : Int) < (len : Int) := by omega
  have hne : ((size : Int) == (len : Int)) = false := by simp; omega
  generalize zs[size]?.getD 0 = z at *
  obtain ⟨hy1, hy2⟩ := hyes
  have HB := Lib.hid hB; clear hB
  clear hat
  have HZ := Lib.hid hz; clear hz
  go_enter Tryz.func69, Tryz.ntmps69
  go_wp2
  go_quiet (fail)
  go_wp2
  go_quiet (fail)
  go_wp2
  go_ret
  exact ⟨rfl, more_world p b off len cap T c lo hi z size w _ HB.out⟩
end

section
open Go.RowKit

def charBegin (z : Int) : Int := if 240 ≤ z then bits .and .i32 z 7 else if 224 ≤ z then bits .and .i32 z 15 else if 128 ≤ z then bits .and .i32 z 31 else z
def loOf (z : Int) : Int := if z = 224 then 160 else if z = 240 then 144 else 128
def hiOf (z : Int) : Int := if z = 237 then 159 else if z = 244 then 143 else 191

set_option maxRecDepth 100000 in
set_option maxHeartbeats 1000000 in
theorem begin_any (b off len cap : Nat) (z : Int) (w : World) (hlen : 1 ≤ len) (hz : 0 ≤ z ∧ z ≤ 255)
    (hc : w.cell? ⟨b, off, none⟩ = some (.int .u8 z)) :
    Calls Tryz.prog 68 #[.slice (some ⟨b, off, none⟩) len cap] w fun e w' =>
      e = .returned (.agg (rdCells b off len cap (charBegin z) 1 (loOf z) (hiOf z)).toArray) ∧ Below w.heap.size w w' := by
  obtain ⟨hz0, hz1⟩ := hz
  have hb : b < w.heap.size := World.block_lt_of_cell? w _ hc
  have key : z < 128 ∨ (128 ≤ z ∧ z < 224) ∨ z = 224 ∨ z = 237 ∨ (224 < z ∧ z < 240 ∧ (z == 237) = false) ∨ z = 240 ∨ z = 244 ∨ (240 < z ∧ (z == 244) = false) := by
    simp only [beq_eq_false_iff_ne, ne_eq]; omega
  rcases key with h | ⟨h, h'⟩ | h | h | ⟨h, h', h''⟩ | h | h | ⟨h, h'⟩
  all_goals first | subst h | skip
  all_goals
    go_enter Tryz.func68, Tryz.ntmps68
    go_wp2
  · refine bodyPost_ret (v := .agg #[.slice (some ⟨b, off, none⟩) len cap, .int .i32 (z), .int .i64 1, .int .u8 128, .int .u8 191]) (by simp [results, Tryz.results68, go_sem]) rfl ⟨?_, ((Below.refl _ _).alloc (Nat.le_refl _) _).alloc (by simp) _⟩
    rw [show charBegin z = z from by simp only [charBegin]; (repeat' split) <;> first | rfl | omega, show loOf z = 128 from by first | decide | ((try simp only [beq_eq_false_iff_ne, ne_eq] at *); simp only [loOf]; (repeat' split) <;> first | rfl | omega), show hiOf z = 191 from by first | decide | ((try simp only [beq_eq_false_iff_ne, ne_eq] at *); simp only [hiOf]; (repeat' split) <;> first | rfl | omega)]; rfl
  · refine bodyPost_ret (v := .agg #[.slice (some ⟨b, off, none⟩) len cap, .int .i32 (bits .and .i32 z 31), .int .i64 1, .int .u8 128, .int .u8 191]) (by simp [results, Tryz.results68, go_sem]) rfl ⟨?_, ((Below.refl _ _).alloc (Nat.le_refl _) _).alloc (by simp) _⟩
    rw [show charBegin z = bits .and .i32 z 31 from by simp only [charBegin]; (repeat' split) <;> first | rfl | omega, show loOf z = 128 from by first | decide | ((try simp only [beq_eq_false_iff_ne, ne_eq] at *); simp only [loOf]; (repeat' split) <;> first | rfl | omega), show hiOf z = 191 from by first | decide | ((try simp only [beq_eq_false_iff_ne, ne_eq] at *); simp only [hiOf]; (repeat' split) <;> first | rfl | omega)]; rfl
  · refine bodyPost_ret (v := .agg #[.slice (some ⟨b, off, none⟩) len cap, .int .i32 (bits .and .i32 224 15), .int .i64 1, .int .u8 160, .int .u8 191]) (by simp [results, Tryz.results68, go_sem]) rfl ⟨?_, ((Below.refl _ _).alloc (Nat.le_refl _) _).alloc (by simp) _⟩
    rw [show charBegin 224 = bits .and .i32 224 15 from by simp only [charBegin]; (repeat' split) <;> first | rfl | omega, show loOf 224 = 160 from by first | decide | ((try simp only [beq_eq_false_iff_ne, ne_eq] at *); simp only [loOf]; (repeat' split) <;> first | rfl | omega), show hiOf 224 = 191 from by first | decide | ((try simp only [beq_eq_false_iff_ne, ne_eq] at *); simp only [hiOf]; (repeat' split) <;> first | rfl | omega)]; rfl
  · refine bodyPost_ret (v := .agg #[.slice (some ⟨b, off, none⟩) len cap, .int .i32 (bits .and .i32 237 15), .int .i64 1, .int .u8 128, .int .u8 159]) (by simp [results, Tryz.results68, go_sem]) rfl ⟨?_, ((Below.refl _ _).alloc (Nat.le_refl _) _).alloc (by simp) _⟩
    rw [show charBegin 237 = bits .and .i32 237 15 from by simp only [charBegin]; (repeat' split) <;> first | rfl | omega, show loOf 237 = 128 from by first | decide | ((try simp only [beq_eq_false_iff_ne, ne_eq] at *); simp only [loOf]; (repeat' split) <;> first | rfl | omega), show hiOf 237 = 159 from by first | decide | ((try simp only [beq_eq_false_iff_ne, ne_eq] at *); simp only [hiOf]; (repeat' split) <;> first | rfl | omega)]; rfl
  · refine bodyPost_ret (v := .agg #[.slice (some ⟨b, off, none⟩) len cap, .int .i32 (bits .and .i32 z 15), .int .i64 1, .int .u8 128, .int .u8 191]) (by simp [results, Tryz.results68, go_sem]) rfl ⟨?_, ((Below.refl _ _).alloc (Nat.le_refl _) _).alloc (by simp) _⟩
    rw [show charBegin z = bits .and .i32 z 15 from by simp only [charBegin]; (repeat' split) <;> first | rfl | omega, show loOf z = 128 from by first | decide | ((try simp only [beq_eq_false_iff_ne, ne_eq] at *); simp only [loOf]; (repeat' split) <;> first | rfl | omega), show hiOf z = 191 from by first | decide | ((try simp only [beq_eq_false_iff_ne, ne_eq] at *); simp only [hiOf]; (repeat' split) <;> first | rfl | omega)]; rfl
  · refine bodyPost_ret (v := .agg #[.slice (some ⟨b, off, none⟩) len cap, .int .i32 (bits .and .i32 240 7), .int .i64 1, .int .u8 144, .int .u8 191]) (by simp [results, Tryz.results68, go_sem]) rfl ⟨?_, ((Below.refl _ _).alloc (Nat.le_refl _) _).alloc (by simp) _⟩
    rw [show charBegin 240 = bits .and .i32 240 7 from by simp only [charBegin]; (repeat' split) <;> first | rfl | omega, show loOf 240 = 144 from by first | decide | ((try simp only [beq_eq_false_iff_ne, ne_eq] at *); simp only [loOf]; (repeat' split) <;> first | rfl | omega), show hiOf 240 = 191 from by first | decide | ((try simp only [beq_eq_false_iff_ne, ne_eq] at *); simp only [hiOf]; (repeat' split) <;> first | rfl | omega)]; rfl
  · refine bodyPost_ret (v := .agg #[.slice (some ⟨b, off, none⟩) len cap, .int .i32 (bits .and .i32 244 7), .int .i64 1, .int .u8 128, .int .u8 143]) (by simp [results, Tryz.results68, go_sem]) rfl ⟨?_, ((Below.refl _ _).alloc (Nat.le_refl _) _).alloc (by simp) _⟩
    rw [show charBegin 244 = bits .and .i32 244 7 from by simp only [charBegin]; (repeat' split) <;> first | rfl | omega, show loOf 244 = 128 from by first | decide | ((try simp only [beq_eq_false_iff_ne, ne_eq] at *); simp only [loOf]; (repeat' split) <;> first | rfl | omega), show hiOf 244 = 143 from by first | decide | ((try simp only [beq_eq_false_iff_ne, ne_eq] at *); simp only [hiOf]; (repeat' split) <;> first | rfl | omega)]; rfl
  · refine bodyPost_ret (v := .agg #[.slice (some ⟨b, off, none⟩) len cap, .int .i32 (bits .and .i32 z 7), .int .i64 1, .int .u8 128, .int .u8 191]) (by simp [results, Tryz.results68, go_sem]) rfl ⟨?_, ((Below.refl _ _).alloc (Nat.le_refl _) _).alloc (by simp) _⟩
    rw [show charBegin z = bits .and .i32 z 7 from by simp only [charBegin]; (repeat' split) <;> first | rfl | omega, show loOf z = 128 from by first | decide | ((try simp only [beq_eq_false_iff_ne, ne_eq] at *); simp only [loOf]; (repeat' split) <;> first | rfl | omega), show hiOf z = 191 from by first | decide | ((try simp only [beq_eq_false_iff_ne, ne_eq] at *); simp only [hiOf]; (repeat' split) <;> first | rfl | omega)]; rfl
end

section
open Go.RowKit

/-- Does the byte at a place go on with a character, whose next byte has these bounds? -/
def goesOn (zs : List Int) (i : Nat) (l h : Int) : Prop := i < zs.length ∧ l ≤ zs[i]?.getD 0 ∧ zs[i]?.getD 0 ≤ h
instance (zs : List Int) (i : Nat) (l h : Int) : Decidable (goesOn zs i l h) := by unfold goesOn; exact inferInstance

/-- What read tells of bytes: the character, how many bytes, whether it is one. -/
def readF (zs : List Int) : Int × Nat × Bool :=
  let z := zs[0]?.getD 0
  if z < 128 then (z, 1, true)
  else if 194 ≤ z ∧ z ≤ 244 then
    if ¬ goesOn zs 1 (loOf z) (hiOf z) then (0, 1, false)
    else
      let c1 := charNext (charBegin z) (zs[1]?.getD 0)
      if z ≤ 223 then (c1, 2, true)
      else if ¬ goesOn zs 2 128 191 then (0, 2, false)
      else
        let c2 := charNext c1 (zs[2]?.getD 0)
        if z ≤ 239 then (c2, 3, true)
        else if ¬ goesOn zs 3 128 191 then (0, 3, false)
        else (charNext c2 (zs[3]?.getD 0), 4, true)
  else (0, 1, false)

/-- The post of read. -/
def ReadPost (zs : List Int) (w : World) (e : Ending) (w' : World) : Prop :=
  e = .returned (.tuple #[.int .i32 (readF zs).1, .int .i64 (readF zs).2.1, .bool (readF zs).2.2]) ∧ Below w.heap.size w w'

theorem charBegin_low {z : Int} (h : z < 128) : charBegin z = z := by
  unfold charBegin; rw [if_neg (by omega), if_neg (by omega), if_neg (by omega)]

theorem ret_read {c c' : Int} {n n' : Int} {o o' : Bool} (h : c = c') (h2 : n = n') (h3 : o = o') : Ending.returned (.tuple #[.int .i32 c, .int .i64 n, .bool o]) = .returned (.tuple #[.int .i32 c', .int .i64 n', .bool o']) := by rw [h, h2, h3]

set_option maxRecDepth 100000 in
set_option maxHeartbeats 1000000 in
theorem read_low    (b off len cap : Nat) (zs : List Int) (w : World) (hlen : zs.length = len) (h1 : 1 ≤ len) (_hl : len ≤ cap) (_hcap : cap ≤ maxLen)
    (hat : At w .u8 b off zs) (hz : U8 zs) (hlow : zs[0]?.getD 0 < 128) :
    Calls Tryz.prog 39 #[.slice (some ⟨b, off, none⟩) len cap] w (ReadPost zs w) := by
  have hc := hat.2 0 (by omega)
  have hz0 := hz.at 0
  rw [Nat.add_zero] at hc
  have HP : Hid (readF zs = (zs[0]?.getD 0, 1, true)) := by show readF zs = _; unfold readF; rw [if_pos hlow]
  generalize zs[0]?.getD 0 = z at *
  go_enter Tryz.func39, Tryz.ntmps39
  go_wp2_with fail
  refine (begin_any b off len cap z w h1 hz0 hc).mono ?_
  rintro e w1 ⟨rfl, hb1⟩
  simp only [rdCells, show ((1 : Nat) : Int) = 1 from rfl]
  have hc1 := (hb1.cell (p := ⟨b, off, none⟩) hat.1).trans hc
  have hbl : b < w1.heap.size := Nat.lt_of_lt_of_le hat.1 hb1.size
  go_wp2_with fail
  go_quiet (fail)
  go_wp2
  go_ret3
  exact ⟨by rw [HP.out]; exact ret_read (charBegin_low hlow) rfl rfl, below_drewN (hb1.alloc hb1.size _) _⟩

set_option maxRecDepth 100000 in
set_option maxHeartbeats 1000000 in
theorem read_wrong    (b off len cap : Nat) (zs : List Int) (w : World) (hlen : zs.length = len) (h1 : 1 ≤ len) (_hl : len ≤ cap) (_hcap : cap ≤ maxLen)
    (hat : At w .u8 b off zs) (hz : U8 zs) (hno : ((128 : Int) ≤ zs[0]?.getD 0 ∧ zs[0]?.getD 0 < 194) ∨ (244 : Int) < zs[0]?.getD 0) :
    Calls Tryz.prog 39 #[.slice (some ⟨b, off, none⟩) len cap] w (ReadPost zs w) := by
  have hc := hat.2 0 (by omega)
  have hz0 := hz.at 0
  rw [Nat.add_zero] at hc
  have HP : Hid (readF zs = (0, 1, false)) := by show readF zs = _; unfold readF; rw [if_neg (by omega), if_neg (by omega)]
  generalize zs[0]?.getD 0 = z at *
  rcases hno with ⟨g1, g2⟩ | g1
  all_goals
    go_enter Tryz.func39, Tryz.ntmps39
    go_wp2_with fail
    refine (begin_any b off len cap z w h1 hz0 hc).mono ?_
    rintro e w1 ⟨rfl, hb1⟩
    simp only [rdCells, show ((1 : Nat) : Int) = 1 from rfl]
    have hc1 := (hb1.cell (p := ⟨b, off, none⟩) hat.1).trans hc
    have hbl : b < w1.heap.size := Nat.lt_of_lt_of_le hat.1 hb1.size
    go_wp2_with fail
    go_quiet (fail)
    go_wp2
    go_ret3
    exact ⟨by rw [HP.out]; exact ret_read rfl rfl rfl, below_drewN (hb1.alloc hb1.size _) _⟩

set_option maxRecDepth 100000 in
set_option maxHeartbeats 1000000 in
theorem read_2_1    (b off len cap : Nat) (zs : List Int) (w : World) (hlen : zs.length = len) (h1 : 1 ≤ len) (hl : len ≤ cap) (hcap : cap ≤ maxLen)
    (hat : At w .u8 b off zs) (hz : U8 zs) (hr : (194 : Int) ≤ zs[0]?.getD 0 ∧ zs[0]?.getD 0 ≤ 223) (k1 : ¬ goesOn zs 1 (loOf (zs[0]?.getD 0)) (hiOf (zs[0]?.getD 0))) :
    Calls Tryz.prog 39 #[.slice (some ⟨b, off, none⟩) len cap] w (ReadPost zs w) := by
  have hc := hat.2 0 (by omega)
  have hz0 := hz.at 0
  rw [Nat.add_zero] at hc
  have HP : Hid (readF zs = (0, 1, false)) := by show readF zs = _; unfold readF; rw [if_neg (by omega), if_pos (by omega), if_pos k1]
  generalize zs[0]?.getD 0 = z at *
  obtain ⟨hr1, hr2⟩ := hr
  go_enter Tryz.func39, Tryz.ntmps39
  go_wp2_with fail
  refine (begin_any b off len cap z w h1 hz0 hc).mono ?_
  rintro e w1 ⟨rfl, hb1⟩
  simp only [rdCells, show ((1 : Nat) : Int) = 1 from rfl]
  have hc1 := (hb1.cell (p := ⟨b, off, none⟩) hat.1).trans hc
  have hbl : b < w1.heap.size := Nat.lt_of_lt_of_le hat.1 hb1.size
  go_wp2_with fail
  have B0 : Blk (w1.alloc (.cells (rdCells b off len cap (charBegin z) 1 (loOf z) (hiOf z)).toArray 103)) w1.heap.size (rdCells b off len cap (charBegin z) 1 (loOf z) (hiOf z)) 103 := Blk.alloc _ _
  have hb2 : Below w.heap.size w (w1.alloc (.cells (rdCells b off len cap (charBegin z) 1 (loOf z) (hiOf z)).toArray 103)) := hb1.alloc hb1.size _
  refine (more_no w1.heap.size b off len cap _ (charBegin z) (loOf z) (hiOf z) 1 _ B0 hl hcap zs hlen (hat.later hb2 hat.1) (by omega) (by rw [← hlen]; exact k1)).mono ?_
  rintro e w3 ⟨rfl, B1, g1⟩
  have hb3 := hb2.grown g1 hb2.size (by rintro _ ⟨⟩; exact hb1.size)
  have q2 := B1.cell 2 _ rfl
  go_wp2_with fail
  go_quiet (fail)
  go_wp2
  go_ret3
  exact ⟨by rw [HP.out]; exact ret_read rfl rfl rfl, below_drewN hb3 _⟩

set_option maxRecDepth 100000 in
set_option maxHeartbeats 1000000 in
theorem read_2_2    (b off len cap : Nat) (zs : List Int) (w : World) (hlen : zs.length = len) (h1 : 1 ≤ len) (hl : len ≤ cap) (hcap : cap ≤ maxLen)
    (hat : At w .u8 b off zs) (hz : U8 zs) (hr : (194 : Int) ≤ zs[0]?.getD 0 ∧ zs[0]?.getD 0 ≤ 223) (k1 : goesOn zs 1 (loOf (zs[0]?.getD 0)) (hiOf (zs[0]?.getD 0))) :
    Calls Tryz.prog 39 #[.slice (some ⟨b, off, none⟩) len cap] w (ReadPost zs w) := by
  have hc := hat.2 0 (by omega)
  have hz0 := hz.at 0
  rw [Nat.add_zero] at hc
  have HP : Hid (readF zs = (charNext (charBegin (zs[0]?.getD 0)) (zs[1]?.getD 0), 2, true)) := by show readF zs = _; unfold readF; rw [if_neg (by omega), if_pos (by omega), if_neg (not_not_intro k1), if_pos (by omega)]
  generalize zs[0]?.getD 0 = z at *
  obtain ⟨hr1, hr2⟩ := hr
  go_enter Tryz.func39, Tryz.ntmps39
  go_wp2_with fail
  refine (begin_any b off len cap z w h1 hz0 hc).mono ?_
  rintro e w1 ⟨rfl, hb1⟩
  simp only [rdCells, show ((1 : Nat) : Int) = 1 from rfl]
  have hc1 := (hb1.cell (p := ⟨b, off, none⟩) hat.1).trans hc
  have hbl : b < w1.heap.size := Nat.lt_of_lt_of_le hat.1 hb1.size
  go_wp2_with fail
  have B0 : Blk (w1.alloc (.cells (rdCells b off len cap (charBegin z) 1 (loOf z) (hiOf z)).toArray 103)) w1.heap.size (rdCells b off len cap (charBegin z) 1 (loOf z) (hiOf z)) 103 := Blk.alloc _ _
  have hb2 : Below w.heap.size w (w1.alloc (.cells (rdCells b off len cap (charBegin z) 1 (loOf z) (hiOf z)).toArray 103)) := hb1.alloc hb1.size _
  refine (more_yes w1.heap.size b off len cap _ (charBegin z) (loOf z) (hiOf z) 1 _ B0 hl hcap zs hlen (hat.later hb2 hat.1) (by have := k1.1; omega) k1.2).mono ?_
  rintro e w3 ⟨rfl, B1, g1⟩
  have hb3 := hb2.grown g1 hb2.size (by rintro _ ⟨⟩; exact hb1.size)
  have q1 := B1.cell 1 _ rfl
  have q2 := B1.cell 2 _ rfl
  go_wp2_with fail
  go_quiet (fail)
  go_wp2
  go_ret3
  exact ⟨by rw [HP.out]; exact ret_read rfl rfl rfl, below_drewN hb3 _⟩

set_option maxRecDepth 100000 in
set_option maxHeartbeats 1000000 in
theorem read_3_1    (b off len cap : Nat) (zs : List Int) (w : World) (hlen : zs.length = len) (h1 : 1 ≤ len) (hl : len ≤ cap) (hcap : cap ≤ maxLen)
    (hat : At w .u8 b off zs) (hz : U8 zs) (hr : (224 : Int) ≤ zs[0]?.getD 0 ∧ zs[0]?.getD 0 ≤ 239) (k1 : ¬ goesOn zs 1 (loOf (zs[0]?.getD 0)) (hiOf (zs[0]?.getD 0))) :
    Calls Tryz.prog 39 #[.slice (some ⟨b, off, none⟩) len cap] w (ReadPost zs w) := by
  have hc := hat.2 0 (by omega)
  have hz0 := hz.at 0
  rw [Nat.add_zero] at hc
  have HP : Hid (readF zs = (0, 1, false)) := by show readF zs = _; unfold readF; rw [if_neg (by omega), if_pos (by omega), if_pos k1]
  generalize zs[0]?.getD 0 = z at *
  obtain ⟨hr1, hr2⟩ := hr
  go_enter Tryz.func39, Tryz.ntmps39
  go_wp2_with fail
  refine (begin_any b off len cap z w h1 hz0 hc).mono ?_
  rintro e w1 ⟨rfl, hb1⟩
  simp only [rdCells, show ((1 : Nat) : Int) = 1 from rfl]
  have hc1 := (hb1.cell (p := ⟨b, off, none⟩) hat.1).trans hc
  have hbl : b < w1.heap.size := Nat.lt_of_lt_of_le hat.1 hb1.size
  go_wp2_with fail
  have B0 : Blk (w1.alloc (.cells (rdCells b off len cap (charBegin z) 1 (loOf z) (hiOf z)).toArray 103)) w1.heap.size (rdCells b off len cap (charBegin z) 1 (loOf z) (hiOf z)) 103 := Blk.alloc _ _
  have hb2 : Below w.heap.size w (w1.alloc (.cells (rdCells b off len cap (charBegin z) 1 (loOf z) (hiOf z)).toArray 103)) := hb1.alloc hb1.size _
  refine (more_no w1.heap.size b off len cap _ (charBegin z) (loOf z) (hiOf z) 1 _ B0 hl hcap zs hlen (hat.later hb2 hat.1) (by omega) (by rw [← hlen]; exact k1)).mono ?_
  rintro e w3 ⟨rfl, B1, g1⟩
  have hb3 := hb2.grown g1 hb2.size (by rintro _ ⟨⟩; exact hb1.size)
  have q2 := B1.cell 2 _ rfl
  go_wp2_with fail
  go_quiet (fail)
  go_wp2
  go_ret3
  exact ⟨by rw [HP.out]; exact ret_read rfl rfl rfl, below_drewN hb3 _⟩

set_option maxRecDepth 100000 in
set_option maxHeartbeats 1000000 in
theorem read_3_2    (b off len cap : Nat) (zs : List Int) (w : World) (hlen : zs.length = len) (h1 : 1 ≤ len) (hl : len ≤ cap) (hcap : cap ≤ maxLen)
    (hat : At w .u8 b off zs) (hz : U8 zs) (hr : (224 : Int) ≤ zs[0]?.getD 0 ∧ zs[0]?.getD 0 ≤ 239) (k1 : goesOn zs 1 (loOf (zs[0]?.getD 0)) (hiOf (zs[0]?.getD 0))) (k2 : ¬ goesOn zs 2 128 191) :
    Calls Tryz.prog 39 #[.slice (some ⟨b, off, none⟩) len cap] w (ReadPost zs w) := by
  have hc := hat.2 0 (by omega)
  have hz0 := hz.at 0
  rw [Nat.add_zero] at hc
  have HP : Hid (readF zs = (0, 2, false)) := by show readF zs = _; unfold readF; rw [if_neg (by omega), if_pos (by omega), if_neg (not_not_intro k1), if_neg (by omega), if_pos k2]
  generalize zs[0]?.getD 0 = z at *
  obtain ⟨hr1, hr2⟩ := hr
  go_enter Tryz.func39, Tryz.ntmps39
  go_wp2_with fail
  refine (begin_any b off len cap z w h1 hz0 hc).mono ?_
  rintro e w1 ⟨rfl, hb1⟩
  simp only [rdCells, show ((1 : Nat) : Int) = 1 from rfl]
  have hc1 := (hb1.cell (p := ⟨b, off, none⟩) hat.1).trans hc
  have hbl : b < w1.heap.size := Nat.lt_of_lt_of_le hat.1 hb1.size
  go_wp2_with fail
  have B0 : Blk (w1.alloc (.cells (rdCells b off len cap (charBegin z) 1 (loOf z) (hiOf z)).toArray 103)) w1.heap.size (rdCells b off len cap (charBegin z) 1 (loOf z) (hiOf z)) 103 := Blk.alloc _ _
  have hb2 : Below w.heap.size w (w1.alloc (.cells (rdCells b off len cap (charBegin z) 1 (loOf z) (hiOf z)).toArray 103)) := hb1.alloc hb1.size _
  refine (more_yes w1.heap.size b off len cap _ (charBegin z) (loOf z) (hiOf z) 1 _ B0 hl hcap zs hlen (hat.later hb2 hat.1) (by have := k1.1; omega) k1.2).mono ?_
  rintro e w3 ⟨rfl, B1, g1⟩
  have hb3 := hb2.grown g1 hb2.size (by rintro _ ⟨⟩; exact hb1.size)
  go_wp2_with fail
  refine (more_no w1.heap.size b off len cap _ (charNext (charBegin z) (zs[1]?.getD 0)) 128 191 2 _ B1 hl hcap zs hlen (hat.later hb3 hat.1) (by have := k1.1; omega) (by rw [← hlen]; exact k2)).mono ?_
  rintro e w4 ⟨rfl, B2, g2⟩
  have hb4 := hb3.grown g2 hb3.size (by rintro _ ⟨⟩; exact hb1.size)
  have q2 := B2.cell 2 _ rfl
  go_wp2_with fail
  go_quiet (fail)
  go_wp2
  go_ret3
  exact ⟨by rw [HP.out]; exact ret_read rfl rfl rfl, below_drewN hb4 _⟩

set_option maxRecDepth 100000 in
set_option maxHeartbeats 1000000 in
theorem read_3_3    (b off len cap : Nat) (zs : List Int) (w : World) (hlen : zs.length = len) (h1 : 1 ≤ len) (hl : len ≤ cap) (hcap : cap ≤ maxLen)
    (hat : At w .u8 b off zs) (hz : U8 zs) (hr : (224 : Int) ≤ zs[0]?.getD 0 ∧ zs[0]?.getD 0 ≤ 239) (k1 : goesOn zs 1 (loOf (zs[0]?.getD 0)) (hiOf (zs[0]?.getD 0))) (k2 : goesOn zs 2 128 191) :
    Calls Tryz.prog 39 #[.slice (some ⟨b, off, none⟩) len cap] w (ReadPost zs w) := by
  have hc := hat.2 0 (by omega)
  have hz0 := hz.at 0
  rw [Nat.add_zero] at hc
  have HP : Hid (readF zs = (charNext (charNext (charBegin (zs[0]?.getD 0)) (zs[1]?.getD 0)) (zs[2]?.getD 0), 3, true)) := by show readF zs = _; unfold readF; rw [if_neg (by omega), if_pos (by omega), if_neg (not_not_intro k1), if_neg (by omega), if_neg (not_not_intro k2), if_pos (by omega)]
  generalize zs[0]?.getD 0 = z at *
  obtain ⟨hr1, hr2⟩ := hr
  go_enter Tryz.func39, Tryz.ntmps39
  go_wp2_with fail
  refine (begin_any b off len cap z w h1 hz0 hc).mono ?_
  rintro e w1 ⟨rfl, hb1⟩
  simp only [rdCells, show ((1 : Nat) : Int) = 1 from rfl]
  have hc1 := (hb1.cell (p := ⟨b, off, none⟩) hat.1).trans hc
  have hbl : b < w1.heap.size := Nat.lt_of_lt_of_le hat.1 hb1.size
  go_wp2_with fail
  have B0 : Blk (w1.alloc (.cells (rdCells b off len cap (charBegin z) 1 (loOf z) (hiOf z)).toArray 103)) w1.heap.size (rdCells b off len cap (charBegin z) 1 (loOf z) (hiOf z)) 103 := Blk.alloc _ _
  have hb2 : Below w.heap.size w (w1.alloc (.cells (rdCells b off len cap (charBegin z) 1 (loOf z) (hiOf z)).toArray 103)) := hb1.alloc hb1.size _
  refine (more_yes w1.heap.size b off len cap _ (charBegin z) (loOf z) (hiOf z) 1 _ B0 hl hcap zs hlen (hat.later hb2 hat.1) (by have := k1.1; omega) k1.2).mono ?_
  rintro e w3 ⟨rfl, B1, g1⟩
  have hb3 := hb2.grown g1 hb2.size (by rintro _ ⟨⟩; exact hb1.size)
  go_wp2_with fail
  refine (more_yes w1.heap.size b off len cap _ (charNext (charBegin z) (zs[1]?.getD 0)) 128 191 2 _ B1 hl hcap zs hlen (hat.later hb3 hat.1) (by have := k2.1; omega) k2.2).mono ?_
  rintro e w4 ⟨rfl, B2, g2⟩
  have hb4 := hb3.grown g2 hb3.size (by rintro _ ⟨⟩; exact hb1.size)
  have q1 := B2.cell 1 _ rfl
  have q2 := B2.cell 2 _ rfl
  go_wp2_with fail
  go_quiet (fail)
  go_wp2
  go_ret3
  exact ⟨by rw [HP.out]; exact ret_read rfl rfl rfl, below_drewN hb4 _⟩

set_option maxRecDepth 100000 in
set_option maxHeartbeats 1000000 in
theorem read_4_1    (b off len cap : Nat) (zs : List Int) (w : World) (hlen : zs.length = len) (h1 : 1 ≤ len) (hl : len ≤ cap) (hcap : cap ≤ maxLen)
    (hat : At w .u8 b off zs) (hz : U8 zs) (hr : (240 : Int) ≤ zs[0]?.getD 0 ∧ zs[0]?.getD 0 ≤ 244) (k1 : ¬ goesOn zs 1 (loOf (zs[0]?.getD 0)) (hiOf (zs[0]?.getD 0))) :
    Calls Tryz.prog 39 #[.slice (some ⟨b, off, none⟩) len cap] w (ReadPost zs w) := by
  have hc := hat.2 0 (by omega)
  have hz0 := hz.at 0
  rw [Nat.add_zero] at hc
  have HP : Hid (readF zs = (0, 1, false)) := by show readF zs = _; unfold readF; rw [if_neg (by omega), if_pos (by omega), if_pos k1]
  generalize zs[0]?.getD 0 = z at *
  obtain ⟨hr1, hr2⟩ := hr
  go_enter Tryz.func39, Tryz.ntmps39
  go_wp2_with fail
  refine (begin_any b off len cap z w h1 hz0 hc).mono ?_
  rintro e w1 ⟨rfl, hb1⟩
  simp only [rdCells, show ((1 : Nat) : Int) = 1 from rfl]
  have hc1 := (hb1.cell (p := ⟨b, off, none⟩) hat.1).trans hc
  have hbl : b < w1.heap.size := Nat.lt_of_lt_of_le hat.1 hb1.size
  go_wp2_with fail
  have B0 : Blk (w1.alloc (.cells (rdCells b off len cap (charBegin z) 1 (loOf z) (hiOf z)).toArray 103)) w1.heap.size (rdCells b off len cap (charBegin z) 1 (loOf z) (hiOf z)) 103 := Blk.alloc _ _
  have hb2 : Below w.heap.size w (w1.alloc (.cells (rdCells b off len cap (charBegin z) 1 (loOf z) (hiOf z)).toArray 103)) := hb1.alloc hb1.size _
  refine (more_no w1.heap.size b off len cap _ (charBegin z) (loOf z) (hiOf z) 1 _ B0 hl hcap zs hlen (hat.later hb2 hat.1) (by omega) (by rw [← hlen]; exact k1)).mono ?_
  rintro e w3 ⟨rfl, B1, g1⟩
  have hb3 := hb2.grown g1 hb2.size (by rintro _ ⟨⟩; exact hb1.size)
  have q2 := B1.cell 2 _ rfl
  go_wp2_with fail
  go_quiet (fail)
  go_wp2
  go_ret3
  exact ⟨by rw [HP.out]; exact ret_read rfl rfl rfl, below_drewN hb3 _⟩

set_option maxRecDepth 100000 in
set_option maxHeartbeats 1000000 in
theorem read_4_2    (b off len cap : Nat) (zs : List Int) (w : World) (hlen : zs.length = len) (h1 : 1 ≤ len) (hl : len ≤ cap) (hcap : cap ≤ maxLen)
    (hat : At w .u8 b off zs) (hz : U8 zs) (hr : (240 : Int) ≤ zs[0]?.getD 0 ∧ zs[0]?.getD 0 ≤ 244) (k1 : goesOn zs 1 (loOf (zs[0]?.getD 0)) (hiOf (zs[0]?.getD 0))) (k2 : ¬ goesOn zs 2 128 191) :
    Calls Tryz.prog 39 #[.slice (some ⟨b, off, none⟩) len cap] w (ReadPost zs w) := by
  have hc := hat.2 0 (by omega)
  have hz0 := hz.at 0
  rw [Nat.add_zero] at hc
  have HP : Hid (readF zs = (0, 2, false)) := by show readF zs = _; unfold readF; rw [if_neg (by omega), if_pos (by omega), if_neg (not_not_intro k1), if_neg (by omega), if_pos k2]
  generalize zs[0]?.getD 0 = z at *
  obtain ⟨hr1, hr2⟩ := hr
  go_enter Tryz.func39, Tryz.ntmps39
  go_wp2_with fail
  refine (begin_any b off len cap z w h1 hz0 hc).mono ?_
  rintro e w1 ⟨rfl, hb1⟩
  simp only [rdCells, show ((1 : Nat) : Int) = 1 from rfl]
  have hc1 := (hb1.cell (p := ⟨b, off, none⟩) hat.1).trans hc
  have hbl : b < w1.heap.size := Nat.lt_of_lt_of_le hat.1 hb1.size
  go_wp2_with fail
  have B0 : Blk (w1.alloc (.cells (rdCells b off len cap (charBegin z) 1 (loOf z) (hiOf z)).toArray 103)) w1.heap.size (rdCells b off len cap (charBegin z) 1 (loOf z) (hiOf z)) 103 := Blk.alloc _ _
  have hb2 : Below w.heap.size w (w1.alloc (.cells (rdCells b off len cap (charBegin z) 1 (loOf z) (hiOf z)).toArray 103)) := hb1.alloc hb1.size _
  refine (more_yes w1.heap.size b off len cap _ (charBegin z) (loOf z) (hiOf z) 1 _ B0 hl hcap zs hlen (hat.later hb2 hat.1) (by have := k1.1; omega) k1.2).mono ?_
  rintro e w3 ⟨rfl, B1, g1⟩
  have hb3 := hb2.grown g1 hb2.size (by rintro _ ⟨⟩; exact hb1.size)
  go_wp2_with fail
  refine (more_no w1.heap.size b off len cap _ (charNext (charBegin z) (zs[1]?.getD 0)) 128 191 2 _ B1 hl hcap zs hlen (hat.later hb3 hat.1) (by have := k1.1; omega) (by rw [← hlen]; exact k2)).mono ?_
  rintro e w4 ⟨rfl, B2, g2⟩
  have hb4 := hb3.grown g2 hb3.size (by rintro _ ⟨⟩; exact hb1.size)
  have q2 := B2.cell 2 _ rfl
  go_wp2_with fail
  go_quiet (fail)
  go_wp2
  go_ret3
  exact ⟨by rw [HP.out]; exact ret_read rfl rfl rfl, below_drewN hb4 _⟩

set_option maxRecDepth 100000 in
set_option maxHeartbeats 1000000 in
theorem read_4_3    (b off len cap : Nat) (zs : List Int) (w : World) (hlen : zs.length = len) (h1 : 1 ≤ len) (hl : len ≤ cap) (hcap : cap ≤ maxLen)
    (hat : At w .u8 b off zs) (hz : U8 zs) (hr : (240 : Int) ≤ zs[0]?.getD 0 ∧ zs[0]?.getD 0 ≤ 244) (k1 : goesOn zs 1 (loOf (zs[0]?.getD 0)) (hiOf (zs[0]?.getD 0))) (k2 : goesOn zs 2 128 191) (k3 : ¬ goesOn zs 3 128 191) :
    Calls Tryz.prog 39 #[.slice (some ⟨b, off, none⟩) len cap] w (ReadPost zs w) := by
  have hc := hat.2 0 (by omega)
  have hz0 := hz.at 0
  rw [Nat.add_zero] at hc
  have HP : Hid (readF zs = (0, 3, false)) := by show readF zs = _; unfold readF; rw [if_neg (by omega), if_pos (by omega), if_neg (not_not_intro k1), if_neg (by omega), if_neg (not_not_intro k2), if_neg (by omega), if_pos k3]
  generalize zs[0]?.getD 0 = z at *
  obtain ⟨hr1, hr2⟩ := hr
  go_enter Tryz.func39, Tryz.ntmps39
  go_wp2_with fail
  refine (begin_any b off len cap z w h1 hz0 hc).mono ?_
  rintro e w1 ⟨rfl, hb1⟩
  simp only [rdCells, show ((1 : Nat) : Int) = 1 from rfl]
  have hc1 := (hb1.cell (p := ⟨b, off, none⟩) hat.1).trans hc
  have hbl : b < w1.heap.size := Nat.lt_of_lt_of_le hat.1 hb1.size
  go_wp2_with fail
  have B0 : Blk (w1.alloc (.cells (rdCells b off len cap (charBegin z) 1 (loOf z) (hiOf z)).toArray 103)) w1.heap.size (rdCells b off len cap (charBegin z) 1 (loOf z) (hiOf z)) 103 := Blk.alloc _ _
  have hb2 : Below w.heap.size w (w1.alloc (.cells (rdCells b off len cap (charBegin z) 1 (loOf z) (hiOf z)).toArray 103)) := hb1.alloc hb1.size _
  refine (more_yes w1.heap.size b off len cap _ (charBegin z) (loOf z) (hiOf z) 1 _ B0 hl hcap zs hlen (hat.later hb2 hat.1) (by have := k1.1; omega) k1.2).mono ?_
  rintro e w3 ⟨rfl, B1, g1⟩
  have hb3 := hb2.grown g1 hb2.size (by rintro _ ⟨⟩; exact hb1.size)
  go_wp2_with fail
  refine (more_yes w1.heap.size b off len cap _ (charNext (charBegin z) (zs[1]?.getD 0)) 128 191 2 _ B1 hl hcap zs hlen (hat.later hb3 hat.1) (by have := k2.1; omega) k2.2).mono ?_
  rintro e w4 ⟨rfl, B2, g2⟩
  have hb4 := hb3.grown g2 hb3.size (by rintro _ ⟨⟩; exact hb1.size)
  go_wp2_with fail
  refine (more_no w1.heap.size b off len cap _ (charNext (charNext (charBegin z) (zs[1]?.getD 0)) (zs[2]?.getD 0)) 128 191 3 _ B2 hl hcap zs hlen (hat.later hb4 hat.1) (by have := k2.1; omega) (by rw [← hlen]; exact k3)).mono ?_
  rintro e w5 ⟨rfl, B3, g3⟩
  have hb5 := hb4.grown g3 hb4.size (by rintro _ ⟨⟩; exact hb1.size)
  have q2 := B3.cell 2 _ rfl
  go_wp2_with fail
  go_quiet (fail)
  go_wp2
  go_ret3
  exact ⟨by rw [HP.out]; exact ret_read rfl rfl rfl, below_drewN hb5 _⟩

set_option maxRecDepth 100000 in
set_option maxHeartbeats 1000000 in
theorem read_4_4    (b off len cap : Nat) (zs : List Int) (w : World) (hlen : zs.length = len) (h1 : 1 ≤ len) (hl : len ≤ cap) (hcap : cap ≤ maxLen)
    (hat : At w .u8 b off zs) (hz : U8 zs) (hr : (240 : Int) ≤ zs[0]?.getD 0 ∧ zs[0]?.getD 0 ≤ 244) (k1 : goesOn zs 1 (loOf (zs[0]?.getD 0)) (hiOf (zs[0]?.getD 0))) (k2 : goesOn zs 2 128 191) (k3 : goesOn zs 3 128 191) :
    Calls Tryz.prog 39 #[.slice (some ⟨b, off, none⟩) len cap] w (ReadPost zs w) := by
  have hc := hat.2 0 (by omega)
  have hz0 := hz.at 0
  rw [Nat.add_zero] at hc
  have HP : Hid (readF zs = (charNext (charNext (charNext (charBegin (zs[0]?.getD 0)) (zs[1]?.getD 0)) (zs[2]?.getD 0)) (zs[3]?.getD 0), 4, true)) := by show readF zs = _; unfold readF; rw [if_neg (by omega), if_pos (by omega), if_neg (not_not_intro k1), if_neg (by omega), if_neg (not_not_intro k2), if_neg (by omega), if_neg (not_not_intro k3)]
  generalize zs[0]?.getD 0 = z at *
  obtain ⟨hr1, hr2⟩ := hr
  go_enter Tryz.func39, Tryz.ntmps39
  go_wp2_with fail
  refine (begin_any b off len cap z w h1 hz0 hc).mono ?_
  rintro e w1 ⟨rfl, hb1⟩
  simp only [rdCells, show ((1 : Nat) : Int) = 1 from rfl]
  have hc1 := (hb1.cell (p := ⟨b, off, none⟩) hat.1).trans hc
  have hbl : b < w1.heap.size := Nat.lt_of_lt_of_le hat.1 hb1.size
  go_wp2_with fail
  have B0 : Blk (w1.alloc (.cells (rdCells b off len cap (charBegin z) 1 (loOf z) (hiOf z)).toArray 103)) w1.heap.size (rdCells b off len cap (charBegin z) 1 (loOf z) (hiOf z)) 103 := Blk.alloc _ _
  have hb2 : Below w.heap.size w (w1.alloc (.cells (rdCells b off len cap (charBegin z) 1 (loOf z) (hiOf z)).toArray 103)) := hb1.alloc hb1.size _
  refine (more_yes w1.heap.size b off len cap _ (charBegin z) (loOf z) (hiOf z) 1 _ B0 hl hcap zs hlen (hat.later hb2 hat.1) (by have := k1.1; omega) k1.2).mono ?_
  rintro e w3 ⟨rfl, B1, g1⟩
  have hb3 := hb2.grown g1 hb2.size (by rintro _ ⟨⟩; exact hb1.size)
  go_wp2_with fail
  refine (more_yes w1.heap.size b off len cap _ (charNext (charBegin z) (zs[1]?.getD 0)) 128 191 2 _ B1 hl hcap zs hlen (hat.later hb3 hat.1) (by have := k2.1; omega) k2.2).mono ?_
  rintro e w4 ⟨rfl, B2, g2⟩
  have hb4 := hb3.grown g2 hb3.size (by rintro _ ⟨⟩; exact hb1.size)
  go_wp2_with fail
  refine (more_yes w1.heap.size b off len cap _ (charNext (charNext (charBegin z) (zs[1]?.getD 0)) (zs[2]?.getD 0)) 128 191 3 _ B2 hl hcap zs hlen (hat.later hb4 hat.1) (by have := k3.1; omega) k3.2).mono ?_
  rintro e w5 ⟨rfl, B3, g3⟩
  have hb5 := hb4.grown g3 hb4.size (by rintro _ ⟨⟩; exact hb1.size)
  have q1 := B3.cell 1 _ rfl
  have q2 := B3.cell 2 _ rfl
  go_wp2_with fail
  go_quiet (fail)
  go_wp2
  go_ret3
  exact ⟨by rw [HP.out]; exact ret_read rfl rfl rfl, below_drewN hb5 _⟩

/-- What read does with any bytes that are not none. -/
theorem read_any (b off len cap : Nat) (zs : List Int) (w : World) (hlen : zs.length = len) (h1 : 1 ≤ len) (hl : len ≤ cap) (hcap : cap ≤ maxLen)
    (hat : At w .u8 b off zs) (hz : U8 zs) : Calls Tryz.prog 39 #[.slice (some ⟨b, off, none⟩) len cap] w (ReadPost zs w) := by
  by_cases c0 : zs[0]?.getD 0 < 128
  · exact read_low b off len cap zs w hlen h1 hl hcap hat hz c0
  by_cases c1 : (194 : Int) ≤ zs[0]?.getD 0 ∧ zs[0]?.getD 0 ≤ 244
  · by_cases k1 : goesOn zs 1 (loOf (zs[0]?.getD 0)) (hiOf (zs[0]?.getD 0))
    · by_cases c2 : zs[0]?.getD 0 ≤ 223
      · exact read_2_2 b off len cap zs w hlen h1 hl hcap hat hz ⟨c1.1, c2⟩ k1
      by_cases k2 : goesOn zs 2 128 191
      · by_cases c3 : zs[0]?.getD 0 ≤ 239
        · exact read_3_3 b off len cap zs w hlen h1 hl hcap hat hz ⟨by omega, c3⟩ k1 k2
        by_cases k3 : goesOn zs 3 128 191
        · exact read_4_4 b off len cap zs w hlen h1 hl hcap hat hz ⟨by omega, c1.2⟩ k1 k2 k3
        · exact read_4_3 b off len cap zs w hlen h1 hl hcap hat hz ⟨by omega, c1.2⟩ k1 k2 k3
      · by_cases c3 : zs[0]?.getD 0 ≤ 239
        · exact read_3_2 b off len cap zs w hlen h1 hl hcap hat hz ⟨by omega, c3⟩ k1 k2
        · exact read_4_2 b off len cap zs w hlen h1 hl hcap hat hz ⟨by omega, c1.2⟩ k1 k2
    · by_cases c2 : zs[0]?.getD 0 ≤ 223
      · exact read_2_1 b off len cap zs w hlen h1 hl hcap hat hz ⟨c1.1, c2⟩ k1
      by_cases c3 : zs[0]?.getD 0 ≤ 239
      · exact read_3_1 b off len cap zs w hlen h1 hl hcap hat hz ⟨by omega, c3⟩ k1
      · exact read_4_1 b off len cap zs w hlen h1 hl hcap hat hz ⟨by omega, c1.2⟩ k1
  · exact read_wrong b off len cap zs w hlen h1 hl hcap hat hz (by omega)
end

section
open Go.RowKit

theorem wrap_i32_bd (n : Int) : -2147483648 ≤ IntKind.i32.wrap n ∧ IntKind.i32.wrap n ≤ 2147483647 := by
  simp only [IntKind.wrap, IntKind.bits, IntKind.signed]
  simp
  omega
theorem charNext_bd : ∀ c z, -2147483648 ≤ charNext c z ∧ charNext c z ≤ 2147483647 := fun _ _ => wrap_i32_bd _

theorem byte_cases {P : Int → Prop} (h : ∀ n : Fin 256, P (n.val : Int)) (z : Int) (h0 : 0 ≤ z) (h1 : z ≤ 255) : P z := by
  have := h ⟨z.toNat, by omega⟩
  rwa [show ((z.toNat : Nat) : Int) = z from by omega] at this
theorem and63 (z : Int) (h0 : 0 ≤ z) (h1 : z ≤ 255) : bits .and .u8 z 63 = z % 64 := byte_cases (P := fun z => bits .and .u8 z 63 = z % 64) (by decide +kernel) z h0 h1
theorem charBegin_eq (z : Int) (h0 : 0 ≤ z) (h1 : z ≤ 255) : charBegin z = if 240 ≤ z then z % 8 else if 224 ≤ z then z % 16 else if 128 ≤ z then z % 32 else z :=
  byte_cases (P := fun z => charBegin z = if 240 ≤ z then z % 8 else if 224 ≤ z then z % 16 else if 128 ≤ z then z % 32 else z) (by decide +kernel) z h0 h1
theorem charNext_eq (c z : Int) (hc : 0 ≤ c ∧ c < 32768) (h0 : 0 ≤ z ∧ z ≤ 255) : charNext c z = c * 64 + z % 64 := by
  unfold charNext
  rw [and63 z h0.1 h0.2]
  obtain ⟨n, rfl⟩ := Int.eq_ofNat_of_zero_le hc.1
  obtain ⟨m, rfl⟩ := Int.eq_ofNat_of_zero_le h0.1
  rw [show wrap32 ((n : Int) * 64) = ((n * 64 : Nat) : Int) from by unfold wrap32; omega, show wrap32 ((m : Int) % 64) = ((m % 64 : Nat) : Int) from by unfold wrap32; omega]
  have hn : ∀ k : Nat, k < 4294967296 → (BitVec.ofInt 32 (k : Int)).toNat = k := fun k hk => by
    rw [BitVec.toNat_ofInt]; simp; omega
  have hj : (n * 64) ||| (m % 64) = n * 64 + m % 64 := nat_join 6 (n * 64) (m % 64) (by omega) (by omega)
  have hb : ∀ x y : Int, bits .or .i32 x y = IntKind.i32.wrap ((((BitVec.ofInt 32 x : BitVec 32) ||| (BitVec.ofInt 32 y : BitVec 32) : BitVec 32).toNat : Nat) : Int) := fun _ _ => rfl
  rw [hb, BitVec.toNat_or, hn _ (by omega), hn _ (by omega), hj]
  simp only [IntKind.wrap, IntKind.bits, IntKind.signed]
  simp
  omega
end

section
open Go.RowKit

theorem readF_size (zs : List Int) (h : zs ≠ []) : 1 ≤ (readF zs).2.1 ∧ (readF zs).2.1 ≤ zs.length := by
  have hl : 1 ≤ zs.length := List.length_pos_iff.2 h
  unfold readF
  dsimp only
  split
  · exact ⟨Nat.le_refl _, hl⟩
  · split
    · split
      · exact ⟨Nat.le_refl _, hl⟩
      · rename_i k1
        have k1 := (Decidable.not_not.1 k1).1
        split
        · exact ⟨by simp, k1⟩
        · split
          · exact ⟨by simp, k1⟩
          · rename_i k2
            have k2 := (Decidable.not_not.1 k2).1
            split
            · exact ⟨by simp, k2⟩
            · split
              · exact ⟨by simp, k2⟩
              · rename_i k3
                have k3 := (Decidable.not_not.1 k3).1
                exact ⟨by simp, k3⟩
    · exact ⟨Nat.le_refl _, hl⟩

/-- A character, with the stand-in for what is none. -/
def charF (zs : List Int) : Int := if (readF zs).2.2 = true then (readF zs).1 else 65533
def sizeF (zs : List Int) : Nat := (readF zs).2.1

/-- The characters of bytes from a place on, with fuel. -/
def charsN : Nat → List Int → Nat → List Int
  | 0, _, _ => []
  | f + 1, zs, at_ => if zs.length ≤ at_ then [] else
      (if charF (zs.drop at_) ≠ 65279 ∨ at_ ≠ 0 then [charF (zs.drop at_)] else []) ++ charsN f zs (at_ + sizeF (zs.drop at_))
def charsFrom (zs : List Int) (at_ : Nat) : List Int := charsN (zs.length - at_) zs at_
def charsF (zs : List Int) : List Int := charsFrom zs 0

theorem charsN_enough (zs : List Int) : ∀ (f at_ : Nat), zs.length - at_ ≤ f → charsN f zs at_ = charsN (zs.length - at_) zs at_
  | 0, at_, h => by rw [show zs.length - at_ = 0 by omega]
  | f + 1, at_, h => by
    by_cases hl : zs.length ≤ at_
    · rw [show zs.length - at_ = 0 by omega]; simp only [charsN]; rw [if_pos hl]
    · have hs := readF_size (zs.drop at_) (by simp; omega)
      obtain ⟨m, hm⟩ : ∃ m, zs.length - at_ = m + 1 := ⟨zs.length - at_ - 1, by omega⟩
      rw [hm, charsN, charsN, if_neg hl, if_neg hl]
      congr 1
      have hs' : 1 ≤ sizeF (zs.drop at_) := hs.1
      rw [charsN_enough zs f _ (by omega), charsN_enough zs m _ (by omega)]
theorem charsFrom_end (zs : List Int) (at_ : Nat) (h : zs.length ≤ at_) : charsFrom zs at_ = [] := by
  unfold charsFrom; rw [show zs.length - at_ = 0 by omega, charsN]
theorem charsFrom_step (zs : List Int) (at_ : Nat) (h : at_ < zs.length) :
    charsFrom zs at_ = (if charF (zs.drop at_) ≠ 65279 ∨ at_ ≠ 0 then [charF (zs.drop at_)] else []) ++ charsFrom zs (at_ + sizeF (zs.drop at_)) := by
  have hs : 1 ≤ sizeF (zs.drop at_) := (readF_size (zs.drop at_) (by simp; omega)).1
  unfold charsFrom
  obtain ⟨m, hm⟩ : ∃ m, zs.length - at_ = m + 1 := ⟨zs.length - at_ - 1, by omega⟩
  rw [hm, charsN, if_neg (by omega)]
  congr 1
  exact charsN_enough zs m _ (by omega)

/-- The int's list element facts. -/
theorem readF_char (zs : List Int) (hz : U8 zs) : -2147483648 ≤ (readF zs).1 ∧ (readF zs).1 ≤ 2147483647 := by
  have hz0 := hz.at 0
  have hb := charNext_bd
  have hi : ∀ c, -2147483648 ≤ c → c ≤ 2147483647 → -2147483648 ≤ c ∧ c ≤ 2147483647 := fun c h h' => ⟨h, h'⟩
  unfold readF
  dsimp only
  (repeat' split) <;> first | exact hb _ _ | (apply hi <;> dsimp only <;> omega)

/-- A slice that leads to none of the blocks below a number. -/
def Fresh (B : Nat) (a : Option Addr) : Prop := ∀ ad, a = some ad → B ≤ ad.block
theorem Fresh.of_owns {w : World} {base : Nat} {e : TypeId} {size n n' cap : Nat} {v : Value} {xs : List Value} {a : Option Addr} (h : w.ownsRow base e size v n xs) (hv : v = .slice a n' cap) : Fresh base a := by
  intro ad ha
  subst ha
  exact (h.lt ad.block (by rw [hv]; rfl)).1

theorem nil_of_owns {w : World} {base : Nat} {e : TypeId} {size n n' cap : Nat} {v : Value} {xs : List Value} {a : Option Addr} (h : w.ownsRow base e size v n xs) (hv : v = .slice a n' cap) : a = none → cap = 0 := by
  intro ha
  subst ha
  rcases h.2 with ⟨h1, _⟩ | ⟨g, cap', cur, h1, _⟩
  · rw [hv] at h1; injection h1
  · rw [hv] at h1; injection h1 with h2 _ _; cases h2

def CharsPost (zs : List Int) (w : World) (e : Ending) (w' : World) : Prop :=
  ∃ a cap, e = .returned (.slice a (charsF zs).length cap) ∧ Reads w' .i64 a cap (charsF zs) ∧ Below w.heap.size w w' ∧ Fresh w.heap.size a ∧ (a = none → cap = 0)

theorem typed_of_owns {w : World} {base : Nat} {e : TypeId} {size n n' cap : Nat} {v : Value} {xs : List Value} {a : Option Addr} (h : w.ownsRow base e size v n xs) (hv : v = .slice a n' cap) : ∀ ad, a = some ad → ∃ cur, w.heap[ad.block]? = some (.cells cur e (0, 0)) := by
  rintro ad rfl
  rcases h.2 with ⟨h1, _⟩ | ⟨g, c, cur, h1, _, hh, _⟩
  · rw [hv] at h1; cases h1
  · rw [hv] at h1; cases h1
    exact ⟨cur, hh⟩
/-- The same, with what the new block is made of. -/
def CharsPostT (zs : List Int) (w : World) (e : Ending) (w' : World) : Prop :=
  ∃ a cap, e = .returned (.slice a (charsF zs).length cap) ∧ Reads w' .i64 a cap (charsF zs) ∧ Below w.heap.size w w' ∧ Fresh w.heap.size a ∧ (a = none → cap = 0) ∧ ∀ ad, a = some ad → ∃ cur, w'.heap[ad.block]? = some (.cells cur 3 (0, 0))
theorem Tryz.info3 : (Tryz.prog.info? 3).map (fun i => (i.zero, i.size, i.bytes)) = some (some (.int .i64 0), 1, 8) := by kernel_rfl

set_option maxRecDepth 100000 in
set_option maxHeartbeats 1000000 in
theorem chars_someT (b off len cap : Nat) (zs : List Int) (w : World) (hlen : zs.length = len) (h1 : 1 ≤ len) (hl : len ≤ cap) (hcap : cap ≤ maxLen)
    (hat : At w .u8 b off zs) (hz : U8 zs) (hsm : len ≤ 1000000) :
    Calls Tryz.prog 23 #[.slice (some ⟨b, off, none⟩) len cap] w (CharsPostT zs w) := by
  obtain ⟨i0, hi, hz0, hz1, hz2⟩ := info_parts Tryz.info3
  unfold maxLen at hcap
  have H0 := Lib.hid hlen; clear hlen
  go_enter Tryz.func23, Tryz.ntmps23
  go_wp2_with (refine wpList_make_own _ rfl _ _ 28 rfl w.heap.size 3 i0 (.int .i64 0) 1 Tryz.underlying28 hi hz0 hz1 .i64 .i64 _ len rfl rfl rfl (by rw [hz2]; omega) (by unfold maxLen; omega) (Nat.le_refl _) ?_; intro w1 hown1 hgrow1)
  go_loopw [3, 4] (fun v i wr => ∃ (k : Nat) (acc : List Int), k ≤ len ∧ acc.length ≤ k ∧ i = .int .i64 k ∧ wr.ownsRow w.heap.size 3 1 v acc.length (acc.map (Value.int .i64)) ∧ charsF zs = acc ++ charsFrom zs k ∧ Below w.heap.size w wr)
    (fun _ i _ => len - (intOf i).toNat)
  case atStart => exact ⟨0, [], by omega, by simp, rfl, hown1, rfl, Below.of_grown hgrow1 (Nat.le_refl _) (by rintro _ ⟨⟩)⟩
  case round =>
    obtain ⟨k, acc, hk, hacc, rfl, hown, heq, hbl⟩ := hrel
    by_cases hlt : k < len
    · have hst := charsFrom_step zs k (by rw [H0.out]; omega)
      have HS := Lib.hid hst; clear hst
      have HE := Lib.hid heq; clear heq
      have hat' := (hat.later hbl hat.1).drop k
      have hn := readF_size (zs.drop k) (by intro h; have := congrArg List.length h; rw [List.length_drop, H0.out] at this; simp at this; omega)
      have hcb := readF_char (zs.drop k) (hz.drop k)
      rw [List.length_drop, H0.out] at hn
      have HC : Hid (charF (zs.drop k) = if (readF (zs.drop k)).2.2 = true then (readF (zs.drop k)).1 else 65533) := Lib.hid rfl
      have HN : Hid (sizeF (zs.drop k) = (readF (zs.drop k)).2.1) := Lib.hid rfl
      rcases hrd : readF (zs.drop k) with ⟨c, n, o⟩
      rw [hrd] at hn hcb HC HN
      have HR := Lib.hid hrd; clear hrd
      obtain ⟨hn1, hn2⟩ := hn
      obtain ⟨hc1, hc2⟩ := hcb
      dsimp only at hn1 hn2 hc1 hc2 HC HN
      go_wp2_with fail
      refine (read_any b (off + k) (len - k) (cap - k) (zs.drop k) wr (by rw [List.length_drop, H0.out]) (by omega) (by omega) (by unfold maxLen; omega) hat' (hz.drop k)).mono ?_
      rintro e w2 ⟨he, hb2⟩
      rw [HR.out] at he
      subst he
      have hown2 := owns_later hown hb2
      have hbl2 := hbl.trans (hb2.mono hbl.size)
      clear hown hb2 hat'
      cases o
      case false =>
        dsimp only
        go_wp2_with (at_builtin; refine wpList_append_own _ rfl _ _ 28 rfl w.heap.size 3 i0 (.int .i64 0) 1 8 Tryz.underlying28 hi hz0 hz1 hz2 rfl (by decide) _ _ _ rfl (hown2.alloc _) ⟨w2.heap.size, 0, none⟩ 1 1 [.int .i64 65533] rfl rfl (cell_one_new _ _ _) (fun x hx => by simp at hx; subst hx; rfl) (by unfold maxLen; omega) (by omega) (by have := hbl2.size; simp; omega) ?_; intro v' w3 hown3 hgrow3 _)
        have hown4 := owns_snoc hown3
        have hbl4 : Below w.heap.size w w3 := hbl2.trans (Below.of_grown (grown_trans (World.grownBy_alloc w2 _ _) hgrow3) hbl2.size (fun j hj => (hown2.lt j hj).1))
        go_roundw
        case rel => exact ⟨k + n, acc ++ [65533], by omega, by simp; omega, by go_num, hown4, by rw [HE.out, HS.out, HN.out, HC.out]; simp , hbl4⟩
        case measure => simp [intOf]; omega

      case true =>
        dsimp only
        by_cases hm : c = 65279
        · subst hm
          by_cases hk0 : k = 0
          · subst hk0
            go_wp2
            go_roundw
            case rel => exact ⟨0 + n, acc, by omega, by omega, by go_num, hown2, by rw [HE.out, HS.out, HN.out, HC.out]; simp, hbl2⟩
            case measure => simp [intOf]; omega
          · have hk1 : ((k : Int) != 0) = true := by rw [bne_iff_ne]; omega
            go_wp2_with (at_builtin; refine wpList_append_own _ rfl _ _ 28 rfl w.heap.size 3 i0 (.int .i64 0) 1 8 Tryz.underlying28 hi hz0 hz1 hz2 rfl (by decide) _ _ _ rfl (hown2.alloc _) ⟨w2.heap.size, 0, none⟩ 1 1 [.int .i64 65279] rfl rfl (cell_one_new _ _ _) (fun x hx => by simp at hx; subst hx; rfl) (by unfold maxLen; omega) (by omega) (by have := hbl2.size; simp; omega) ?_; intro v' w3 hown3 hgrow3 _)
            have hown4 := owns_snoc hown3
            have hbl4 : Below w.heap.size w w3 := hbl2.trans (Below.of_grown (grown_trans (World.grownBy_alloc w2 _ _) hgrow3) hbl2.size (fun j hj => (hown2.lt j hj).1))
            go_roundw
            case rel => exact ⟨k + n, acc ++ [65279], by omega, by simp; omega, by go_num, hown4, by rw [HE.out, HS.out, HN.out, HC.out]; simp [hk0], hbl4⟩
            case measure => simp [intOf]; omega

        · have hm1 : (c != 65279) = true := by rw [bne_iff_ne]; exact hm
          go_wp2_with (at_builtin; refine wpList_append_own _ rfl _ _ 28 rfl w.heap.size 3 i0 (.int .i64 0) 1 8 Tryz.underlying28 hi hz0 hz1 hz2 rfl (by decide) _ _ _ rfl (hown2.alloc _) ⟨w2.heap.size, 0, none⟩ 1 1 [.int .i64 c] rfl rfl (cell_one_new _ _ _) (fun x hx => by simp at hx; subst hx; rfl) (by unfold maxLen; omega) (by omega) (by have := hbl2.size; simp; omega) ?_; intro v' w3 hown3 hgrow3 _)
          have hown4 := owns_snoc hown3
          have hbl4 : Below w.heap.size w w3 := hbl2.trans (Below.of_grown (grown_trans (World.grownBy_alloc w2 _ _) hgrow3) hbl2.size (fun j hj => (hown2.lt j hj).1))
          go_roundw
          case rel => exact ⟨k + n, acc ++ [c], by omega, by simp; omega, by go_num, hown4, by rw [HE.out, HS.out, HN.out, HC.out]; simp [hm], hbl4⟩
          case measure => simp [intOf]; omega

    · have hkl : k = len := by omega
      go_wp2
      go_ret
      obtain ⟨a, cp, hv, hrd⟩ := Reads.of_owns hown
      have hend : charsF zs = acc := by rw [heq, charsFrom_end zs k (by rw [H0.out]; omega), List.append_nil]
      have hfr := Fresh.of_owns hown hv
      have hnl := nil_of_owns hown hv
      have hty := typed_of_owns hown hv
      rw [← hend] at hv hrd
      exact ⟨a, cp, by rw [← hv]; rfl, hrd, hbl, hfr, hnl, hty⟩

set_option maxRecDepth 100000 in
set_option maxHeartbeats 400000 in
theorem chars_noneT (a : Option Addr) (cap : Nat) (w : World) : Calls Tryz.prog 23 #[.slice a 0 cap] w (CharsPostT [] w) := by
  obtain ⟨i0, hi, hz0, hz1, hz2⟩ := info_parts Tryz.info3
  go_enter Tryz.func23, Tryz.ntmps23
  go_wp2_with (refine wpList_make_own _ rfl _ _ 28 rfl w.heap.size 3 i0 (.int .i64 0) 1 Tryz.underlying28 hi hz0 hz1 .i64 .i64 _ 0 rfl rfl rfl (by rw [hz2]; omega) (by unfold maxLen; omega) (Nat.le_refl _) ?_; intro w1 hown1 hgrow1)
  refine wp_loop_rounds 1 ?_; rw [rounds_succ]
  go_wp2
  go_ret
  obtain ⟨a, cp, hv, hrd⟩ := Reads.of_owns (zs := []) hown1
  exact ⟨a, cp, by rw [show charsF [] = [] from rfl, ← hv]; rfl, hrd, Below.of_grown hgrow1 (Nat.le_refl _) (by rintro _ ⟨⟩), Fresh.of_owns hown1 hv, nil_of_owns hown1 hv, typed_of_owns hown1 hv⟩

theorem chars_anyT (a : Option Addr) (cap : Nat) (zs : List Int) (w : World) (hr : Reads w .u8 a cap zs) (hz : U8 zs) (hsm : zs.length ≤ 1000000) :
    Calls Tryz.prog 23 #[.slice a zs.length cap] w (CharsPostT zs w) := by
  obtain ⟨h1, h2, h3⟩ := hr
  rcases h3 with rfl | ⟨b, off, rfl, hat⟩
  · exact chars_noneT a cap w
  · by_cases h0 : zs = []
    · subst h0; exact chars_noneT _ cap w
    · exact chars_someT b off zs.length cap zs w rfl (List.length_pos_iff.2 h0) h1 h2 hat hz hsm
/-- What Chars does with any bytes. -/
theorem chars_any (a : Option Addr) (cap : Nat) (zs : List Int) (w : World) (hr : Reads w .u8 a cap zs) (hz : U8 zs) (hsm : zs.length ≤ 1000000) :
    Calls Tryz.prog 23 #[.slice a zs.length cap] w (CharsPost zs w) :=
  (chars_anyT a cap zs w hr hz hsm).mono fun _ _ ⟨a, c, h1, h2, h3, h4, h5, _⟩ => ⟨a, c, h1, h2, h3, h4, h5⟩
end

section
open Go.RowKit

def BoolPost (r : Bool) (w : World) (e : Ending) (w' : World) : Prop := e = .returned (.bool r) ∧ Below w.heap.size w w'
end

section
open Go.RowKit

theorem reads_new (w : World) (k : IntKind) (zs : List Int) (T : TypeId) (n : Nat) (hn : zs.length = n) (hm : n ≤ maxLen) : Reads (w.alloc (.cells (zs.map (Value.int k)).toArray T)) k (some ⟨w.heap.size, 0, none⟩) n zs := by
  subst hn
  refine ⟨Nat.le_refl _, hm, .inr ⟨_, _, rfl, by simp, fun j hj => ?_⟩⟩
  rw [Nat.zero_add, (Blk.alloc (w := w) (zs.map (Value.int k)) T).cell j (.int k (zs[j]?.getD 0)) (by rw [List.getElem?_map, List.getElem?_eq_getElem hj]; rfl)]

theorem charsF_ex1 : charsF [226, 130, 97] = [65533, 97] := by decide +kernel
theorem charsF_ex2 : charsF [237, 160, 128] = [65533, 65533, 65533] := by decide +kernel

theorem wf_u8 {zs : List Int} (h : ∀ n ∈ zs, (Lit.int .u8 n).wf = true) : U8 zs := fun z hz => by
  have := h z hz
  have e1 : IntKind.u8.min = 0 := rfl
  have e2 : IntKind.u8.max = 255 := rfl
  simp only [Lit.wf, Bool.and_eq_true, decide_eq_true_eq] at this
  omega
theorem wf_i64 {zs : List Int} (h : ∀ n ∈ zs, (Lit.int .i64 n).wf = true) : I64 zs := fun z hz => by
  have := h z hz
  have e1 : IntKind.i64.min = -9223372036854775808 := rfl
  have e2 : IntKind.i64.max = 9223372036854775807 := rfl
  simp only [Lit.wf, Bool.and_eq_true, decide_eq_true_eq] at this
  omega

/-- A slice of numbers that came in. -/
theorem reads_of_row {k : IntKind} {w : World} {a : Option Addr} {len cap : Nat} {zs : List Int}
    (h : (a = none ∧ len = 0 ∧ cap = 0 ∧ zs = []) ∨
      ∃ x, a = some x ∧ len ≤ cap ∧ cap ≤ maxLen ∧ zs.length = cap ∧ (∀ i, i < zs.length → w.cell? (x.add i) = some (.int k (zs.getD i 0))) ∧ ∀ n ∈ zs, (Lit.int k n).wf = true) :
    ∃ xs : List Int, xs.length = len ∧ Reads w k a cap xs ∧ ∀ n ∈ xs, (Lit.int k n).wf = true := by
  rcases h with ⟨rfl, rfl, rfl, rfl⟩ | ⟨x, rfl, hl, hm, hz, hc, hw⟩
  · exact ⟨[], rfl, ⟨by simp, by simp, .inl rfl⟩, by simp⟩
  · refine ⟨zs.take len, by simp; omega, ⟨by simp; omega, hm, ?_⟩, fun n hn => hw n (List.mem_of_mem_take hn)⟩
    by_cases h0 : len = 0
    · left; subst h0; simp
    · right
      obtain ⟨b, off, spot⟩ := x
      have hspot : spot = none := by simpa [Addr.add] using World.cell?_spot (hc 0 (by omega))
      subst hspot
      refine ⟨b, off, rfl, World.block_lt_of_cell? w _ (hc 0 (by omega)), fun j hj => ?_⟩
      simp at hj
      have := hc j (by omega)
      rw [show (⟨b, off, none⟩ : Addr).add j = ⟨b, off + j, none⟩ from by simp [Addr.add]] at this
      rw [this, List.getElem?_take_of_lt (by omega)]; simp
end

section
open Go.RowKit

/-- Is a number a character? -/
def rightB (n : Int) : Bool := decide (0 ≤ n ∧ n < 1114112 ∧ (n < 55296 ∨ 57343 < n))

set_option maxRecDepth 100000 in
set_option maxHeartbeats 400000 in
theorem refRight_any (n : Int) (w : World) :
    Calls Tryz.prog 26 #[.int .i64 n] w fun e w' => e = .returned (.bool (rightB n)) ∧ w = w' := by
  go_enter Tryz.func26, Tryz.ntmps26
  go_wp2
  all_goals
    go_ret
    refine ⟨ret_bool ?_, rfl⟩
  · show (decide (n < 55296) || decide (57343 < n)) = _
    unfold rightB
    rw [Bool.eq_iff_iff]; simp; omega
  · show true = _
    unfold rightB
    rw [eq_comm, decide_eq_true_iff]; omega
  · show false = _
    unfold rightB
    rw [eq_comm, decide_eq_false_iff_not]; omega
  · show false = _
    unfold rightB
    rw [eq_comm, decide_eq_false_iff_not]; omega

/-- A character's bytes. -/
def putF (n : Int) : List Int :=
  if n < 128 then [n]
  else if n < 2048 then [192 + n / 64, 128 + n % 64]
  else if n < 65536 then [224 + n / 4096, 128 + n / 64 % 64, 128 + n % 64]
  else [240 + n / 262144, 128 + n / 4096 % 64, 128 + n / 64 % 64, 128 + n % 64]

def BytesPost (zs : List Int) (w : World) (e : Ending) (w' : World) : Prop :=
  ∃ a cap, e = .returned (.slice a zs.length cap) ∧ Reads w' .u8 a cap zs ∧ Below w.heap.size w w'

theorem bytes_new (w : World) (zs : List Int) (T : TypeId) (n : Nat) (hn : zs.length = n) (hm : n ≤ 100) :
    BytesPost zs w (.returned (.slice (some ⟨w.heap.size, 0, none⟩) n n)) (w.alloc (.cells (zs.map (Value.int .u8)).toArray T)) :=
  ⟨_, n, by rw [hn], reads_new w .u8 zs T n hn (by unfold maxLen; omega), (Below.refl _ _).alloc (Nat.le_refl _) _⟩

set_option maxRecDepth 100000 in
set_option maxHeartbeats 1000000 in
theorem put_any (n : Int) (w : World) (h0 : 0 ≤ n) (h1 : n < 1114112) :
    Calls Tryz.prog 94 #[.int .i64 n] w (BytesPost (putF n) w) := by
  have key : n < 128 ∨ (128 ≤ n ∧ n < 2048) ∨ (2048 ≤ n ∧ n < 65536) ∨ 65536 ≤ n := by omega
  rcases key with h | ⟨h, h'⟩ | ⟨h, h'⟩ | h
  all_goals
    go_enter Tryz.func94, Tryz.ntmps94
    go_wp2
    go_ret
  · rw [show putF n = [n] from by unfold putF; rw [if_pos h]]
    exact bytes_new w [n] 5 1 rfl (by omega)
  · rw [show putF n = [192 + n / 64, 128 + n % 64] from by unfold putF; rw [if_neg (by omega), if_pos h']]
    exact bytes_new w [192 + n / 64, 128 + n % 64] 5 2 rfl (by omega)
  · rw [show putF n = [224 + n / 4096, 128 + n / 64 % 64, 128 + n % 64] from by unfold putF; rw [if_neg (by omega), if_neg (by omega), if_pos h']]
    exact bytes_new w [224 + n / 4096, 128 + n / 64 % 64, 128 + n % 64] 5 3 rfl (by omega)
  · rw [show putF n = [240 + n / 262144, 128 + n / 4096 % 64, 128 + n / 64 % 64, 128 + n % 64] from by unfold putF; rw [if_neg (by omega), if_neg (by omega), if_neg (by omega)]]
    exact bytes_new w [240 + n / 262144, 128 + n / 4096 % 64, 128 + n / 64 % 64, 128 + n % 64] 5 4 rfl (by omega)
end
end Go.Proofs.YtickcbmfboajiaaGreatDoor
