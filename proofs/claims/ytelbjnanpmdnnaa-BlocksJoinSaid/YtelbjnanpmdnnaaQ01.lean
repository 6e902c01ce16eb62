/- Texts of mine in one: Kit Vw Vx As Err. -/
import Derived.Test.YtelbjnanpmdnnaaRows
import Derived.WalkKit
import Derived.WalkSpells
import Derived.WalkLawsBesides
import Derived.Lib.Hide
import Derived.Deep.QuietTactic
import Derived.BigQuiet
import Derived.Lib.FieldsP
import Derived.Lib.SpaceUEq
import Derived.LaidEql
import Derived.Stop.Asserts
import Derived.RowKitTokens
namespace Go.Proofs.Ytelbjnanpmdnnaa
section
open Go.RowKit
theorem ret_int {k : IntKind} {a b : Int} (h : a = b) : Ending.returned (.int k a) = .returned (.int k b) := by rw [h]
theorem ret_bool {a b : Bool} (h : a = b) : Ending.returned (.bool a) = .returned (.bool b) := by rw [h]
def U8 (zs : List Int) : Prop := ∀ z ∈ zs, 0 ≤ z ∧ z ≤ 255
def I64 (zs : List Int) : Prop := ∀ z ∈ zs, -9223372036854775808 ≤ z ∧ z ≤ 9223372036854775807
theorem U8.at {zs : List Int} (h : U8 zs) (j : Nat) : 0 ≤ zs[j]?.getD 0 ∧ zs[j]?.getD 0 ≤ 255 := by
  rcases Nat.lt_or_ge j zs.length with hj | hj
  · rw [List.getElem?_eq_getElem hj]; exact h _ (List.getElem_mem hj)
  · rw [List.getElem?_eq_none hj]; simp
theorem I64.at {zs : List Int} (h : I64 zs) (j : Nat) : -9223372036854775808 ≤ zs[j]?.getD 0 ∧ zs[j]?.getD 0 ≤ 9223372036854775807 := by
  rcases Nat.lt_or_ge j zs.length with hj | hj
  · rw [List.getElem?_eq_getElem hj]; exact h _ (List.getElem_mem hj)
  · rw [List.getElem?_eq_none hj]; simp
theorem U8.drop {zs : List Int} (h : U8 zs) (k : Nat) : U8 (zs.drop k) := fun z hz => h z (List.mem_of_mem_drop hz)
theorem U8.take {zs : List Int} (h : U8 zs) (k : Nat) : U8 (zs.take k) := fun z hz => h z (List.mem_of_mem_take hz)
def At (w : World) (k : IntKind) (b off : Nat) (zs : List Int) : Prop :=
  b < w.heap.size ∧ ∀ j, j < zs.length → w.cell? ⟨b, off + j, none⟩ = some (.int k (zs[j]?.getD 0))
theorem At.later {w w' : World} {k : IntKind} {b off B : Nat} {zs : List Int} (h : At w k b off zs) (hb : Below B w w') (hB : b < B) : At w' k b off zs :=
  ⟨Nat.lt_of_lt_of_le h.1 hb.size, fun j hj => (hb.cell (p := ⟨b, off + j, none⟩) hB).trans (h.2 j hj)⟩
theorem At.drop {w : World} {k : IntKind} {b off : Nat} {zs : List Int} (h : At w k b off zs) (n : Nat) : At w k b (off + n) (zs.drop n) :=
  ⟨h.1, fun j hj => by
    have := h.2 (n + j) (by simp at hj; omega)
    rw [List.getElem?_drop, Nat.add_assoc]; exact this⟩
theorem At.take {w : World} {k : IntKind} {b off : Nat} {zs : List Int} (h : At w k b off zs) (n : Nat) : At w k b off (zs.take n) :=
  ⟨h.1, fun j hj => by
    simp at hj
    have := h.2 j (by omega)
    rw [List.getElem?_take_of_lt (by omega)]; exact this⟩
def Reads (w : World) (k : IntKind) (a : Option Addr) (cap : Nat) (zs : List Int) : Prop :=
  zs.length ≤ cap ∧ cap ≤ maxLen ∧ (zs = [] ∨ ∃ b off, a = some ⟨b, off, none⟩ ∧ At w k b off zs)
theorem Reads.later {w w' : World} {k : IntKind} {a : Option Addr} {cap : Nat} {zs : List Int} (h : Reads w k a cap zs) (hb : Below w.heap.size w w') : Reads w' k a cap zs := by
  obtain ⟨h1, h2, h3⟩ := h
  refine ⟨h1, h2, ?_⟩
  rcases h3 with h3 | ⟨b, off, rfl, hat⟩
  · exact .inl h3
  · exact .inr ⟨b, off, rfl, hat.later hb hat.1⟩
theorem Reads.of_owns {w : World} {base : Nat} {e : TypeId} {k : IntKind} {v : Value} {zs : List Int} (h : w.ownsRow base e 1 v zs.length (zs.map (Value.int k))) :
    ∃ a cap, v = .slice a zs.length cap ∧ Reads w k a cap zs := by
  rcases h.2 with ⟨rfl, h0⟩ | ⟨g, cap, cur, rfl, hg, hh, hn, hcap, hsz, htake⟩
  · have : zs = [] := List.length_eq_zero_iff.1 h0
    subst this
    exact ⟨none, 0, rfl, by simp, by simp [maxLen], .inl rfl⟩
  · refine ⟨_, cap, rfl, hn, hcap, .inr ⟨g, 0, rfl, (Array.getElem?_eq_some_iff.1 hh).1, fun j hj => ?_⟩⟩
    have hx := h.cells (g := g) rfl j (.int k (zs[j]?.getD 0)) (by
      rw [List.getElem?_map, List.getElem?_eq_getElem hj]; rfl)
    rw [← hx]; congr 1; unfold Addr.add; simp
def Blk (w : World) (p : Nat) (cs : List Value) (T : TypeId) : Prop := w.heap[p]? = some (.cells cs.toArray T (0, 0))
theorem Blk.lt {w : World} {p : Nat} {cs : List Value} {T : TypeId} (h : Blk w p cs T) : p < w.heap.size := lt_of_block h
theorem Blk.cell {w : World} {p : Nat} {cs : List Value} {T : TypeId} (h : Blk w p cs T) (i : Nat) (v : Value) (hv : cs[i]? = some v) : w.cell? ⟨p, i, none⟩ = some v := by
  rw [cell_of_row w p i _ T _ h]; simpa using hv
theorem Blk.frozen {w : World} {p : Nat} {cs : List Value} {T : TypeId} (h : Blk w p cs T) (i : Nat) : w.frozen? ⟨p, i, none⟩ = false := by
  unfold Blk at h; simp [World.frozen?, h]
theorem Blk.setCell {w : World} {p : Nat} {cs : List Value} {T : TypeId} (h : Blk w p cs T) (i : Nat) (v : Value) : Blk (w.setCell ⟨p, i, none⟩ v) p (cs.set i v) T := by
  have hlt := h.lt
  have h' : w.heap[p] = .cells cs.toArray T (0, 0) := by unfold Blk at h; simpa [Array.getElem?_eq_getElem hlt] using h
  show (w.heap.modify p _)[p]? = _
  rw [Array.getElem?_eq_getElem (by simpa using hlt), Array.getElem_modify_self, h']
  simp
theorem Blk.kept {w w' : World} {p : Nat} {cs : List Value} {T : TypeId} (h : Blk w p cs T) {row : Option Nat} (hg : w.grownBy w' row) (hne : row ≠ some p) : Blk w' p cs T :=
  (hg.block p h.lt (fun e => hne e.symm)).trans h
theorem Blk.later {w w' : World} {p : Nat} {cs : List Value} {T : TypeId} (h : Blk w p cs T) {B : Nat} (hb : Below B w w') (hB : p < B) : Blk w' p cs T := (hb.block p hB).trans h
theorem Blk.drewN {w : World} {p : Nat} {cs : List Value} {T : TypeId} (h : Blk w p cs T) (n : Nat) : Blk (w.drewN n) p cs T := h
theorem Blk.alloc {w : World} (cs : List Value) (T : TypeId) : Blk (w.alloc (.cells cs.toArray T)) w.heap.size cs T := heap_alloc_new w _
theorem Blk.alloc_old {w : World} {p : Nat} {cs : List Value} {T : TypeId} (h : Blk w p cs T) (o : Obj) : Blk (w.alloc o) p cs T := (heap_alloc_old w o h.lt).trans h
theorem grown_setCell (w : World) (p i : Nat) (v : Value) : w.grownBy (w.setCell ⟨p, i, none⟩ v) (some p) :=
  ⟨rfl, rfl, rfl, by simp, fun k _ hne => Below.heap_setCell _ _ _ _ (fun e => hne (congrArg some e))⟩
theorem grown_trans {a b c : World} {row : Option Nat} (h : a.grownBy b row) (k : b.grownBy c row) : a.grownBy c row :=
  ⟨k.os.trans h.os, k.tape.trans h.tape, k.output.trans h.output, Nat.le_trans h.size k.size, fun i hi hne => (k.block i (Nat.lt_of_lt_of_le hi h.size) hne).trans (h.block i hi hne)⟩
theorem grown_drewN {w w' : World} {row : Option Nat} (h : w.grownBy w' row) (n : Nat) : w.grownBy (w'.drewN n) row := grown_trans h ⟨rfl, rfl, rfl, Nat.le_refl _, fun _ _ _ => rfl⟩
theorem Below.of_grown {w w' : World} {B : Nat} {row : Option Nat} (h : w.grownBy w' row) (hB : B ≤ w.heap.size) (hr : ∀ k, row = some k → B ≤ k) : Below B w w' := (Below.refl B w).grown h hB hr
def lenIn : Value → Nat | .slice _ n _ => n | _ => 0
theorem grown_of_below {w w' : World} (h : Below w.heap.size w w') : w.grownBy w' none := ⟨h.os, h.tape, h.output, h.size, fun k hk _ => h.block k hk⟩
theorem owns_later {w w' : World} {base : Nat} {e : TypeId} {size : Nat} {v : Value} {n : Nat} {xs : List Value} (h : w.ownsRow base e size v n xs) (hb : Below w.heap.size w w') : w'.ownsRow base e size v n xs :=
  h.kept (grown_of_below hb) (by cases v.ownBlock <;> simp)
theorem owns_snoc {w : World} {base : Nat} {e : TypeId} {k : IntKind} {v : Value} {zs : List Int} {z : Int} (h : w.ownsRow base e 1 v (zs.length + 1) (zs.map (Value.int k) ++ [.int k z])) :
    w.ownsRow base e 1 v (zs ++ [z]).length ((zs ++ [z]).map (Value.int k)) := by
  rw [List.length_append, List.map_append]; exact h
def Tells (v : Value) (w : World) (e : Ending) (w' : World) : Prop := e = .returned v ∧ w' = w
def Told (v : Value) (w : World) (e : Ending) (w' : World) : Prop := e = .returned v ∧ Below w.heap.size w w'
theorem Tells.told {v : Value} {w : World} {e : Ending} {w' : World} (h : Tells v w e w') : Told v w e w' := ⟨h.1, by rw [h.2]; exact Below.refl _ _⟩
theorem below_drewN {B : Nat} {a w : World} (h : Below B a w) (n : Nat) : Below B a (w.drewN n) := ⟨h.os, h.tape, h.output, h.size, h.block⟩
theorem below_trans {w a b : World} (h : Below w.heap.size w a) (k : Below a.heap.size a b) : Below w.heap.size w b := h.trans (k.mono h.size)
end

section
open Go.RowKit
def strB (s : ByteArray) : List UInt8 := s.data.toList
theorem strB_len (s : ByteArray) : (strB s).length = s.size := by unfold strB; rw [Array.length_toList]; rfl
end
end Go.Proofs.Ytelbjnanpmdnnaa
