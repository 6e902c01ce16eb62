/- Texts of mine in one: Kit More Sl0 Fp0 Sl1 Sl2 Sl3 HdT SlF. -/
import Derived.Test.YtcfhggdiccilaaaGreatRows
import Derived.WalkKit
import Derived.WalkSpells
import Derived.WalkLawsBesides
import Derived.Lib.Hide
import Derived.Deep.QuietTactic
import Derived.BigQuiet
import Derived.RangeFuncFrom
import Derived.RangeFuncNested
import Derived.RangeFuncBound
import Derived.RangeFuncCalls
import Derived.RangeFuncLeaves
import Derived.Shelf.Abstract
import Derived.Shelf.RegionOpen
import Derived.OwnWalkIn
import Derived.TacticsInMore
import Derived.LoopNIn
import Derived.LoopIn
import Derived.RegionTactic
import Derived.Deep.RegionHeld3
import Derived.OpenShut
import Derived.Deep.Slices
import Derived.SizedLaws
import Derived.ChangeArms
namespace Go.Proofs.YtcfhggdiccilaaaGreat
section
open Go.RowKit
theorem ret_int {k : IntKind} {a b : Int} (h : a = b) : Ending.returned (.int k a) = .returned (.int k b) := by rw [h]
theorem ret_bool {a b : Bool} (h : a = b) : Ending.returned (.bool a) = .returned (.bool b) := by rw [h]
def U8 (zs : List Int) : Prop := ∀ z ∈ zs, 0 ≤ z ∧ z ≤ 255
def I64 (zs : List Int) : Prop := ∀ z ∈ zs, -9223372036854775808 ≤ z ∧ z ≤ 9223372036854775807
theorem U8.at {zs : List Int} (h : U8 zs) (j : Nat) : 0 ≤ zs[j]?.getD 0 ∧ zs[j]?.getD 0 ≤ 255 := by
  rcases Nat.lt_or_ge j zs.length with hj | hj
  · rw [List.getElem?_eq_getElem hj]; exact h _ (List.getElem_mem hj)
  · rw [List.getElem?_eq_none hj]; simp
theorem I64.at {zs : List Int} (h : I64 zs) (j : Nat) : -9223372036854775808 ≤ zs[j]?.getD 0 ∧ zs[j]?.getD 0 ≤ 9223372036854775807 := by
  rcases Nat.lt_or_ge j zs.length with hj | hj
  · rw [List.getElem?_eq_getElem hj]; exact h _ (List.getElem_mem hj)
  · rw [List.getElem?_eq_none hj]; simp
theorem U8.drop {zs : List Int} (h : U8 zs) (k : Nat) : U8 (zs.drop k) := fun z hz => h z (List.mem_of_mem_drop hz)
theorem U8.take {zs : List Int} (h : U8 zs) (k : Nat) : U8 (zs.take k) := fun z hz => h z (List.mem_of_mem_take hz)
def At (w : World) (k : IntKind) (b off : Nat) (zs : List Int) : Prop :=
  b < w.heap.size ∧ ∀ j, j < zs.length → w.cell? ⟨b, off + j, none⟩ = some (.int k (zs[j]?.getD 0))
theorem At.later {w w' : World} {k : IntKind} {b off B : Nat} {zs : List Int} (h : At w k b off zs) (hb : Below B w w') (hB : b < B) : At w' k b off zs :=
  ⟨Nat.lt_of_lt_of_le h.1 hb.size, fun j hj => (hb.cell (p := ⟨b, off + j, none⟩) hB).trans (h.2 j hj)⟩
theorem At.drop {w : World} {k : IntKind} {b off : Nat} {zs : List Int} (h : At w k b off zs) (n : Nat) : At w k b (off + n) (zs.drop n) :=
  ⟨h.1, fun j hj => by
    have := h.2 (n + j) (by simp at hj; omega)
    rw [List.getElem?_drop, Nat.add_assoc]; exact this⟩
theorem At.take {w : World} {k : IntKind} {b off : Nat} {zs : List Int} (h : At w k b off zs) (n : Nat) : At w k b off (zs.take n) :=
  ⟨h.1, fun j hj => by
    simp at hj
    have := h.2 j (by omega)
    rw [List.getElem?_take_of_lt (by omega)]; exact this⟩
def Reads (w : World) (k : IntKind) (a : Option Addr) (cap : Nat) (zs : List Int) : Prop :=
  zs.length ≤ cap ∧ cap ≤ maxLen ∧ (zs = [] ∨ ∃ b off, a = some ⟨b, off, none⟩ ∧ At w k b off zs)
theorem Reads.later {w w' : World} {k : IntKind} {a : Option Addr} {cap : Nat} {zs : List Int} (h : Reads w k a cap zs) (hb : Below w.heap.size w w') : Reads w' k a cap zs := by
  obtain ⟨h1, h2, h3⟩ := h
  refine ⟨h1, h2, ?_⟩
  rcases h3 with h3 | ⟨b, off, rfl, hat⟩
  · exact .inl h3
  · exact .inr ⟨b, off, rfl, hat.later hb hat.1⟩
theorem Reads.of_owns {w : World} {base : Nat} {e : TypeId} {k : IntKind} {v : Value} {zs : List Int} (h : w.ownsRow base e 1 v zs.length (zs.map (Value.int k))) :
    ∃ a cap, v = .slice a zs.length cap ∧ Reads w k a cap zs := by
  rcases h.2 with ⟨rfl, h0⟩ | ⟨g, cap, cur, rfl, hg, hh, hn, hcap, hsz, htake⟩
  · have : zs = [] := List.length_eq_zero_iff.1 h0
    subst this
    exact ⟨none, 0, rfl, by simp, by simp [maxLen], .inl rfl⟩
  · refine ⟨_, cap, rfl, hn, hcap, .inr ⟨g, 0, rfl, (Array.getElem?_eq_some_iff.1 hh).1, fun j hj => ?_⟩⟩
    have hx := h.cells (g := g) rfl j (.int k (zs[j]?.getD 0)) (by
      rw [List.getElem?_map, List.getElem?_eq_getElem hj]; rfl)
    rw [← hx]; congr 1; unfold Addr.add; simp
def Blk (w : World) (p : Nat) (cs : List Value) (T : TypeId) : Prop := w.heap[p]? = some (.cells cs.toArray T (0, 0))
theorem Blk.lt {w : World} {p : Nat} {cs : List Value} {T : TypeId} (h : Blk w p cs T) : p < w.heap.size := lt_of_block h
theorem Blk.cell {w : World} {p : Nat} {cs : List Value} {T : TypeId} (h : Blk w p cs T) (i : Nat) (v : Value) (hv : cs[i]? = some v) : w.cell? ⟨p, i, none⟩ = some v := by
  rw [cell_of_row w p i _ T _ h]; simpa using hv
theorem Blk.frozen {w : World} {p : Nat} {cs : List Value} {T : TypeId} (h : Blk w p cs T) (i : Nat) : w.frozen? ⟨p, i, none⟩ = false := by
  unfold Blk at h; simp [World.frozen?, h]
theorem Blk.setCell {w : World} {p : Nat} {cs : List Value} {T : TypeId} (h : Blk w p cs T) (i : Nat) (v : Value) : Blk (w.setCell ⟨p, i, none⟩ v) p (cs.set i v) T := by
  have hlt := h.lt
  have h' : w.heap[p] = .cells cs.toArray T (0, 0) := by unfold Blk at h; simpa [Array.getElem?_eq_getElem hlt] using h
  show (w.heap.modify p _)[p]? = _
  rw [Array.getElem?_eq_getElem (by simpa using hlt), Array.getElem_modify_self, h']
  simp
theorem Blk.kept {w w' : World} {p : Nat} {cs : List Value} {T : TypeId} (h : Blk w p cs T) {row : Option Nat} (hg : w.grownBy w' row) (hne : row ≠ some p) : Blk w' p cs T :=
  (hg.block p h.lt (fun e => hne e.symm)).trans h
theorem Blk.later {w w' : World} {p : Nat} {cs : List Value} {T : TypeId} (h : Blk w p cs T) {B : Nat} (hb : Below B w w') (hB : p < B) : Blk w' p cs T := (hb.block p hB).trans h
theorem Blk.drewN {w : World} {p : Nat} {cs : List Value} {T : TypeId} (h : Blk w p cs T) (n : Nat) : Blk (w.drewN n) p cs T := h
theorem Blk.alloc {w : World} (cs : List Value) (T : TypeId) : Blk (w.alloc (.cells cs.toArray T)) w.heap.size cs T := heap_alloc_new w _
theorem Blk.alloc_old {w : World} {p : Nat} {cs : List Value} {T : TypeId} (h : Blk w p cs T) (o : Obj) : Blk (w.alloc o) p cs T := (heap_alloc_old w o h.lt).trans h
theorem grown_setCell (w : World) (p i : Nat) (v : Value) : w.grownBy (w.setCell ⟨p, i, none⟩ v) (some p) :=
  ⟨rfl, rfl, rfl, by simp, fun k _ hne => Below.heap_setCell _ _ _ _ (fun e => hne (congrArg some e))⟩
theorem grown_trans {a b c : World} {row : Option Nat} (h : a.grownBy b row) (k : b.grownBy c row) : a.grownBy c row :=
  ⟨k.os.trans h.os, k.tape.trans h.tape, k.output.trans h.output, Nat.le_trans h.size k.size, fun i hi hne => (k.block i (Nat.lt_of_lt_of_le hi h.size) hne).trans (h.block i hi hne)⟩
theorem Below.of_grown {w w' : World} {B : Nat} {row : Option Nat} (h : w.grownBy w' row) (hB : B ≤ w.heap.size) (hr : ∀ k, row = some k → B ≤ k) : Below B w w' := (Below.refl B w).grown h hB hr
def lenIn : Value → Nat | .slice _ n _ => n | _ => 0
theorem grown_of_below {w w' : World} (h : Below w.heap.size w w') : w.grownBy w' none := ⟨h.os, h.tape, h.output, h.size, fun k hk _ => h.block k hk⟩
theorem owns_later {w w' : World} {base : Nat} {e : TypeId} {size : Nat} {v : Value} {n : Nat} {xs : List Value} (h : w.ownsRow base e size v n xs) (hb : Below w.heap.size w w') : w'.ownsRow base e size v n xs :=
  h.kept (grown_of_below hb) (by cases v.ownBlock <;> simp)
theorem owns_snoc {w : World} {base : Nat} {e : TypeId} {k : IntKind} {v : Value} {zs : List Int} {z : Int} (h : w.ownsRow base e 1 v (zs.length + 1) (zs.map (Value.int k) ++ [.int k z])) :
    w.ownsRow base e 1 v (zs ++ [z]).length ((zs ++ [z]).map (Value.int k)) := by
  rw [List.length_append, List.map_append]; exact h
def Tells (v : Value) (w : World) (e : Ending) (w' : World) : Prop := e = .returned v ∧ w' = w
def Told (v : Value) (w : World) (e : Ending) (w' : World) : Prop := e = .returned v ∧ Below w.heap.size w w'
theorem Tells.told {v : Value} {w : World} {e : Ending} {w' : World} (h : Tells v w e w') : Told v w e w' := ⟨h.1, by rw [h.2]; exact Below.refl _ _⟩
theorem below_drewN {B : Nat} {a w : World} (h : Below B a w) (n : Nat) : Below B a (w.drewN n) := ⟨h.os, h.tape, h.output, h.size, h.block⟩
theorem below_trans {w a b : World} (h : Below w.heap.size w a) (k : Below a.heap.size a b) : Below w.heap.size w b := h.trans (k.mono h.size)
end

section
open Go.RowKit
def charNext (c z : Int) : Int := bits .or .i32 (wrap32 (c * 64)) (wrap32 (bits .and .u8 z 63))
end

section
open Go.RowKit
structure Flat where
  kind : Int
  ns : Int
  pre : ByteArray
  name : ByteArray
  op : Int
  text : ByteArray
  fold : Bool
  mark : Int
  a : Int
  b : Int
deriving DecidableEq
def Lx : Nat → Type
  | 0 => Unit
  | d + 1 => List (List (Int × List (Flat × Lx d)))
def RsOf {α : Type} (ok : Nat → Prop) (sz : Nat) (P : Nat → Nat → α → Prop) (a : Option Addr) (n c : Nat) (xs : List α) : Prop :=
  n = xs.length ∧ n ≤ c ∧ (c ≤ maxLen ∧ n ≤ 140737488351232) ∧ (xs = [] ∨ ∃ b off, a = some ⟨b, off, none⟩ ∧ ok b ∧ ∀ i x, xs[i]? = some x → P b (off + i * sz) x)
theorem RsOf.imp {α : Type} {ok ok' : Nat → Prop} {sz : Nat} {P P' : Nat → Nat → α → Prop} {a : Option Addr} {n c : Nat} {xs : List α} (h : RsOf ok sz P a n c xs) (ho : ∀ b, ok b → ok' b) (hp : ∀ b o x, ok b → P b o x → P' b o x) : RsOf ok' sz P' a n c xs := by
  obtain ⟨h1, h2, h3, h4⟩ := h
  refine ⟨h1, h2, h3, ?_⟩
  rcases h4 with h4 | ⟨b, off, rfl, hb, hi⟩
  · exact .inl h4
  · exact .inr ⟨b, off, rfl, ho _ hb, fun i x hx => hp _ _ _ hb (hi i x hx)⟩
theorem RsOf.at {α : Type} {ok : Nat → Prop} {sz : Nat} {P : Nat → Nat → α → Prop} {a : Option Addr} {n c : Nat} {xs : List α} (h : RsOf ok sz P a n c xs) (i : Nat) (x : α) (hx : xs[i]? = some x) : ∃ b off, a = some ⟨b, off, none⟩ ∧ ok b ∧ P b (off + i * sz) x := by
  rcases h.2.2.2 with h4 | ⟨b, off, rfl, hb, hi⟩
  · subst h4; simp at hx
  · exact ⟨b, off, rfl, hb, hi i x hx⟩
def FlatAt (w : World) (b o : Nat) (f : Flat) : Prop :=
  w.cell? ⟨b, o, none⟩ = some (.int .i64 f.kind) ∧ w.cell? ⟨b, o + 1, none⟩ = some (.int .i64 f.ns) ∧ w.cell? ⟨b, o + 2, none⟩ = some (.string f.pre) ∧ w.cell? ⟨b, o + 3, none⟩ = some (.string f.name) ∧
  w.cell? ⟨b, o + 4, none⟩ = some (.int .i64 f.op) ∧ w.cell? ⟨b, o + 5, none⟩ = some (.string f.text) ∧ w.cell? ⟨b, o + 6, none⟩ = some (.bool f.fold) ∧ w.cell? ⟨b, o + 7, none⟩ = some (.int .i64 f.mark) ∧
  w.cell? ⟨b, o + 8, none⟩ = some (.int .i64 f.a) ∧ w.cell? ⟨b, o + 9, none⟩ = some (.int .i64 f.b)
def FlatOk (f : Flat) : Prop := f.pre.size ≤ 140737488351232 ∧ f.name.size ≤ 140737488351232 ∧ f.text.size ≤ 140737488351232
def SimpleAt {L : Type} (R : Option Addr → Nat → Nat → L → Prop) (w : World) (b o : Nat) (s : Flat × L) : Prop :=
  FlatAt w b o s.1 ∧ ∃ a n c, w.cell? ⟨b, o + 10, none⟩ = some (.slice a n c) ∧ R a n c s.2 ∧ FlatOk s.1
def CompAt {L : Type} (ok : Nat → Prop) (R : Option Addr → Nat → Nat → L → Prop) (w : World) (b o : Nat) (k : Int × List (Flat × L)) : Prop :=
  w.cell? ⟨b, o, none⟩ = some (.int .i64 k.1) ∧ ∃ a n c, w.cell? ⟨b, o + 1, none⟩ = some (.slice a n c) ∧ RsOf ok 11 (SimpleAt R w) a n c k.2
def RdX {L : Type} (ok : Nat → Prop) (R : Option Addr → Nat → Nat → L → Prop) (w : World) (a : Option Addr) (n c : Nat) (x : List (Int × List (Flat × L))) : Prop :=
  RsOf ok 2 (CompAt ok R w) a n c x
def ComplexAt {L : Type} (ok : Nat → Prop) (R : Option Addr → Nat → Nat → L → Prop) (w : World) (b o : Nat) (x : List (Int × List (Flat × L))) : Prop :=
  ∃ a n c, w.cell? ⟨b, o, none⟩ = some (.slice a n c) ∧ RdX ok R w a n c x
def RdL (ok : Nat → Prop) : (d : Nat) → World → Option Addr → Nat → Nat → Lx d → Prop
  | 0, _, _, n, c, _ => n = 0 ∧ c ≤ maxLen
  | d + 1, w, a, n, c, x => RsOf ok 1 (ComplexAt ok (RdL ok d w) w) a n c x
theorem cell_sameS {w w' : World} {b : Nat} (h : w'.heap[b]? = w.heap[b]?) (o : Nat) : w'.cell? ⟨b, o, none⟩ = w.cell? ⟨b, o, none⟩ := by unfold World.cell?; simp [h]
theorem FlatAt.move {w w' : World} {b o : Nat} {f : Flat} (h : FlatAt w b o f) (hb : w'.heap[b]? = w.heap[b]?) : FlatAt w' b o f := by
  unfold FlatAt at *; simp only [cell_sameS hb]; exact h
theorem SimpleAt.move {L : Type} {R R' : Option Addr → Nat → Nat → L → Prop} {w w' : World} {b o : Nat} {s : Flat × L} (h : SimpleAt R w b o s) (hb : w'.heap[b]? = w.heap[b]?) (hR : ∀ a n c x, R a n c x → R' a n c x) : SimpleAt R' w' b o s := by
  obtain ⟨h1, a, n, c, h2, h3, h4⟩ := h
  exact ⟨h1.move hb, a, n, c, (cell_sameS hb _).trans h2, hR _ _ _ _ h3, h4⟩
theorem CompAt.move {L : Type} {ok ok' : Nat → Prop} {R R' : Option Addr → Nat → Nat → L → Prop} {w w' : World} {b o : Nat} {k : Int × List (Flat × L)} (h : CompAt ok R w b o k) (hb : w'.heap[b]? = w.heap[b]?) (ho : ∀ b, ok b → ok' b ∧ w'.heap[b]? = w.heap[b]?) (hR : ∀ a n c x, R a n c x → R' a n c x) : CompAt ok' R' w' b o k := by
  obtain ⟨h1, a, n, c, h2, h3⟩ := h
  exact ⟨(cell_sameS hb _).trans h1, a, n, c, (cell_sameS hb _).trans h2, h3.imp (fun b hb => (ho b hb).1) (fun _ _ _ hb hx => hx.move (ho _ hb).2 hR)⟩
theorem RdX.move {L : Type} {ok ok' : Nat → Prop} {R R' : Option Addr → Nat → Nat → L → Prop} {w w' : World} {a : Option Addr} {n c : Nat} {x : List (Int × List (Flat × L))} (h : RdX ok R w a n c x) (ho : ∀ b, ok b → ok' b ∧ w'.heap[b]? = w.heap[b]?) (hR : ∀ a n c x, R a n c x → R' a n c x) : RdX ok' R' w' a n c x :=
  RsOf.imp h (fun b hb => (ho b hb).1) (fun _ _ _ hb hx => hx.move (ho _ hb).2 ho hR)
theorem RdL.move {ok ok' : Nat → Prop} {w w' : World} (ho : ∀ b, ok b → ok' b ∧ w'.heap[b]? = w.heap[b]?) : ∀ {d : Nat} {a : Option Addr} {n c : Nat} {x : Lx d}, RdL ok d w a n c x → RdL ok' d w' a n c x
  | 0, _, _, _, _, h => h
  | d + 1, a, n, c, x, h => by
    have h : RsOf ok 1 (ComplexAt ok (RdL ok d w) w) a n c (show List (List (Int × List (Flat × Lx d))) from x) := h
    refine RsOf.imp h (fun b hb => (ho b hb).1) (fun _ _ _ hb hx => ?_)
    obtain ⟨a, n, c, h1, h2⟩ := hx
    exact ⟨a, n, c, (cell_sameS (ho _ hb).2 _).trans h1, h2.move ho (fun _ _ _ _ h => RdL.move ho h)⟩
theorem RdL.later {w w' : World} {B : Nat} (hb : Below B w w') (hB : B ≤ w.heap.size) {d : Nat} {a : Option Addr} {n c : Nat} {x : Lx d} (h : RdL (· < B) d w a n c x) : RdL (· < w'.heap.size) d w' a n c x :=
  RdL.move (fun b h => ⟨Nat.lt_of_lt_of_le h (Nat.le_trans hB hb.size), hb.block b h⟩) h
theorem RdX.later {w w' : World} {B : Nat} (hb : Below B w w') (hB : B ≤ w.heap.size) {d : Nat} {a : Option Addr} {n c : Nat} {x : List (Int × List (Flat × Lx d))} (h : RdX (· < B) (RdL (· < B) d w) w a n c x) : RdX (· < w'.heap.size) (RdL (· < w'.heap.size) d w') w' a n c x :=
  RdX.move h (fun b h => ⟨Nat.lt_of_lt_of_le h (Nat.le_trans hB hb.size), hb.block b h⟩) (fun _ _ _ _ h => RdL.later hb hB h)
def sval (f : Flat) (a : Option Addr) (n c : Nat) : Value :=
  .agg #[.int .i64 f.kind, .int .i64 f.ns, .string f.pre, .string f.name, .int .i64 f.op, .string f.text, .bool f.fold, .int .i64 f.mark, .int .i64 f.a, .int .i64 f.b, .slice a n c]
def simplesX {L : Type} (x : List (Int × List (Flat × L))) : List (Flat × L) := x.flatMap (·.2)
def simplesL {L : Type} (x : List (List (Int × List (Flat × L)))) : List (Flat × L) := x.flatMap simplesX
end

section
open Go.RowKit
set_option linter.unusedVariables false
inductive Tm where
  | mk : Int → Int → List Tm → Tm
def Tm.kind : Tm → Int | .mk k _ _ => k
def Tm.num : Tm → Int | .mk _ n _ => n
def Tm.subs : Tm → List Tm | .mk _ _ s => s
structure AtF where
  kind : Int
  has : Bool
  space : ByteArray
  name : ByteArray
  op : Int
  text : ByteArray
  fold : Bool
deriving DecidableEq
structure RowF where
  first : Nat
  steps : List (Int × List Tm)
  pseudo : ByteArray
structure CtF where
  a : Int
  b : Int
  rows : List Int
structure PenS where
  atoms : List AtF
  rows : List RowF
  ctrs : List CtF
  lists : List (List Int)
  steps : Nat
structure Nm where
  hd : Bool
  df : ByteArray
  ps : List ByteArray
  ss : List ByteArray
def pen0 : PenS := ⟨[], [], [], [], 0⟩
def findA (l : List AtF) (a : AtF) : Option Nat := l.findIdx? (fun x => decide (x = a))
def penAtom (st : PenS) (a : AtF) : Tm × PenS := match findA st.atoms a with
  | some i => (.mk 1 i [], st)
  | none => (.mk 1 st.atoms.length [], { st with atoms := st.atoms ++ [a] })
def spaceOf (nm : Nm) (p : ByteArray) : Bool × ByteArray := match nm.ps.findIdx? (fun x => decide (x = p)) with
  | some i => (true, (nm.ss[i]?).getD ⟨#[]⟩)
  | none => (false, ⟨#[]⟩)
def spaceF (nm : Nm) (ns : Int) (pre : ByteArray) (attr : Bool) : Bool × ByteArray :=
  if ns = 1 ∨ (ns = 0 ∧ attr = false ∧ nm.hd = false) then (false, ⟨#[]⟩)
  else if ns = 0 ∧ attr = false then (true, nm.df)
  else if ns = 3 then (true, (spaceOf nm pre).2)
  else (true, ⟨#[]⟩)
def penElem (nm : Nm) (st : PenS) (name : ByteArray) (ns : Int) (pre : ByteArray) : Tm × PenS :=
  let q := spaceF nm ns pre false
  if name = ⟨#[]⟩ ∧ q.1 = false then (.mk 7 0 [], st) else penAtom st ⟨1, q.1, q.2, name, 0, ⟨#[]⟩, false⟩
def penPlain (st : PenS) (name : ByteArray) (op : Int) (text : ByteArray) : Tm × PenS := penAtom st ⟨2, true, ⟨#[]⟩, name, op, text, false⟩
def tmNot (t : Tm) : Tm := .mk 3 0 [t]
def tmRows (rows : List Int) : Tm := .mk 4 0 (rows.map fun r => .mk 2 r [])
def penTerm {L : Type} (f : L → PenS → List Int × PenS) (nm : Nm) (st : PenS) (s : Flat × L) : Tm × PenS :=
  let k := s.1.kind
  if k = 1 ∨ k = 2 then penElem nm st s.1.name s.1.ns s.1.pre
  else if k = 3 then penPlain st ⟨#[99, 108, 97, 115, 115]⟩ 3 s.1.name
  else if k = 4 then penPlain st ⟨#[105, 100]⟩ 2 s.1.name
  else if k = 5 then let q := spaceF nm s.1.ns s.1.pre true; penAtom st ⟨2, q.1, q.2, s.1.name, s.1.op, s.1.text, s.1.fold⟩
  else if k = 11 then penAtom st ⟨3, false, ⟨#[]⟩, s.1.name, 0, ⟨#[]⟩, false⟩
  else if k = 6 then (.mk 6 0 [], st)
  else if k = 8 ∨ k = 9 then let q := f s.2 st; (tmRows q.1, q.2)
  else if k = 10 then let q := f s.2 st; (tmNot (tmRows q.1), q.2)
  else if k = 7 then let q := f s.2 st; (.mk 5 q.2.ctrs.length [], { q.2 with ctrs := q.2.ctrs ++ [⟨s.1.a, s.1.b, q.1⟩] })
  else if k = 12 then
    let a := penElem nm st ⟨#[97]⟩ 0 ⟨#[]⟩
    let b := penElem nm a.2 ⟨#[97, 114, 101, 97]⟩ 0 ⟨#[]⟩
    let c := penPlain b.2 ⟨#[104, 114, 101, 102]⟩ 1 ⟨#[]⟩
    (tmNot (.mk 4 0 [tmNot (.mk 4 0 [a.1, b.1]), tmNot c.1]), c.2)
  else (.mk 7 0 [], st)
def penTerms {L : Type} (f : L → PenS → List Int × PenS) (nm : Nm) : PenS → List (Flat × L) → List Tm × PenS
  | st, [] => ([], st)
  | st, s :: r => let q := penTerm f nm st s; let t := penTerms f nm q.2 r; (q.1 :: t.1, t.2)
def penSteps {L : Type} (f : L → PenS → List Int × PenS) (nm : Nm) : PenS → List (Int × List (Flat × L)) → List (Int × List Tm) × PenS
  | st, [] => ([], st)
  | st, x :: r => let q := penTerms f nm st x.2; let t := penSteps f nm q.2 r; ((x.1, q.1) :: t.1, t.2)
def pseudoF {L : Type} (x : List (Int × List (Flat × L))) : ByteArray := match x.getLast? with
  | none => ⟨#[]⟩
  | some k => match k.2.getLast? with
    | none => ⟨#[]⟩
    | some s => if s.1.kind = 13 then s.1.name else ⟨#[]⟩
def penRow {L : Type} (f : L → PenS → List Int × PenS) (nm : Nm) (st : PenS) (x : List (Int × List (Flat × L))) : Int × PenS :=
  let q := penSteps f nm st x
  (q.2.rows.length, { q.2 with rows := q.2.rows ++ [⟨q.2.steps, q.1, pseudoF x⟩], steps := q.2.steps + x.length })
def penRows {L : Type} (f : L → PenS → List Int × PenS) (nm : Nm) : PenS → List (List (Int × List (Flat × L))) → List Int × PenS
  | st, [] => ([], st)
  | st, x :: r => let q := penRow f nm st x; let t := penRows f nm q.2 r; (q.1 :: t.1, t.2)
def penL (nm : Nm) : (d : Nat) → Lx d → PenS → List Int × PenS
  | 0, _, st => ([], st)
  | d + 1, x, st => penRows (penL nm d) nm st x
end

section
open Go.RowKit Go.Shelf
attribute [local go_sem] Oper.semAt_some
abbrev Hx (ok : Nat → Prop) (d : Nat) (V : Flat × Lx d → Prop) (w0 : World) := { s : Flat × Lx d × Option Addr × Nat × Nat // RdL ok d w0 s.2.2.1 s.2.2.2.1 s.2.2.2.2 s.2.1 ∧ V (s.1, s.2.1) }
def Hx.s {ok : Nat → Prop} {d : Nat} {V : Flat × Lx d → Prop} {w0 : World} (x : Hx ok d V w0) : Flat × Lx d := (x.1.1, x.1.2.1)
def Hx.v {ok : Nat → Prop} {d : Nat} {V : Flat × Lx d → Prop} {w0 : World} (x : Hx ok d V w0) : Value := sval x.1.1 x.1.2.2.1 x.1.2.2.2.1 x.1.2.2.2.2
def Keeps (ok : Nat → Prop) (A B : World) : Prop := A.heap.size ≤ B.heap.size ∧ ∀ b, ok b → B.heap[b]? = A.heap[b]?
theorem Keeps.trans {ok : Nat → Prop} {A B C : World} (h : Keeps ok A B) (k : Keeps ok B C) : Keeps ok A C := ⟨Nat.le_trans h.1 k.1, fun b hb => (k.2 b hb).trans (h.2 b hb)⟩
theorem Keeps.refl (ok : Nat → Prop) (A : World) : Keeps ok A A := ⟨Nat.le_refl _, fun _ _ => rfl⟩
end

section
open Go.RowKit Go.Shelf
attribute [local go_sem] Oper.semAt_some
theorem Keeps.of_below {n0 : Nat} {A B : World} (h : Below n0 A B) : Keeps (· < n0) A B := ⟨h.size, fun b hb => h.block b hb⟩
theorem RdL.kept {n0 : Nat} {A B : World} (h : Below n0 A B) (hn : n0 ≤ B.heap.size) {d : Nat} {a : Option Addr} {n c : Nat} {x : Lx d} (hx : RdL (· < n0) d A a n c x) : RdL (· < B.heap.size) d B a n c x :=
  RdL.move (fun b hb => ⟨Nat.lt_of_lt_of_le hb hn, h.block b hb⟩) hx
end

section
open Go.RowKit Go.Shelf
attribute [local go_sem] Oper.semAt_some
def lenL : (d : Nat) → Lx d → Nat
  | 0, _ => 0
  | _ + 1, x => List.length x
theorem RdL.len {ok : Nat → Prop} {w : World} {a : Option Addr} {n c : Nat} : ∀ {d : Nat} {x : Lx d}, RdL ok d w a n c x → n = lenL d x ∧ n ≤ 9223372036854775807
  | 0, _, h => ⟨h.1, by rw [h.1]; omega⟩
  | d + 1, x, h => ⟨h.1, by have h1 := h.2.1; have h2 := h.2.2.1; unfold maxLen at h2; omega⟩
def deepS {d : Nat} (f : Lx d → Int) (t : Int) (s : Flat × Lx d) : Int := if 0 < lenL d s.2 then max t (f s.2) else t
def deepF : (d : Nat) → Lx d → Int
  | 0, _ => 1
  | d + 1, x => wrap64 (1 + (simplesL x).foldl (deepS (deepF d)) 0)
end

section
open Go
theorem ssA {α : Type} (a : List α) (i : Nat) (x : α) : a.toArray.setIfInBounds i x = (a.set i x).toArray := List.setIfInBounds_toArray ..
theorem ssZ {α : Type} (a b : α) (l : List α) : (a :: l).set 0 b = b :: l := rfl
theorem ssS {α : Type} (a b : α) (l : List α) (n : Nat) : (a :: l).set (n + 1) b = a :: l.set n b := rfl
theorem tkH {P : Program} {md : Region.Mode} {ops : Array Oper} {Q : Exit → Act → World → Prop} {S : World → Prop} (i : Nat) {oi : Oper} {v : Value} {fuel : Nat} {listed : Array Bool} {a : Act} {w : World} (hi : ops[i]? = some oi) (hy : YieldsIf P ops S oi v a)
    (h : wpAnyH P md ops Q S fuel (listed.setIfInBounds i true) (a.put oi.dst v) w) (hS : S w := by assumption) (hs : Region.noSelect ops = true := by kernel_rfl) (hf : Region.free md ops listed i = true := by kernel_rfl) (hr : (Region.ready md ops listed).contains i = true := by kernel_rfl)
    (hQ : ∀ c a w, Q (.panic c) (a.put oi.dst v) w → Q (.panic c) a w := by exact fun _ _ _ h => h) : wpAnyH P md ops Q S (fuel + 1) listed a w :=
  wpAnyH_take hi hs hf hr hQ hy hS h
end

section
open Go.RowKit Go.Deep
def Wt {H : Type} (P : Program) (t : TypeId) (d : DataW H) : Prop := ∀ n ∈ d.weights P t, n ≤ reachBytes
theorem Wt.agg {H : Type} {P : Program} {t : TypeId} {fs : Array Field} {xs : List (DataW H × List MemPlace)} (ht : P.underlying t = some (.struct fs)) (h : Wt P t (.agg (xs.map (·.1)))) (i : Nat) (f : Field) (x : DataW H × List MemPlace) (hf : fs[i]? = some f) (hx : xs[i]? = some x) : Wt P f.type x.1 :=
  fun n hn => h n (by
    simp only [DataW.weights, ht]
    exact DataW.weights_mem_each (j := i) (by rw [List.getElem?_map, Array.getElem?_toList, hf]; rfl) (by rw [List.getElem?_map, hx]; rfl) n hn)
theorem weights_all {H : Type} {P : Program} {e : TypeId} : ∀ {ds : List (DataW H)} {d : DataW H}, d ∈ ds → ∀ n ∈ d.weights P e, n ∈ DataW.weightsAll P e ds
  | d0 :: ds, d, hd, n, hn => by
    simp only [DataW.weightsAll, List.mem_append]
    rcases List.mem_cons.1 hd with rfl | h
    · exact .inl hn
    · exact .inr (weights_all h n hn)
theorem Wt.slice {H : Type} {P : Program} {t e : TypeId} {es rs : List (DataW H)} (ht : P.underlying t = some (.slice e)) (h : Wt P t (.slice es rs)) : (es.length + rs.length) * P.bytesOf e ≤ reachBytes ∧ ∀ d ∈ es, Wt P e d :=
  ⟨h _ (by simp [DataW.weights, ht]), fun d hd n hn => h n (by
    simp only [DataW.weights, ht, List.mem_cons, List.mem_append]
    exact .inr (.inl (weights_all hd n hn)))⟩
theorem addA (b o n : Nat) : (⟨b, o, none⟩ : Addr).add n = ⟨b, o + n, none⟩ := by simp [Addr.add]
theorem rsOf_of_trod {H : Type} {enc : TypeId × Value → H} {P : Program} {W : World} {base : Nat} {spare : Nat → Bool} {held : Bool} {α : Type} {t e : TypeId} {fuel : Nat} {cs : List Value} {x : DataW H × List MemPlace} (sz : Nat)
    (ht : P.underlying t = some (.slice e)) (hsz : P.cellsOf e = sz) (hpos : 0 < sz) (hB : 1 ≤ P.bytesOf e) (Pred : Nat → Nat → α → Prop)
    (hel : ∀ (f' : Nat) (cs' : List Value) (x' : DataW H × List MemPlace) (b o : Nat), f' < fuel → DataW.trod enc P W base spare held f' e cs' = some x' → Wt P e x'.1 → (∀ j u, cs'[j]? = some u → W.cell? ⟨b, o + j, none⟩ = some u) → ∃ y : α, Pred b o y)
    (h : DataW.trod enc P W base spare held fuel t cs = some x) (hw : Wt P t x.1) :
    ∃ a n c, cs = [.slice a n c] ∧ (a = none → c = 0) ∧ ∃ ys : List α, RsOf (· < W.heap.size) sz Pred a n c ys := by
  rcases DataW.trod_slice ht h with ⟨rfl, _⟩ | ⟨a, len, cap, elems, rest, n, hfu, rfl, rfl, hb, hl, hm, hlen, hel', _, _⟩
  · exact ⟨none, 0, 0, rfl, fun _ => rfl, [], rfl, Nat.le_refl _, ⟨Nat.zero_le _, Nat.zero_le _⟩, .inl rfl⟩
  · refine ⟨some a, len, cap, rfl, (fun h => by cases h), ?_⟩
    obtain ⟨hwl, hwe⟩ := Wt.slice ht hw
    rw [List.length_map, hlen] at hwl
    have hlb : len ≤ 140737488351232 := by
      have h1 : len ≤ (len + (rest.map (·.1)).length) * P.bytesOf e := Nat.le_trans (Nat.le_add_right _ _) (Nat.le_mul_of_pos_right _ hB)
      have h2 := Nat.le_trans h1 hwl
      exact h2
    rcases Nat.eq_zero_or_pos len with h0 | hlp
    · subst h0
      exact ⟨[], rfl, hl, ⟨hm, hlb⟩, .inl rfl⟩
    · have hc : ∀ i, i < len → ∃ cs' x', W.cells? base (a.add (i * sz)) sz = some cs' ∧ DataW.trod enc P W base spare held n e cs' = some x' ∧ Wt P e x'.1 := fun i hi => by
        have hk := hel' i hi
        rw [List.getElem?_eq_getElem (by rw [hlen]; exact hi), hsz] at hk
        obtain ⟨cs', h1, h2⟩ := Option.bind_eq_some_iff.1 hk
        exact ⟨cs', _, h1, h2, hwe _ (List.mem_map_of_mem (List.getElem_mem _))⟩
      obtain ⟨b, off, spot⟩ := a
      have hspot : spot = none ∧ b < W.heap.size := by
        obtain ⟨cs', x', h1, _, _⟩ := hc 0 hlp
        obtain ⟨_, h2, h3⟩ := World.cells?_some h1
        have h4 := h3 0 hpos
        rw [List.getElem?_eq_getElem (by rw [h2]; exact hpos)] at h4
        have h5 := World.cell?_spot h4
        simp [Addr.add] at h5
        subst h5
        rw [addA, addA] at h4
        exact ⟨rfl, World.block_lt_of_cell? W _ h4⟩
      obtain ⟨rfl, hbl⟩ := hspot
      have hy : ∀ i : Nat, ∃ y : Option α, i < len → ∃ z, y = some z ∧ Pred b (off + i * sz) z := fun i => by
        by_cases hi : i < len
        · obtain ⟨cs', x', h1, h2, h3⟩ := hc i hi
          obtain ⟨_, h4, h5⟩ := World.cells?_some h1
          obtain ⟨y, hy⟩ := hel n cs' x' b (off + i * sz) (by omega) h2 h3 (fun j u hu => by
            have hj : j < sz := by rw [← h4]; exact (List.getElem?_eq_some_iff.1 hu).1
            have := h5 j hj
            rw [hu] at this
            rwa [addA, addA] at this)
          exact ⟨some y, fun _ => ⟨y, rfl, hy⟩⟩
        · exact ⟨none, fun h => absurd h hi⟩
      obtain ⟨f, hf⟩ := Classical.axiomOfChoice hy
      obtain ⟨z0, hz0, _⟩ := hf 0 hlp
      refine ⟨(List.range len).map fun i => (f i).getD z0, by simp, hl, ⟨hm, hlb⟩, .inr ⟨b, off, rfl, hbl, fun i y hy => ?_⟩⟩
      have hi : i < len := by simpa using (List.getElem?_eq_some_iff.1 hy).1
      rw [List.getElem?_map, List.getElem?_range hi] at hy
      obtain ⟨z, h1, h2⟩ := hf i hi
      simp only [Option.map_some, Option.some.injEq, h1, Option.getD_some] at hy
      subst hy
      exact h2
theorem Tryzcells36 : Tryz.prog.cellsOf 107 = 1 := by kernel_rfl
theorem Tryzcells39 : Tryz.prog.cellsOf 114 = 2 := by kernel_rfl
theorem Tryzcells47 : Tryz.prog.cellsOf 118 = 11 := by kernel_rfl
theorem Tryzcells43 : Tryz.prog.cellsOf 116 = 3 := by kernel_rfl
theorem Tryzcells45 : Tryz.prog.cellsOf 60 = 2 := by kernel_rfl
theorem Tryzcells3 : Tryz.prog.cellsOf 3 = 1 := by kernel_rfl
theorem Tryzcells4 : Tryz.prog.cellsOf 4 = 1 := by kernel_rfl
theorem Tryzcells9 : Tryz.prog.cellsOf 9 = 1 := by kernel_rfl
theorem Tryzcells28 : Tryz.prog.cellsOf 45 = 1 := by kernel_rfl
theorem Tryzcells34 : Tryz.prog.cellsOf 105 = 1 := by kernel_rfl
theorem Tryzcells37 : Tryz.prog.cellsOf 112 = 1 := by kernel_rfl
theorem Tryzbytes36 : 1 ≤ Tryz.prog.bytesOf 107 := of_decide_eq_true (by kernel_rfl)
theorem Tryzbytes39 : 1 ≤ Tryz.prog.bytesOf 114 := of_decide_eq_true (by kernel_rfl)
theorem Tryzbytes47 : 1 ≤ Tryz.prog.bytesOf 118 := of_decide_eq_true (by kernel_rfl)
theorem wt_string {H : Type} {P : Program} {t : TypeId} {bs : List UInt8} (h : Wt (H := H) P t (.lit (.string bs))) : bs.length ≤ 140737488351232 := h _ (by simp [DataW.weights])
set_option maxRecDepth 100000 in
set_option maxHeartbeats 2000000 in
theorem rdL_of_trod {H : Type} {enc : TypeId × Value → H} {W : World} {base : Nat} {spare : Nat → Bool} {held : Bool} : ∀ (k fuel : Nat) (cs : List Value) (x : DataW H × List MemPlace), fuel ≤ k → DataW.trod enc Tryz.prog W base spare held fuel 45 cs = some x → Wt Tryz.prog 45 x.1 →
    ∃ a n c, cs = [.slice a n c] ∧ (a = none → c = 0) ∧ ∃ z : List (List (Int × List (Flat × Lx k))), RdL (· < W.heap.size) (k + 1) W a n c z
  | 0, 0, cs, x, _, h, _ => by simp [DataW.trod] at h
  | k + 1, fuel, cs, x, hk, h, hw => by
    refine rsOf_of_trod 1 Tryz.underlying45 Tryzcells36 (by decide) Tryzbytes36 (ComplexAt (· < W.heap.size) (RdL (· < W.heap.size) (k + 1) W) W) ?_ h hw
    intro f1 cs1 x1 b o hf1 h1 w1 hc1
    obtain ⟨xs1, n1, hn1, hx1, hl1, hxl1, hff1⟩ := DataW.trod_struct Tryz.underlying107 h1
    match xs1, hxl1, cs1, hl1 with
    | [y0], _, [u0], _ =>
      have g0 := hff1 0 _ rfl
      simp [Tryzcells34] at g0
      have w0 : Wt Tryz.prog 105 y0.1 := Wt.agg Tryz.underlying107 (by rw [hx1] at w1; exact w1) 0 _ y0 rfl rfl
      obtain ⟨a1, m1, c1, e1, _, z1, r1⟩ := rsOf_of_trod 2 Tryz.underlying105 Tryzcells39 (by decide) Tryzbytes39 (CompAt (· < W.heap.size) (RdL (· < W.heap.size) (k + 1) W) W) (fun f2 cs2 x2 b o hf2 h2 w2 hc2 => by
        obtain ⟨xs2, n2, hn2, hx2, hl2, hxl2, hff2⟩ := DataW.trod_struct Tryz.underlying114 h2
        match xs2, hxl2, cs2, hl2 with
        | [y0, y1], _, [u0, u1], _ =>
          have g0 := hff2 0 _ rfl
          have g1 := hff2 1 _ rfl
          simp [Tryzcells3, Tryzcells37] at g0 g1
          obtain ⟨q0, d0, _, z0⟩ := DataW.trod_int Tryz.underlying3 g0
          simp at d0
          subst d0
          have w1 : Wt Tryz.prog 112 y1.1 := Wt.agg Tryz.underlying114 (by rw [hx2] at w2; exact w2) 1 _ y1 rfl rfl
          obtain ⟨a2, m2, c2, e2, _, z2, r2⟩ := rsOf_of_trod 11 Tryz.underlying112 Tryzcells47 (by decide) Tryzbytes47 (SimpleAt (RdL (· < W.heap.size) (k + 1) W) W) (fun f3 cs3 x3 b o hf3 h3 w3 hc3 => by
            obtain ⟨xs3, n3, hn3, hx3, hl3, hxl3, hff3⟩ := DataW.trod_struct Tryz.underlying118 h3
            match xs3, hxl3, cs3, hl3 with
            | [y0, y1, y2, y3, y4, y5, y6, y7], _, [u0, u1, u2, u3, u4, u5, u6, u7, u8, u9, u10], _ =>
              have g0 := hff3 0 _ rfl
              have g1 := hff3 1 _ rfl
              have g2 := hff3 2 _ rfl
              have g3 := hff3 3 _ rfl
              have g4 := hff3 4 _ rfl
              have g5 := hff3 5 _ rfl
              have g6 := hff3 6 _ rfl
              have g7 := hff3 7 _ rfl
              simp [Tryzcells3, Tryzcells9, Tryzcells43, Tryzcells45, Tryzcells28] at g0 g1 g2 g3 g4 g5 g6 g7
              have hag : Wt Tryz.prog 118 (.agg (([y0, y1, y2, y3, y4, y5, y6, y7] : List (DataW H × List MemPlace)).map (·.1))) := by rw [hx3] at w3; exact w3
              have wv2 := Wt.agg Tryz.underlying118 hag 2 _ y2 rfl rfl
              have wv3 := Wt.agg Tryz.underlying118 hag 3 _ y3 rfl rfl
              have wv4 := Wt.agg Tryz.underlying118 hag 4 _ y4 rfl rfl
              have wv7 := Wt.agg Tryz.underlying118 hag 7 _ y7 rfl rfl
              obtain ⟨q0, d0, _, _⟩ := DataW.trod_int Tryz.underlying3 g0
              obtain ⟨q1, d1, _, _⟩ := DataW.trod_int Tryz.underlying3 g1
              obtain ⟨q2, d2, v2, _⟩ := DataW.trod_string Tryz.underlying9 g2
              obtain ⟨q3, d3, v3, _⟩ := DataW.trod_string Tryz.underlying9 g3
              obtain ⟨q5, d5, _, _⟩ := DataW.trod_int Tryz.underlying3 g5
              obtain ⟨xs4, n4, _, hx4, _, hxl4, hff4⟩ := DataW.trod_struct Tryz.underlying116 g4
              obtain ⟨xs6, n6, _, hx6, _, hxl6, hff6⟩ := DataW.trod_struct Tryz.underlying60 g6
              obtain ⟨a4, m4, c4, e4, _, z4, r4⟩ := rdL_of_trod k n3 _ _ (by omega) g7 wv7
              simp at d0 d1 d2 d3 d5 e4
              subst d0 d1 d2 d3 d5 e4
              match xs4, hxl4, xs6, hxl6 with
              | [t0, t1, t2], _, [s0, s1], _ =>
                have k0 := hff4 0 _ rfl
                have k1 := hff4 1 _ rfl
                have k2 := hff4 2 _ rfl
                have j0 := hff6 0 _ rfl
                have j1 := hff6 1 _ rfl
                simp [Tryzcells3, Tryzcells4, Tryzcells9] at k0 k1 k2 j0 j1
                have wt1 := Wt.agg Tryz.underlying116 (by rw [hx4] at wv4; exact wv4) 1 _ t1 rfl rfl
                obtain ⟨p0, f0, _, _⟩ := DataW.trod_int Tryz.underlying3 k0
                obtain ⟨p1, f1, v1, _⟩ := DataW.trod_string Tryz.underlying9 k1
                obtain ⟨p2, f2, _⟩ := DataW.trod_bool Tryz.underlying4 k2
                obtain ⟨p3, f3, _, _⟩ := DataW.trod_int Tryz.underlying3 j0
                obtain ⟨p4, f4, _, _⟩ := DataW.trod_int Tryz.underlying3 j1
                simp at f0 f1 f2 f3 f4
                subst f0 f1 f2 f3 f4
                refine ⟨(⟨q0, q1, q2, q3, p0, p1, p2, q5, p3, p4⟩, z4), ⟨hc3 0 _ rfl, hc3 1 _ rfl, hc3 2 _ rfl, hc3 3 _ rfl, hc3 4 _ rfl, hc3 5 _ rfl, hc3 6 _ rfl, hc3 7 _ rfl, hc3 8 _ rfl, hc3 9 _ rfl⟩, a4, m4, c4, hc3 10 _ rfl, r4, ?_, ?_, ?_⟩
                · rw [v2] at wv2; have := wt_string wv2; rwa [Array.length_toList] at this
                · rw [v3] at wv3; have := wt_string wv3; rwa [Array.length_toList] at this
                · rw [v1] at wt1; have := wt_string wt1; rwa [Array.length_toList] at this) g1 w1
          simp at e2
          subst e2
          exact ⟨(q0, z2), hc2 0 _ rfl, a2, m2, c2, hc2 1 _ rfl, r2⟩) g0 w0
      simp at e1
      subst e1
      exact ⟨z1, a1, m1, c1, hc1 0 _ rfl, r1⟩
end
end Go.Proofs.YtcfhggdiccilaaaGreat
