/- Selectors as values, nested to some depth, and how they lie in memory. -/
import Derived.Test.YtfgnepbpfglepaaKit
namespace Go.Proofs.Ytfgnepbpfglepaa
open Go.RowKit

/-- What a simple selector has, but for the list within it. -/
structure Flat where
  kind : Int
  ns : Int
  pre : ByteArray
  name : ByteArray
  op : Int
  text : ByteArray
  fold : Bool
  mark : Int
  a : Int
  b : Int
deriving DecidableEq

/-- Lists of selectors of some depth: of compounds: of simple selectors, with the lists within these. -/
def Lx : Nat → Type
  | 0 => Unit
  | d + 1 => List (List (Int × List (Flat × Lx d)))

/-- A slice whose parts, of so many cells each, lie as they are told, in a block of which something holds. -/
def RdOf {α : Type} (ok : Nat → Prop) (sz : Nat) (P : Nat → Nat → α → Prop) (a : Option Addr) (n c : Nat) (xs : List α) : Prop :=
  n = xs.length ∧ n ≤ c ∧ (c ≤ maxLen ∧ n ≤ 140737488351232) ∧ (xs = [] ∨ ∃ b off, a = some ⟨b, off, none⟩ ∧ ok b ∧ ∀ i x, xs[i]? = some x → P b (off + i * sz) x)
theorem RdOf.imp {α : Type} {ok ok' : Nat → Prop} {sz : Nat} {P P' : Nat → Nat → α → Prop} {a : Option Addr} {n c : Nat} {xs : List α} (h : RdOf ok sz P a n c xs) (ho : ∀ b, ok b → ok' b) (hp : ∀ b o x, ok b → P b o x → P' b o x) : RdOf ok' sz P' a n c xs := by
  obtain ⟨h1, h2, h3, h4⟩ := h
  refine ⟨h1, h2, h3, ?_⟩
  rcases h4 with h4 | ⟨b, off, rfl, hb, hi⟩
  · exact .inl h4
  · exact .inr ⟨b, off, rfl, ho _ hb, fun i x hx => hp _ _ _ hb (hi i x hx)⟩
theorem RdOf.at {α : Type} {ok : Nat → Prop} {sz : Nat} {P : Nat → Nat → α → Prop} {a : Option Addr} {n c : Nat} {xs : List α} (h : RdOf ok sz P a n c xs) (i : Nat) (x : α) (hx : xs[i]? = some x) : ∃ b off, a = some ⟨b, off, none⟩ ∧ ok b ∧ P b (off + i * sz) x := by
  rcases h.2.2.2 with h4 | ⟨b, off, rfl, hb, hi⟩
  · subst h4; simp at hx
  · exact ⟨b, off, rfl, hb, hi i x hx⟩

def FlatAt (w : World) (b o : Nat) (f : Flat) : Prop :=
  w.cell? ⟨b, o, none⟩ = some (.int .i64 f.kind) ∧ w.cell? ⟨b, o + 1, none⟩ = some (.int .i64 f.ns) ∧ w.cell? ⟨b, o + 2, none⟩ = some (.string f.pre) ∧ w.cell? ⟨b, o + 3, none⟩ = some (.string f.name) ∧
  w.cell? ⟨b, o + 4, none⟩ = some (.int .i64 f.op) ∧ w.cell? ⟨b, o + 5, none⟩ = some (.string f.text) ∧ w.cell? ⟨b, o + 6, none⟩ = some (.bool f.fold) ∧ w.cell? ⟨b, o + 7, none⟩ = some (.int .i64 f.mark) ∧
  w.cell? ⟨b, o + 8, none⟩ = some (.int .i64 f.a) ∧ w.cell? ⟨b, o + 9, none⟩ = some (.int .i64 f.b)
/-- The texts are no greater than what comes in may be. -/
def FlatOk (f : Flat) : Prop := f.pre.size ≤ 140737488351232 ∧ f.name.size ≤ 140737488351232 ∧ f.text.size ≤ 140737488351232
def SimpleAt {L : Type} (R : Option Addr → Nat → Nat → L → Prop) (w : World) (b o : Nat) (s : Flat × L) : Prop :=
  FlatAt w b o s.1 ∧ ∃ a n c, w.cell? ⟨b, o + 10, none⟩ = some (.slice a n c) ∧ R a n c s.2 ∧ FlatOk s.1
def CompAt {L : Type} (ok : Nat → Prop) (R : Option Addr → Nat → Nat → L → Prop) (w : World) (b o : Nat) (k : Int × List (Flat × L)) : Prop :=
  w.cell? ⟨b, o, none⟩ = some (.int .i64 k.1) ∧ ∃ a n c, w.cell? ⟨b, o + 1, none⟩ = some (.slice a n c) ∧ RdOf ok 11 (SimpleAt R w) a n c k.2
/-- A selector: a slice of compounds. -/
def RdX {L : Type} (ok : Nat → Prop) (R : Option Addr → Nat → Nat → L → Prop) (w : World) (a : Option Addr) (n c : Nat) (x : List (Int × List (Flat × L))) : Prop :=
  RdOf ok 2 (CompAt ok R w) a n c x
def ComplexAt {L : Type} (ok : Nat → Prop) (R : Option Addr → Nat → Nat → L → Prop) (w : World) (b o : Nat) (x : List (Int × List (Flat × L))) : Prop :=
  ∃ a n c, w.cell? ⟨b, o, none⟩ = some (.slice a n c) ∧ RdX ok R w a n c x
/-- A slice reads as a list of selectors. -/
def RdL (ok : Nat → Prop) : (d : Nat) → World → Option Addr → Nat → Nat → Lx d → Prop
  | 0, _, _, n, c, _ => n = 0 ∧ c ≤ maxLen
  | d + 1, w, a, n, c, x => RdOf ok 1 (ComplexAt ok (RdL ok d w) w) a n c x

theorem cell_same {w w' : World} {b : Nat} (h : w'.heap[b]? = w.heap[b]?) (o : Nat) : w'.cell? ⟨b, o, none⟩ = w.cell? ⟨b, o, none⟩ := by unfold World.cell?; simp [h]
theorem FlatAt.move {w w' : World} {b o : Nat} {f : Flat} (h : FlatAt w b o f) (hb : w'.heap[b]? = w.heap[b]?) : FlatAt w' b o f := by
  unfold FlatAt at *; simp only [cell_same hb]; exact h
theorem SimpleAt.move {L : Type} {R R' : Option Addr → Nat → Nat → L → Prop} {w w' : World} {b o : Nat} {s : Flat × L} (h : SimpleAt R w b o s) (hb : w'.heap[b]? = w.heap[b]?) (hR : ∀ a n c x, R a n c x → R' a n c x) : SimpleAt R' w' b o s := by
  obtain ⟨h1, a, n, c, h2, h3, h4⟩ := h
  exact ⟨h1.move hb, a, n, c, (cell_same hb _).trans h2, hR _ _ _ _ h3, h4⟩
theorem CompAt.move {L : Type} {ok ok' : Nat → Prop} {R R' : Option Addr → Nat → Nat → L → Prop} {w w' : World} {b o : Nat} {k : Int × List (Flat × L)} (h : CompAt ok R w b o k) (hb : w'.heap[b]? = w.heap[b]?) (ho : ∀ b, ok b → ok' b ∧ w'.heap[b]? = w.heap[b]?) (hR : ∀ a n c x, R a n c x → R' a n c x) : CompAt ok' R' w' b o k := by
  obtain ⟨h1, a, n, c, h2, h3⟩ := h
  exact ⟨(cell_same hb _).trans h1, a, n, c, (cell_same hb _).trans h2, h3.imp (fun b hb => (ho b hb).1) (fun _ _ _ hb hx => hx.move (ho _ hb).2 hR)⟩
theorem RdX.move {L : Type} {ok ok' : Nat → Prop} {R R' : Option Addr → Nat → Nat → L → Prop} {w w' : World} {a : Option Addr} {n c : Nat} {x : List (Int × List (Flat × L))} (h : RdX ok R w a n c x) (ho : ∀ b, ok b → ok' b ∧ w'.heap[b]? = w.heap[b]?) (hR : ∀ a n c x, R a n c x → R' a n c x) : RdX ok' R' w' a n c x :=
  RdOf.imp h (fun b hb => (ho b hb).1) (fun _ _ _ hb hx => hx.move (ho _ hb).2 ho hR)
theorem RdL.move {ok ok' : Nat → Prop} {w w' : World} (ho : ∀ b, ok b → ok' b ∧ w'.heap[b]? = w.heap[b]?) : ∀ {d : Nat} {a : Option Addr} {n c : Nat} {x : Lx d}, RdL ok d w a n c x → RdL ok' d w' a n c x
  | 0, _, _, _, _, h => h
  | d + 1, a, n, c, x, h => by
    have h : RdOf ok 1 (ComplexAt ok (RdL ok d w) w) a n c (show List (List (Int × List (Flat × Lx d))) from x) := h
    refine RdOf.imp h (fun b hb => (ho b hb).1) (fun _ _ _ hb hx => ?_)
    obtain ⟨a, n, c, h1, h2⟩ := hx
    exact ⟨a, n, c, (cell_same (ho _ hb).2 _).trans h1, h2.move ho (fun _ _ _ _ h => RdL.move ho h)⟩
theorem RdL.later {w w' : World} {B : Nat} (hb : Below B w w') (hB : B ≤ w.heap.size) {d : Nat} {a : Option Addr} {n c : Nat} {x : Lx d} (h : RdL (· < B) d w a n c x) : RdL (· < w'.heap.size) d w' a n c x :=
  RdL.move (fun b h => ⟨Nat.lt_of_lt_of_le h (Nat.le_trans hB hb.size), hb.block b h⟩) h
theorem RdX.later {w w' : World} {B : Nat} (hb : Below B w w') (hB : B ≤ w.heap.size) {d : Nat} {a : Option Addr} {n c : Nat} {x : List (Int × List (Flat × Lx d))} (h : RdX (· < B) (RdL (· < B) d w) w a n c x) : RdX (· < w'.heap.size) (RdL (· < w'.heap.size) d w') w' a n c x :=
  RdX.move h (fun b h => ⟨Nat.lt_of_lt_of_le h (Nat.le_trans hB hb.size), hb.block b h⟩) (fun _ _ _ _ h => RdL.later hb hB h)

/-- A simple selector as a value. -/
def sval (f : Flat) (a : Option Addr) (n c : Nat) : Value :=
  .agg #[.int .i64 f.kind, .int .i64 f.ns, .string f.pre, .string f.name, .int .i64 f.op, .string f.text, .bool f.fold, .int .i64 f.mark, .int .i64 f.a, .int .i64 f.b, .slice a n c]
/-- The simple selectors of a list, in their order. -/
def simplesX {L : Type} (x : List (Int × List (Flat × L))) : List (Flat × L) := x.flatMap (·.2)
def simplesL {L : Type} (x : List (List (Int × List (Flat × L)))) : List (Flat × L) := x.flatMap simplesX
end Go.Proofs.Ytfgnepbpfglepaa
