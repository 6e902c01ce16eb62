/- Documents as values, and how they lie in memory. -/
import Derived.Test.YtfgnepbpfglepaaKit
namespace Go.Proofs.Ytfgnepbpfglepaa
open Go.RowKit

/-- A slice whose parts, of so many cells each, lie as they are told, in a block of which something holds. -/
def RdOf {α : Type} (ok : Nat → Prop) (sz : Nat) (P : Nat → Nat → α → Prop) (a : Option Addr) (n c : Nat) (xs : List α) : Prop :=
  n = xs.length ∧ n ≤ c ∧ (c ≤ maxLen ∧ n ≤ 140737488351232 ∧ (a = none → c = 0)) ∧ (xs = [] ∨ ∃ b off, a = some ⟨b, off, none⟩ ∧ ok b ∧ ∀ i x, xs[i]? = some x → P b (off + i * sz) x)
theorem RdOf.imp {α : Type} {ok ok' : Nat → Prop} {sz : Nat} {P P' : Nat → Nat → α → Prop} {a : Option Addr} {n c : Nat} {xs : List α} (h : RdOf ok sz P a n c xs) (ho : ∀ b, ok b → ok' b) (hp : ∀ b o x, ok b → P b o x → P' b o x) : RdOf ok' sz P' a n c xs := by
  obtain ⟨h1, h2, h3, h4⟩ := h
  refine ⟨h1, h2, h3, ?_⟩
  rcases h4 with h4 | ⟨b, off, rfl, hb, hi⟩
  · exact .inl h4
  · exact .inr ⟨b, off, rfl, ho _ hb, fun i x hx => hp _ _ _ hb (hi i x hx)⟩
theorem RdOf.at {α : Type} {ok : Nat → Prop} {sz : Nat} {P : Nat → Nat → α → Prop} {a : Option Addr} {n c : Nat} {xs : List α} (h : RdOf ok sz P a n c xs) (i : Nat) (x : α) (hx : xs[i]? = some x) : ∃ b off, a = some ⟨b, off, none⟩ ∧ ok b ∧ P b (off + i * sz) x := by
  rcases h.2.2.2 with h4 | ⟨b, off, rfl, hb, hi⟩
  · subst h4; simp at hx
  · exact ⟨b, off, rfl, hb, hi i x hx⟩
theorem RdOf.nil {α : Type} (ok : Nat → Prop) (sz : Nat) (P : Nat → Nat → α → Prop) (a : Option Addr) (c : Nat) (hc : c ≤ maxLen) (ha : a = none → c = 0) : RdOf ok sz P a 0 c [] := ⟨rfl, Nat.zero_le _, ⟨hc, by decide, ha⟩, .inl rfl⟩

/-- An attribute: space, name, value. -/
structure At3 where
  space : ByteArray
  name : ByteArray
  val : ByteArray
deriving DecidableEq
/-- A node. -/
structure Nd where
  par : Int
  kind : Int
  space : ByteArray
  name : ByteArray
  attrs : List At3
  states : List ByteArray
  text : ByteArray
deriving DecidableEq

def StrAt (w : World) (b o : Nat) (s : ByteArray) : Prop := w.cell? ⟨b, o, none⟩ = some (.string s) ∧ s.size ≤ 140737488351232
def AttrAt (w : World) (b o : Nat) (t : At3) : Prop :=
  w.cell? ⟨b, o, none⟩ = some (.string t.space) ∧ w.cell? ⟨b, o + 1, none⟩ = some (.string t.name) ∧ w.cell? ⟨b, o + 2, none⟩ = some (.string t.val) ∧ t.space.size ≤ 140737488351232 ∧ t.name.size ≤ 140737488351232 ∧ t.val.size ≤ 140737488351232
def RdS (ok : Nat → Prop) (w : World) (a : Option Addr) (n c : Nat) (xs : List ByteArray) : Prop := RdOf ok 1 (StrAt w) a n c xs
def RdA (ok : Nat → Prop) (w : World) (a : Option Addr) (n c : Nat) (xs : List At3) : Prop := RdOf ok 3 (AttrAt w) a n c xs
def NodeAt (ok : Nat → Prop) (w : World) (b o : Nat) (x : Nd) : Prop :=
  w.cell? ⟨b, o, none⟩ = some (.int .i64 x.par) ∧ w.cell? ⟨b, o + 1, none⟩ = some (.int .i64 x.kind) ∧ w.cell? ⟨b, o + 2, none⟩ = some (.string x.space) ∧ w.cell? ⟨b, o + 3, none⟩ = some (.string x.name) ∧
  (∃ a n c, w.cell? ⟨b, o + 4, none⟩ = some (.slice a n c) ∧ RdA ok w a n c x.attrs) ∧ (∃ a n c, w.cell? ⟨b, o + 5, none⟩ = some (.slice a n c) ∧ RdS ok w a n c x.states) ∧
  w.cell? ⟨b, o + 6, none⟩ = some (.string x.text) ∧ x.space.size ≤ 140737488351232 ∧ x.name.size ≤ 140737488351232 ∧ x.text.size ≤ 140737488351232
def RdN (ok : Nat → Prop) (w : World) (a : Option Addr) (n c : Nat) (xs : List Nd) : Prop := RdOf ok 7 (NodeAt ok w) a n c xs

theorem cell_same {w w' : World} {b : Nat} (h : w'.heap[b]? = w.heap[b]?) (o : Nat) : w'.cell? ⟨b, o, none⟩ = w.cell? ⟨b, o, none⟩ := by unfold World.cell?; simp [h]
theorem StrAt.move {w w' : World} {b o : Nat} {s : ByteArray} (h : StrAt w b o s) (hb : w'.heap[b]? = w.heap[b]?) : StrAt w' b o s := by unfold StrAt at *; simp only [cell_same hb]; exact h
theorem AttrAt.move {w w' : World} {b o : Nat} {s : At3} (h : AttrAt w b o s) (hb : w'.heap[b]? = w.heap[b]?) : AttrAt w' b o s := by unfold AttrAt at *; simp only [cell_same hb]; exact h
theorem RdS.move {ok ok' : Nat → Prop} {w w' : World} (ho : ∀ b, ok b → ok' b ∧ w'.heap[b]? = w.heap[b]?) {a : Option Addr} {n c : Nat} {x : List ByteArray} (h : RdS ok w a n c x) : RdS ok' w' a n c x := RdOf.imp h (fun b hb => (ho b hb).1) (fun _ _ _ hb hx => hx.move (ho _ hb).2)
theorem RdA.move {ok ok' : Nat → Prop} {w w' : World} (ho : ∀ b, ok b → ok' b ∧ w'.heap[b]? = w.heap[b]?) {a : Option Addr} {n c : Nat} {x : List At3} (h : RdA ok w a n c x) : RdA ok' w' a n c x := RdOf.imp h (fun b hb => (ho b hb).1) (fun _ _ _ hb hx => hx.move (ho _ hb).2)
theorem NodeAt.move {ok ok' : Nat → Prop} {w w' : World} (ho : ∀ b, ok b → ok' b ∧ w'.heap[b]? = w.heap[b]?) {b o : Nat} {x : Nd} (hb : w'.heap[b]? = w.heap[b]?) (h : NodeAt ok w b o x) : NodeAt ok' w' b o x := by
  obtain ⟨h0, h1, h2, h3, ⟨a, n, c, h4, h4'⟩, ⟨a', n', c', h5, h5'⟩, h6, h7⟩ := h
  unfold NodeAt
  simp only [cell_same hb]
  exact ⟨h0, h1, h2, h3, ⟨a, n, c, h4, h4'.move ho⟩, ⟨a', n', c', h5, h5'.move ho⟩, h6, h7⟩
theorem RdN.move {ok ok' : Nat → Prop} {w w' : World} (ho : ∀ b, ok b → ok' b ∧ w'.heap[b]? = w.heap[b]?) {a : Option Addr} {n c : Nat} {x : List Nd} (h : RdN ok w a n c x) : RdN ok' w' a n c x := RdOf.imp h (fun b hb => (ho b hb).1) (fun _ _ _ hb hx => hx.move ho (ho _ hb).2)
theorem RdN.later {w w' : World} {B : Nat} (hb : Below B w w') (hB : B ≤ w.heap.size) {a : Option Addr} {n c : Nat} {x : List Nd} (h : RdN (· < B) w a n c x) : RdN (· < w'.heap.size) w' a n c x :=
  RdN.move (fun b h => ⟨Nat.lt_of_lt_of_le h (Nat.le_trans hB hb.size), hb.block b h⟩) h
theorem RdA.later {w w' : World} {B : Nat} (hb : Below B w w') (hB : B ≤ w.heap.size) {a : Option Addr} {n c : Nat} {x : List At3} (h : RdA (· < B) w a n c x) : RdA (· < w'.heap.size) w' a n c x :=
  RdA.move (fun b h => ⟨Nat.lt_of_lt_of_le h (Nat.le_trans hB hb.size), hb.block b h⟩) h
theorem RdS.later {w w' : World} {B : Nat} (hb : Below B w w') (hB : B ≤ w.heap.size) {a : Option Addr} {n c : Nat} {x : List ByteArray} (h : RdS (· < B) w a n c x) : RdS (· < w'.heap.size) w' a n c x :=
  RdS.move (fun b h => ⟨Nat.lt_of_lt_of_le h (Nat.le_trans hB hb.size), hb.block b h⟩) h

def nval (x : Nd) (a : Option Addr) (n c : Nat) (a' : Option Addr) (n' c' : Nat) : Value :=
  .agg #[.int .i64 x.par, .int .i64 x.kind, .string x.space, .string x.name, .slice a n c, .slice a' n' c', .string x.text]
/-- Are two texts, lists of texts, of attributes, nodes, documents, one? -/
def strEq (a b : ByteArray) : Bool := decide (a = b)
def listEq {α : Type} [DecidableEq α] (a b : List α) : Bool := decide (a = b)
theorem str_beq (a b : ByteArray) : (a.toList == b.toList) = decide (a = b) := by
  rw [ByteArray.toList_eq, ByteArray.toList_eq, Bool.eq_iff_iff, beq_iff_eq, decide_eq_true_iff]
  constructor
  · intro h
    cases a; cases b
    simp at h
    rw [h]
  · intro h; rw [h]
end Go.Proofs.Ytfgnepbpfglepaa
