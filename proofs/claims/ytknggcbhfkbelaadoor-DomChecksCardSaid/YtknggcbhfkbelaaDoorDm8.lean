/- A document in new memory: the walk of the law's copied. -/
import Derived.Test.YtknggcbhfkbelaaDoorDm7
namespace Go.Proofs.YtknggcbhfkbelaaDoor
open Go.RowKit
set_option linter.unusedVariables false
set_option linter.unusedSimpArgs false

theorem TrydinfoNode : (Tryd.prog.info? 38).map (fun i => (i.zero, i.size, i.bytes)) = some (some (.agg #[.int .i64 0, .int .i64 0, .string ⟨#[]⟩, .string ⟨#[]⟩, .slice none 0 0, .slice none 0 0, .string ⟨#[]⟩]), 7, 112) := by kernel_rfl
theorem TrydinfoAttr : (Tryd.prog.info? 43).map (fun i => (i.zero, i.size, i.bytes)) = some (some (.agg #[.string ⟨#[]⟩, .string ⟨#[]⟩, .string ⟨#[]⟩]), 3, 48) := by kernel_rfl
theorem TrydinfoStr : (Tryd.prog.info? 9).map (fun i => (i.zero, i.size, i.bytes)) = some (some (.string ⟨#[]⟩), 1, 16) := by kernel_rfl
/-- A document that reads as one, with what a copy has. -/
def CopyP (xs : List Nd) (n : Nat) (w : World) (e : Ending) (w' : World) : Prop := ∃ a c, e = .returned (.slice a n c) ∧ RdN (fun b => w.heap.size ≤ b ∧ b < w'.heap.size ∨ b < w.heap.size) w' a n c xs ∧ Below w.heap.size w w'

/-- What is known when a part of one's own row has been written over behind the append of another row. -/
theorem copy_step {w wr w5 : World} {g : Nat} {cs : List Value} {T T2 T3 : TypeId} {i4 : Nat} (hB : Blk wr g cs T) (hi : i4 < cs.length) (hW : Below w.heap.size w wr) (hg : w.heap.size ≤ g) (hgr : (wr.alloc (.cells #[] T2)).grownBy w5 (some wr.heap.size)) (v : Value) :
    ∃ o4, w5.cell? ⟨g, i4, none⟩ = some o4 ∧ w5.frozen? ⟨g, i4, none⟩ = false ∧ Blk (w5.setCell ⟨g, i4, none⟩ v) g (cs.set i4 v) T ∧ Below w.heap.size w (w5.setCell ⟨g, i4, none⟩ v) ∧
      Below w.heap.size w ((w5.setCell ⟨g, i4, none⟩ v).alloc (.cells #[] T3)) ∧ (w5.setCell ⟨g, i4, none⟩ v).heap.size = w5.heap.size ∧
      ((w5.setCell ⟨g, i4, none⟩ v).alloc (.cells #[] T3)).ownsRow w5.heap.size T3 1 (.slice (some ⟨w5.heap.size, 0, none⟩) 0 0) 0 [] ∧
      (∀ b, b < wr.heap.size → b ≠ g → (w5.setCell ⟨g, i4, none⟩ v).heap[b]? = wr.heap[b]?) ∧ wr.heap.size < w5.heap.size := by
  have hlt := hB.lt
  have hne : (some wr.heap.size : Option Nat) ≠ some g := by intro h; have := Option.some.inj h; omega
  have hB5 : Blk w5 g cs T := (hB.alloc_old _).kept hgr hne
  have hb5 : Below w.heap.size w w5 := (hW.alloc hW.size (.cells #[] T2)).grown hgr (Nat.le_trans hW.size (by simp)) (fun k e => by cases e; exact hW.size)
  obtain ⟨o4, ho4⟩ : ∃ u, cs[i4]? = some u := ⟨_, List.getElem?_eq_getElem hi⟩
  have hb6 := hb5.setCell (p := ⟨g, i4, none⟩) hg v
  have hz : (w5.setCell ⟨g, i4, none⟩ v).heap.size = w5.heap.size := by simp
  have ho := owns_emptyN (base := w5.heap.size) (g := w5.heap.size) 1 (w := (w5.setCell ⟨g, i4, none⟩ v).alloc (.cells #[] T3)) (e := T3) (by have := heap_alloc_new (w5.setCell ⟨g, i4, none⟩ v) (.cells #[] T3); rw [hz] at this; exact this) (Nat.le_refl _)
  refine ⟨o4, hB5.cell _ _ ho4, hB5.frozen _, hB5.setCell i4 v, hb6, hb6.alloc hb6.size _, hz, ho, fun b hb hbg => ?_, by have := hgr.size; simp at this; omega⟩
  rw [Below.heap_setCell w5 ⟨g, i4, none⟩ v b hbg, hgr.block b (by simp; omega) (by intro h; have := Option.some.inj h; omega), Below.heap_alloc wr _ b hb]
theorem vals_weak {n : Nat} {a : Option Addr} {ok : Nat → Prop} {w : World} {vs : List Value} {Y : Nat → Nat → Prop} (h : n = 0 ∨ ∃ b off, a = some ⟨b, off, none⟩ ∧ ok b ∧ (∀ j u, vs[j]? = some u → w.cell? ⟨b, off + j, none⟩ = some u) ∧ Y b off) :
    n = 0 ∨ ∃ b off, a = some ⟨b, off, none⟩ ∧ ∀ (j : Nat) (u : Value), vs[j]? = some u → w.cell? ⟨b, off + j, none⟩ = some u := by
  rcases h with h | ⟨b, off, h1, _, h3, _⟩
  · exact .inl h
  · exact .inr ⟨b, off, h1, h3⟩
/-- All nodes read as they did, when one's lists have been written over by lists that read the same. -/
theorem copy_end {wr w6 w9 : World} {g k n1 n2 c1 c2 : Nat} {cs : List Value} {xs : List Nd} {x : Nd} {ad1 ad2 : Option Addr} (hl : k * 7 + 5 < cs.length) (hx : xs[k]? = some x)
    (hgl : g < wr.heap.size) (h69 : w6.heap.size < w9.heap.size) (hr6 : wr.heap.size < w6.heap.size)
    (hN : ∀ i x, xs[i]? = some x → NdC (fun b => b < wr.heap.size ∧ b ≠ g) wr cs (i * 7) x)
    (h1 : ∀ b, b < wr.heap.size → b ≠ g → w6.heap[b]? = wr.heap[b]?) (h2 : ∀ b, b < w6.heap.size → b ≠ g → w9.heap[b]? = w6.heap[b]?)
    (hA : RdA (fun b => wr.heap.size ≤ b ∧ b < w6.heap.size) w6 ad1 n1 c1 x.attrs) (hS : RdS (fun b => w6.heap.size ≤ b ∧ b < w9.heap.size) w9 ad2 n2 c2 x.states) :
    ∀ i x, xs[i]? = some x → NdC (fun b => b < w9.heap.size ∧ b ≠ g) w9 ((cs.set (k * 7 + 4) (.slice ad1 n1 c1)).set (k * 7 + 5) (.slice ad2 n2 c2)) (i * 7) x := by
  intro i y hy
  have hm : NdC (fun b => b < w9.heap.size ∧ b ≠ g) w9 cs (i * 7) y := (hN i y hy).move (fun b ⟨hb, hbg⟩ => ⟨⟨by omega, hbg⟩, (h2 b (by omega) hbg).trans (h1 b hb hbg)⟩)
  refine (hm.set4 (by omega) (fun e => ?_)).set5 (by rw [List.length_set]; omega) (fun e => ?_)
  · subst e
    rw [hx] at hy; cases hy
    exact hA.move (fun b ⟨hb1, hb2⟩ => ⟨⟨by omega, by omega⟩, h2 b hb2 (by omega)⟩)
  · subst e
    rw [hx] at hy; cases hy
    exact hS.move (fun b ⟨hb1, hb2⟩ => ⟨⟨hb2, by omega⟩, rfl⟩)

end Go.Proofs.YtknggcbhfkbelaaDoor
