/- A constant text as bytes: its block is marked. -/
import Derived.Test.YtdopmkiogmejaaaDoorTm
namespace Go.Proofs.YtdopmkiogmejaaaDoor
open Go.RowKit

theorem freeze_new (w : World) (C : Array Value) (e : TypeId) (m : Nat) : (w.alloc (.cells C e)).freeze ⟨w.heap.size, m, none⟩ 1 = w.alloc (.cells C e (m, m + 1)) := by
  have hm : ∀ (a : Array Obj) (x : Obj) (f : Obj → Obj), (a.push x).modify a.size f = a.push (f x) := by
    intro a x f
    apply Array.ext
    · simp
    · intro i h1 h2
      simp only [Array.getElem_modify, Array.getElem_push]
      by_cases h : a.size = i
      · subst h
        simp
      · have hi : i < a.size := by simp at h1; omega
        simp [h, hi]
  unfold World.freeze
  rw [if_neg (by decide)]
  show ({ w.alloc (.cells C e) with heap := (w.heap.push (.cells C e)).modify w.heap.size _ } : World) = _
  rw [hm]
  rfl
theorem conv_bytes (w : World) (C : Array Value) (n c : Nat) : (convert 24 24 (.slice (some ⟨w.heap.size, 0, none⟩) n c)).run Tryd.prog (w.alloc (.cells C 5)) = .ok (.slice (some ⟨w.heap.size, 0, none⟩) n c) (w.alloc (.cells C 5 (C.size, C.size + 1))) := by
  have hsh : (w.alloc (.cells C 5)).shape? w.heap.size = some (5, C.size) := by
    have : (w.alloc (.cells C 5)).heap[w.heap.size]? = some (.cells C 5) := by
      show (w.heap.push (.cells C 5))[w.heap.size]? = _
      simp
    unfold World.shape?
    rw [this]
  simp [convert, run_underlying Tryd.underlying24, run_underlying Tryd.underlying5, markStringish, hsh, freeze_new]
/-- A block of numbers, marked as a string's bytes. -/
theorem reads_marked (w : World) (k : IntKind) (zs : List Int) (T : TypeId) (m : Nat × Nat) (n : Nat) (hn : zs.length = n) (hm : n ≤ maxLen) : Reads (w.alloc (.cells (zs.map (Value.int k)).toArray T m)) k (some ⟨w.heap.size, 0, none⟩) n zs := by
  subst hn
  refine ⟨Nat.le_refl _, hm, .inr ⟨_, _, rfl, by simp, fun j hj => ?_⟩⟩
  have hh := heap_alloc_new w (.cells (zs.map (Value.int k)).toArray T m)
  rw [Nat.zero_add]
  simp only [World.cell?, hh]
  simp [List.getElem?_eq_getElem hj]
end Go.Proofs.YtdopmkiogmejaaaDoor
