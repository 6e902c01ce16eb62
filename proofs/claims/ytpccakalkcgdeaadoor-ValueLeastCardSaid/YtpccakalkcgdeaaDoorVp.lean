/- Whether a condition holds of a value, by the document: the walk. -/
import Derived.Test.YtpccakalkcgdeaaDoorVo
namespace Go.Proofs.YtpccakalkcgdeaaDoor
open Go.RowKit
set_option linter.unusedVariables false
set_option linter.unusedSimpArgs false

theorem cellsC {w : World} {p : Nat} {x y z : Value} (h : Blk w p [x, y, z] 34) : w.cell? ⟨p, 0, none⟩ = some x ∧ w.cell? ⟨p, 1, none⟩ = some y ∧ w.cell? ⟨p, 2, none⟩ = some z := ⟨h.cell 0 _ rfl, h.cell 1 _ rfl, h.cell 2 _ rfl⟩
theorem size45' (x : ByteArray) : (x ++ (⟨#[45]⟩ : ByteArray)).size = x.size + 1 := by rw [ByteArray.size_append]; rfl
/-- The texts lie where a slice says. -/
def CellsOf (ss : List ByteArray) (v : Value) (n : Nat) (w : World) : Prop := ∀ (j : Nat) (x : ByteArray), ss[j]? = some x → ∃ g cap, v = .slice (some ⟨g, 0, none⟩) n cap ∧ n ≤ cap ∧ w.cell? ⟨g, j, none⟩ = some (.string x)
theorem cellsOf_own {ss : List ByteArray} {v : Value} {n : Nat} {w : World} {base : Nat} {e : TypeId} (hn : ss.length = n) (h : w.ownsRow base e 1 v n (ss.map Value.string)) : CellsOf ss v n w := by
  intro j x hj
  rcases h.2 with ⟨_, h0'⟩ | ⟨g, cap, cur, rfl, hg, hh, hnc, _⟩
  · have hnil : ss = [] := List.length_eq_zero_iff.1 (hn.trans h0')
    rw [hnil] at hj; simp at hj
  · refine ⟨g, cap, rfl, hnc, ?_⟩
    have hx := h.cells (g := g) rfl j (.string x) (by rw [List.getElem?_map, hj]; rfl)
    rw [← hx]; congr 1; unfold Addr.add; simp <;> omega
/-- Is a text among the first of some texts? -/
def amongK (ss : List ByteArray) (t : ByteArray) (k : Nat) : Bool := (ss.take k).any fun x => decide (strB x = strB t)
theorem amongK_succ (ss : List ByteArray) (t x : ByteArray) (k : Nat) (h : ss[k]? = some x) : amongK ss t (k + 1) = (amongK ss t k || (x.toList == t.toList)) := by
  unfold amongK
  rw [List.take_add_one, h, list_beq, List.any_append]
  simp
theorem amongK_all (ss : List ByteArray) (t : ByteArray) : amongK ss t ss.length = decide (strB t ∈ ss.map strB) := by
  unfold amongK
  rw [List.take_length, Bool.eq_iff_iff, List.any_eq_true, decide_eq_true_eq, List.mem_map]
  constructor
  · rintro ⟨x, hx, he⟩
    exact ⟨x, hx, by simpa using he⟩
  · rintro ⟨x, hx, he⟩
    exact ⟨x, hx, by simpa using he⟩
end Go.Proofs.YtpccakalkcgdeaaDoor
