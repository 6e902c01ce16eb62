/- Lists of tokens as slices. -/
import Derived.Test.YtdopmkiogmejaaaDoorTm
namespace Go.Proofs.YtdopmkiogmejaaaDoor
open Go.RowKit

/-- A slice reads as a list of tokens. -/
def ReadsT (w : World) (a : Option Addr) (cap : Nat) (ts : List Tk) : Prop :=
  ts.length ≤ cap ∧ cap ≤ maxLen ∧ ∃ b, a = some ⟨b, 0, none⟩ ∧ b < w.heap.size ∧ ∀ j v, (ts.flatMap tkCells)[j]? = some v → w.cell? ⟨b, j, none⟩ = some v
theorem ReadsT.later {w w' : World} {a : Option Addr} {cap : Nat} {ts : List Tk} (h : ReadsT w a cap ts) (hb : Below w.heap.size w w') : ReadsT w' a cap ts := by
  obtain ⟨h1, h2, b, rfl, hlt, hc⟩ := h
  exact ⟨h1, h2, b, rfl, Nat.lt_of_lt_of_le hlt hb.size, fun j v hv => (hb.cell (p := ⟨b, j, none⟩) hlt).trans (hc j v hv)⟩
/-- The post of a call that tells tokens in new memory. -/
def TksPost (ts : List Tk) (w : World) (e : Ending) (w' : World) : Prop := ∃ a cap, e = .returned (.slice a ts.length cap) ∧ ReadsT w' a cap ts ∧ Below w.heap.size w w'

theorem Tryd.infoTok : (Tryd.prog.info? 29).map (fun i => (i.zero, i.size, i.bytes)) = some (some (.agg #[.int .i64 0, .int .i64 0, .int .i64 0, .string ⟨#[]⟩, .string ⟨#[]⟩, .bool false]), 6, 64) := by kernel_rfl

theorem tk_cells (t : Tk) : ∀ u ∈ tkCells t, u.oneCell' = true := by
  intro u hu
  unfold tkCells at hu
  simp only [List.mem_cons, List.not_mem_nil, or_false] at hu
  rcases hu with rfl | rfl | rfl | rfl | rfl | rfl <;> rfl
end Go.Proofs.YtdopmkiogmejaaaDoor
