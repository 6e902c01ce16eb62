/- DecodePrepares: the law's walk. -/
import Derived.Test.YtmcboiopglpbkaaPrep
import Derived.Test.YtmcboiopglpbkaaLines
namespace Go.Proofs.Ytmcboiopglpbkaa
open Go.RowKit

def Clean (z : Int) : Prop := z ≠ 0 ∧ z ≠ 12 ∧ z ≠ 13 ∧ rightB z = true
theorem charOf_clean (c : Int) (h : c ≠ 13) (h' : c ≠ 12) (h0 : c ≠ 0) : Clean (charOf c) := by
  refine ⟨?_, ?_, ?_, charOf_right c⟩ <;> (unfold charOf; split <;> omega)
theorem prepTo_clean (zs : List Int) (k : Nat) : ∀ z ∈ prepTo zs k, Clean z := by
  induction k with
  | zero => intro z hz; simp [prepTo] at hz
  | succ k ih =>
    intro z hz
    rw [prepTo] at hz
    rcases List.mem_append.1 hz with h | h
    · exact ih z h
    · rcases prep_cases zs k with ⟨_, _, _, HP⟩ | ⟨_, _, HP⟩ | ⟨_, _, _, HP⟩ | ⟨_, HP⟩ | ⟨_, HP⟩ | ⟨e1, e2, e3, HP⟩
      all_goals rw [HP] at h; simp at h
      all_goals first | (subst h; exact charOf_clean _ e1 e2 e3) | (subst h; refine ⟨by omega, by omega, by omega, by decide⟩)
theorem prep_same (ys : List Int) (h : ∀ z ∈ ys, Clean z) : prepF ys = ys := by
  have key : ∀ k, k ≤ ys.length → prepTo ys k = ys.take k := by
    intro k
    induction k with
    | zero => intro _; simp [prepTo]
    | succ k ih =>
      intro hk
      have hm : ys[k] ∈ ys := List.getElem_mem hk
      obtain ⟨h0, h12, h13, hr⟩ := h _ hm
      have e : ys[k]?.getD 0 = ys[k] := by rw [List.getElem?_eq_getElem hk]; rfl
      rw [prepTo, ih (by omega), List.take_succ_eq_append_getElem hk]
      congr 1
      rcases prep_cases ys k with ⟨e1, _, _, _⟩ | ⟨e1, _, _⟩ | ⟨e1, _, _, _⟩ | ⟨e1, _⟩ | ⟨e1, _⟩ | ⟨_, _, _, HP⟩
      all_goals first | (rw [e] at e1; omega) | (rw [HP, e]; unfold charOf; rw [if_pos hr])
  unfold prepF
  rw [key _ (Nat.le_refl _), List.take_length]
theorem prepF_clean (zs : List Int) : ∀ z ∈ prepF zs, Clean z := prepTo_clean zs _
theorem prepF_len (zs : List Int) : (prepF zs).length ≤ zs.length := prepTo_len zs _
theorem clean_i64 {zs : List Int} (h : ∀ z ∈ zs, Clean z) : I64 zs := fun z hz => by
  have := right_bd (h z hz).2.2.2; omega

theorem conv_any {P : Program} (w : World) (src e dst : TypeId) (hs : P.underlying src = some (.slice e)) (he : P.underlying e = some (.int .u8)) (hd : P.underlying dst = some .string)
    (a : Option Addr) (n cap : Nat) (zs : List Int) (hn : zs.length = n) (hr : Reads w .u8 a cap zs) : (convert src dst (.slice a n cap)).run P w = .ok (.string (strOfNums zs)) w := by
  by_cases h0 : zs = []
  · subst h0; subst hn
    rw [run_convert_bytes_string w src dst e _ _ cap hs he hd]
    cases a with
    | none => simp [Conv.bytesToString]; rfl
    | some ad => simp [Conv.bytesToString, loadCells, loadCellsFrom]; rfl
  · obtain ⟨b, off, rfl, hat⟩ := hr.2.2.resolve_left h0
    exact run_convert_bytes_arg w src e hs he b off n cap zs hn (fun i hi => by rw [List.getD_eq_getElem?_getD]; exact hat.2 i (by rw [hn]; exact hi)) dst hd
end Go.Proofs.Ytmcboiopglpbkaa
