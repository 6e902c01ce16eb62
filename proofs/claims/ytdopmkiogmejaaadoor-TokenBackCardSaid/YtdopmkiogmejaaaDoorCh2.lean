/- A text between marks: what it is (mathematics), and the walk. -/
import Derived.Test.YtdopmkiogmejaaaDoorCh1
namespace Go.Proofs.YtdopmkiogmejaaaDoor
open Go.RowKit
set_option linter.unusedVariables false
set_option linter.unusedSimpArgs false

/-- What a character is written as between marks. -/
def outQ (c : Int) : List Int :=
  if c = 0 then putF 65533
  else if controlB c = true then escF c
  else if c = 34 ∨ c = 92 then 92 :: putF c
  else putF c
def quoteTo (l : List Int) : Nat → List Int
  | 0 => [34]
  | k + 1 => quoteTo l k ++ outQ (l[k]?.getD 0)
def quoteF (l : List Int) : List Int := quoteTo l l.length ++ [34]
theorem outQ_ok (c : Int) (h : rightB c = true) : U8 (outQ c) ∧ (outQ c).length ≤ 6 := by
  have hp := putF_u8 c h
  have hl := putF_len c
  unfold outQ
  split
  · exact ⟨putF_u8 _ (by decide), Nat.le_trans (putF_len _) (by omega)⟩
  split
  · rename_i h0 h1
    exact ⟨escF_u8 (ctl_hexes h1), escF_len c⟩
  split
  · exact ⟨fun z hz => by rcases List.mem_cons.1 hz with rfl | hz; omega; exact hp z hz, by rw [List.length_cons]; omega⟩
  · exact ⟨hp, by omega⟩
theorem quoteTo_ok (l : List Int) (h : ∀ c ∈ l, rightB c = true) : ∀ k, k ≤ l.length → U8 (quoteTo l k) ∧ (quoteTo l k).length ≤ 6 * k + 1
  | 0, _ => ⟨(fun z hz => by simp [quoteTo] at hz; omega), by simp [quoteTo]⟩
  | k + 1, hk => by
    obtain ⟨h1, h2⟩ := quoteTo_ok l h k (by omega)
    have hc : rightB (l[k]?.getD 0) = true := by rw [List.getElem?_eq_getElem (by omega)]; exact h _ (List.getElem_mem _)
    obtain ⟨h3, h4⟩ := outQ_ok _ hc
    refine ⟨fun z hz => (List.mem_append.1 hz).elim (h1 z) (h3 z), ?_⟩
    show (quoteTo l k ++ _).length ≤ _
    rw [List.length_append]; omega

end Go.Proofs.YtdopmkiogmejaaaDoor
