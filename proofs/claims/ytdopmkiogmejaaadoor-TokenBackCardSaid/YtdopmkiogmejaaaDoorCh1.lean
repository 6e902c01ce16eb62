/- A text as a name: what it is (mathematics), and the walk. -/
import Derived.Test.YtdopmkiogmejaaaDoorCh0
import Derived.Test.YtdopmkiogmejaaaDoorName
namespace Go.Proofs.YtdopmkiogmejaaaDoor
open Go.RowKit
set_option linter.unusedVariables false
set_option linter.unusedSimpArgs false

theorem right_ch {c : Int} (h : rightB c = true) : Ch c := by
  unfold rightB at h; rw [decide_eq_true_iff] at h; exact ⟨h.1, h.2.1⟩
theorem charF_right (ys : List Int) (hz : U8 ys) (h : ys ≠ []) : rightB (charF ys) = true := by
  obtain ⟨g1, g4, gl, g⟩ := read_spec ys hz (List.length_pos_iff.2 h)
  unfold charF
  rcases g with ⟨go, gw, gc⟩ | ⟨go, _⟩
  · rw [if_pos go, gc]
    unfold wholeF at gw
    rw [Bool.and_eq_true] at gw
    exact gw.1
  · rw [go, if_neg (by simp)]; decide
theorem rawN_right : ∀ (f : Nat) (ys : List Int), U8 ys → ∀ c ∈ rawN f ys, rightB c = true
  | 0, _, _, c, hc => by simp [rawN] at hc
  | f + 1, ys, hz, c, hc => by
    by_cases h : ys = []
    · subst h; simp [rawN] at hc
    · have e : rawN (f + 1) ys = charF ys :: rawN f (ys.drop (sizeF ys)) := by
        cases ys with
        | nil => exact absurd rfl h
        | cons y ys => rfl
      rw [e] at hc
      rcases List.mem_cons.1 hc with rfl | hc
      · exact charF_right ys hz h
      · exact rawN_right f _ (hz.drop _) c hc
theorem rawF_right (ys : List Int) (hz : U8 ys) (c : Int) (hc : c ∈ rawF ys) : rightB c = true := rawN_right _ ys hz c hc
theorem rawN_len : ∀ (f : Nat) (ys : List Int), (rawN f ys).length ≤ f
  | 0, _ => by simp [rawN]
  | f + 1, ys => by
    by_cases h : ys = []
    · subst h; simp [rawN]
    · have e : rawN (f + 1) ys = charF ys :: rawN f (ys.drop (sizeF ys)) := by
        cases ys with
        | nil => exact absurd rfl h
        | cons y ys => rfl
      rw [e, List.length_cons]
      have := rawN_len f (ys.drop (sizeF ys))
      omega
theorem rawF_len (ys : List Int) : (rawF ys).length ≤ ys.length := rawN_len _ ys

/-- Is a place one of a name's first ones? -/
def firstB (l : List Int) (i : Nat) : Bool := decide (i = 0) || (decide (i = 1) && decide (l[0]?.getD 0 = 45))
/-- What a character is written as in a name. -/
def outI (l : List Int) (i : Nat) (c : Int) : List Int :=
  if c = 0 then putF 65533
  else if (controlB c || decide (c = 65279) || (digitB c && firstB l i)) = true then escF c
  else if (!nameB c || (decide (c = 45) && decide (l.length = 1))) = true then 92 :: putF c
  else putF c
def identTo (l : List Int) : Nat → List Int
  | 0 => []
  | k + 1 => identTo l k ++ outI l k (l[k]?.getD 0)
def identF (l : List Int) : List Int := identTo l l.length

theorem ctl_hexes {c : Int} (h : controlB c = true) : Hexes c := by
  unfold controlB at h; rw [decide_eq_true_iff] at h; exact ⟨by omega, by omega⟩
theorem dig_hexes {c : Int} (h : digitB c = true) : Hexes c := by
  unfold digitB at h; rw [decide_eq_true_iff] at h; exact ⟨by omega, by omega⟩
theorem escF_u8 {c : Int} (h : Hexes c) : U8 (escF c) := by
  unfold escF
  intro z hz
  rcases List.mem_append.1 hz with hz | hz
  · rcases List.mem_append.1 hz with hz | hz
    · simp at hz; omega
    · exact hexF_u8 c h z hz
  · simp at hz; omega
theorem escF_len (c : Int) : (escF c).length ≤ 6 := by
  have := hexF_len c
  unfold escF; rw [List.length_append, List.length_append]; simp; omega
theorem outI_ok (l : List Int) (i : Nat) (c : Int) (h : rightB c = true) : U8 (outI l i c) ∧ (outI l i c).length ≤ 6 := by
  have hp := putF_u8 c h
  have hl := putF_len c
  unfold outI
  split
  · exact ⟨putF_u8 _ (by decide), Nat.le_trans (putF_len _) (by omega)⟩
  split
  · rename_i h0 h1
    have hx : Hexes c := by
      rw [Bool.or_eq_true, Bool.or_eq_true, Bool.and_eq_true] at h1
      rcases h1 with (h1 | h1) | h1
      · exact ctl_hexes h1
      · rw [decide_eq_true_iff] at h1; subst h1; exact ⟨by omega, by omega⟩
      · exact dig_hexes h1.1
    exact ⟨escF_u8 hx, escF_len c⟩
  split
  · exact ⟨fun z hz => by rcases List.mem_cons.1 hz with rfl | hz; omega; exact hp z hz, by rw [List.length_cons]; omega⟩
  · exact ⟨hp, by omega⟩
theorem identTo_ok (l : List Int) (h : ∀ c ∈ l, rightB c = true) : ∀ k, k ≤ l.length → U8 (identTo l k) ∧ (identTo l k).length ≤ 6 * k
  | 0, _ => ⟨(fun z hz => by cases hz), by simp [identTo]⟩
  | k + 1, hk => by
    obtain ⟨h1, h2⟩ := identTo_ok l h k (by omega)
    have hc : rightB (l[k]?.getD 0) = true := by rw [List.getElem?_eq_getElem (by omega)]; exact h _ (List.getElem_mem _)
    obtain ⟨h3, h4⟩ := outI_ok l k _ hc
    refine ⟨fun z hz => (List.mem_append.1 hz).elim (h1 z) (h3 z), ?_⟩
    show (identTo l k ++ _).length ≤ _
    rw [List.length_append]; omega

end Go.Proofs.YtdopmkiogmejaaaDoor
