/- What strings.ReplaceAll tells where one byte is replaced (mathematics). -/
import Derived.Lib.Replace
import Derived.Lib.IndexBytes
import Derived.Lib.CountLaws
namespace Go.Proofs.YtdopmkiogmejaaaDoor
open Go

theorem index_same (c : UInt8) (l : List UInt8) : Lib.index (c :: l) [c] = 0 := by
  unfold Lib.index
  simp [List.isPrefixOf]
theorem index_other {b c : UInt8} (h : b ≠ c) (l : List UInt8) : Lib.index (b :: l) [c] = if Lib.index l [c] == -1 then -1 else Lib.index l [c] + 1 := by
  rw [Lib.index]
  have : ([c] : List UInt8).isPrefixOf (b :: l) = false := by simp [List.isPrefixOf]; exact fun e => h e.symm
  rw [this]; simp

theorem count_same (c : UInt8) (l : List UInt8) : Lib.count (c :: l) [c] = 1 + Lib.count l [c] :=
  Lib.count_hit (i := 0) (by simp) (index_same c l)
theorem count_other {b c : UInt8} (h : b ≠ c) (l : List UInt8) : Lib.count (b :: l) [c] = Lib.count l [c] := by
  have hi := index_other h l
  by_cases hm : Lib.index l [c] = -1
  · rw [Lib.count_miss hm, Lib.count_miss (by rw [hi, hm]; rfl)]
  · have hge := Lib.index_ge l [c]
    obtain ⟨i, hi2⟩ : ∃ i : Nat, Lib.index l [c] = i := ⟨(Lib.index l [c]).toNat, by omega⟩
    have hq : (Lib.index l [c] == -1) = false := beq_eq_false_iff_ne.2 hm
    rw [hq, hi2] at hi
    rw [Lib.count_hit (i := i) (by simp) hi2, Lib.count_hit (i := i + 1) (by simp) (by rw [hi]; simp)]
    rfl
theorem replaceK_other {b c : UInt8} (h : b ≠ c) (new : List UInt8) (k : Nat) (l : List UInt8) : Lib.replaceK [c] new k (b :: l) = b :: Lib.replaceK [c] new k l := by
  cases k with
  | zero => rfl
  | succ k =>
    have hi := index_other h l
    by_cases hm : Lib.index l [c] = -1
    · rw [Lib.replaceK, Lib.replaceK, if_pos (beq_iff_eq.2 hm), if_pos (by rw [hi, hm]; rfl)]
    · have hge := Lib.index_ge l [c]
      obtain ⟨i, hi2⟩ : ∃ i : Nat, Lib.index l [c] = i := ⟨(Lib.index l [c]).toNat, by omega⟩
      have hq : (Lib.index l [c] == -1) = false := beq_eq_false_iff_ne.2 hm
      rw [hq, hi2] at hi
      rw [Lib.replaceK_hit _ _ _ _ i hi2, Lib.replaceK_hit _ _ _ _ (i + 1) (by rw [hi]; simp)]
      rfl
theorem replaceK_one (c : UInt8) (new : List UInt8) : ∀ (s : List UInt8) (k : Nat), Lib.count s [c] ≤ k → Lib.replaceK [c] new k s = s.flatMap fun b => if b = c then new else [b]
  | [], k, _ => by cases k <;> rfl
  | b :: l, k, h => by
    rw [List.flatMap_cons]
    by_cases hb : b = c
    · subst hb
      rw [count_same] at h
      obtain ⟨k', rfl⟩ : ∃ k', k = k' + 1 := ⟨k - 1, by omega⟩
      rw [Lib.replaceK_hit _ _ _ _ 0 (index_same b l), if_pos rfl]
      show [] ++ new ++ Lib.replaceK [b] new k' l = _
      rw [replaceK_one b new l k' (by omega)]; rfl
    · rw [replaceK_other hb, if_neg hb, replaceK_one c new l k (by rw [count_other hb] at h; exact h)]; rfl
theorem replaceAll_one (c : UInt8) (new : List UInt8) (hn : ([c] == new) = false) (s : List UInt8) : Lib.replaceAll s [c] new = s.flatMap fun b => if b = c then new else [b] := by
  unfold Lib.replaceAll Lib.replace
  rw [hn]
  have : Lib.replaceNum s [c] (-1) = Lib.count s [c] := by unfold Lib.replaceNum; rw [if_pos (.inl (by decide))]
  rw [this]
  exact replaceK_one c new s _ (Nat.le_refl _)
end Go.Proofs.YtdopmkiogmejaaaDoor
