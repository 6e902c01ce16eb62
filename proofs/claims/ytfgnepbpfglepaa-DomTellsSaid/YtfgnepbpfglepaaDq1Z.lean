/- A node is right behind some: the document's side, but for elements: walks. -/
import Derived.Test.YtfgnepbpfglepaaGb
import Derived.Test.YtfgnepbpfglepaaFF
namespace Go.Proofs.Ytfgnepbpfglepaa
open Go.RowKit
set_option linter.unusedVariables false
set_option linter.unusedSimpArgs false

/-- What is known of a parent's place. -/
theorem par_cases (p : Int) (xs : List Nd) (a : Option Addr) (n c : Nat) (w : World) (hx : RdN (· < w.heap.size) w a n c xs) :
    (parB p xs = false ∧ (p < -1 ∨ (-1 ≤ p ∧ (n : Int) ≤ p) ∨ (∃ (k : Nat) (b off : Nat) (kk : Int), p = (k : Int) ∧ k < n ∧ a = some ⟨b, off, none⟩ ∧ b < w.heap.size ∧ w.cell? ⟨b, off + k * 7 + 1, none⟩ = some (.int .i64 kk) ∧ (kk == 1) = false))) ∨
    (parB p xs = true ∧ (p = -1 ∨ (∃ (k : Nat) (b off : Nat), p = (k : Int) ∧ k < n ∧ a = some ⟨b, off, none⟩ ∧ b < w.heap.size ∧ w.cell? ⟨b, off + k * 7 + 1, none⟩ = some (.int .i64 1)))) := by
  unfold parB
  by_cases h1 : p = -1
  · subst h1
    exact .inr ⟨by simp, .inl rfl⟩
  rw [decide_eq_false h1, Bool.false_or]
  by_cases h0 : 0 ≤ p
  · obtain ⟨k, rfl⟩ := Int.eq_ofNat_of_zero_le h0
    by_cases hk : k < n
    · obtain ⟨x, hxk⟩ : ∃ x, xs[k]? = some x := ⟨_, List.getElem?_eq_getElem (by rw [← hx.1]; exact hk)⟩
      obtain ⟨b, off, rfl, hb, _, x1, _⟩ := hx.at k x hxk
      rw [decide_eq_true h0, decide_eq_true (by rw [← hx.1]; omega), Int.toNat_natCast, hxk]
      by_cases hk1 : x.kind = 1
      · rw [hk1] at x1
        exact .inr ⟨by simp [hk1], .inr ⟨k, b, off, rfl, hk, rfl, hb, x1⟩⟩
      · exact .inl ⟨by simp [hk1], .inr (.inr ⟨k, b, off, x.kind, rfl, hk, rfl, hb, x1, beq_eq_false_iff_ne.2 hk1⟩)⟩
    · exact .inl ⟨by rw [decide_eq_true h0, decide_eq_false (by rw [← hx.1]; omega)]; rfl, .inr (.inl ⟨by omega, by omega⟩)⟩
  · exact .inl ⟨by rw [decide_eq_false h0]; rfl, .inl (by omega)⟩

set_option maxRecDepth 100000 in
set_option maxHeartbeats 4000000 in
theorem rnode_par (x : Nd) (ats : Option Addr) (m d : Nat) (sts : Option Addr) (m' d' : Nat) (xs : List Nd) (a : Option Addr) (n c : Nat) (w : World) (hx : RdN (· < w.heap.size) w a n c xs) (hp : parB x.par xs = false) :
    Calls Try.prog 20 #[.slice a n c, .agg #[.int .i64 x.par, .int .i64 x.kind, .string x.space, .string x.name, .slice ats m d, .slice sts m' d', .string x.text]] w (Told (.bool false) w) := by
  have hbX := (Below.refl w.heap.size w).alloc (Nat.le_refl _) (.cells #[.int .i64 x.par, .int .i64 x.kind, .string x.space, .string x.name, .slice ats m d, .slice sts m' d', .string x.text] 44)
  have hm : n ≤ 9223372036854775807 := by have := hx.2.1; have := hx.2.2.1.1; unfold maxLen at this; omega
  rcases par_cases x.par xs a n c w hx with ⟨_, h⟩ | ⟨h, _⟩
  · have HBX := Lib.hid hbX
    rcases h with h | ⟨h1, h2⟩ | ⟨k, b, off, kk, hpk, hk, rfl, hb, hc, hkk⟩
    · clear hx hp
      generalize x.par = pp at *
      go_enter Try.func20, Try.ntmps20
      go_wp2
      go_ret
      exact ⟨rfl, HBX.out⟩
    · have h3 : ¬ x.par < -1 := by omega
      clear hx hp
      generalize x.par = pp at *
      go_enter Try.func20, Try.ntmps20
      go_wp2
      go_ret
      exact ⟨rfl, HBX.out⟩
    · have hc2 := (hbX.cell (p := ⟨b, off + k * 7 + 1, none⟩) hb).trans hc
      have HH := Lib.hid hpk
      rw [hpk] at hbX hc2 HBX ⊢
      have h3 : ¬ (k : Int) < -1 := by omega
      have h4 : ¬ (n : Int) ≤ (k : Int) := by omega
      have h5 : (0 : Int) ≤ (k : Int) := by omega
      have h6 : (k : Int) < (n : Int) := by omega
      have h7 : (kk != 1) = true := by rw [bne, hkk]; rfl
      clear hx hp hc hpk hbX hkk
      go_enter Try.func20, Try.ntmps20
      go_wp2
      go_ret
      exact ⟨rfl, HBX.out⟩
  · rw [hp] at h; cases h
end Go.Proofs.Ytfgnepbpfglepaa
