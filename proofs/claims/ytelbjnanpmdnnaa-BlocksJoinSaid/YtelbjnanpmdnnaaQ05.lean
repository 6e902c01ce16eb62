/- Texts of mine in one: Byte Chars. -/
import Derived.Test.YtelbjnanpmdnnaaQ04
namespace Go.Proofs.Ytelbjnanpmdnnaa
section
open Go.RowKit
theorem wrap_i32_bd (n : Int) : -2147483648 ≤ IntKind.i32.wrap n ∧ IntKind.i32.wrap n ≤ 2147483647 := by
  simp only [IntKind.wrap, IntKind.bits, IntKind.signed]
  simp
  omega
theorem charNext_bd : ∀ c z, -2147483648 ≤ charNext c z ∧ charNext c z ≤ 2147483647 := fun _ _ => wrap_i32_bd _
theorem byte_cases {P : Int → Prop} (h : ∀ n : Fin 256, P (n.val : Int)) (z : Int) (h0 : 0 ≤ z) (h1 : z ≤ 255) : P z := by
  have := h ⟨z.toNat, by omega⟩
  rwa [show ((z.toNat : Nat) : Int) = z from by omega] at this
theorem and63 (z : Int) (h0 : 0 ≤ z) (h1 : z ≤ 255) : bits .and .u8 z 63 = z % 64 := byte_cases (P := fun z => bits .and .u8 z 63 = z % 64) (by decide +kernel) z h0 h1
theorem charBegin_eq (z : Int) (h0 : 0 ≤ z) (h1 : z ≤ 255) : charBegin z = if 240 ≤ z then z % 8 else if 224 ≤ z then z % 16 else if 128 ≤ z then z % 32 else z :=
  byte_cases (P := fun z => charBegin z = if 240 ≤ z then z % 8 else if 224 ≤ z then z % 16 else if 128 ≤ z then z % 32 else z) (by decide +kernel) z h0 h1
theorem charNext_eq (c z : Int) (hc : 0 ≤ c ∧ c < 32768) (h0 : 0 ≤ z ∧ z ≤ 255) : charNext c z = c * 64 + z % 64 := by
  unfold charNext
  rw [and63 z h0.1 h0.2]
  obtain ⟨n, rfl⟩ := Int.eq_ofNat_of_zero_le hc.1
  obtain ⟨m, rfl⟩ := Int.eq_ofNat_of_zero_le h0.1
  rw [show wrap32 ((n : Int) * 64) = ((n * 64 : Nat) : Int) from by unfold wrap32; omega, show wrap32 ((m : Int) % 64) = ((m % 64 : Nat) : Int) from by unfold wrap32; omega]
  have hn : ∀ k : Nat, k < 4294967296 → (BitVec.ofInt 32 (k : Int)).toNat = k := fun k hk => by
    rw [BitVec.toNat_ofInt]; simp; omega
  have hj : (n * 64) ||| (m % 64) = n * 64 + m % 64 := nat_join 6 (n * 64) (m % 64) (by omega) (by omega)
  have hb : ∀ x y : Int, bits .or .i32 x y = IntKind.i32.wrap ((((BitVec.ofInt 32 x : BitVec 32) ||| (BitVec.ofInt 32 y : BitVec 32) : BitVec 32).toNat : Nat) : Int) := fun _ _ => rfl
  rw [hb, BitVec.toNat_or, hn _ (by omega), hn _ (by omega), hj]
  simp only [IntKind.wrap, IntKind.bits, IntKind.signed]
  simp
  omega
end

section
open Go.RowKit
theorem readF_size (zs : List Int) (h : zs ≠ []) : 1 ≤ (readF zs).2.1 ∧ (readF zs).2.1 ≤ zs.length := by
  have hl : 1 ≤ zs.length := List.length_pos_iff.2 h
  unfold readF
  dsimp only
  split
  · exact ⟨Nat.le_refl _, hl⟩
  · split
    · split
      · exact ⟨Nat.le_refl _, hl⟩
      · rename_i k1
        have k1 := (Decidable.not_not.1 k1).1
        split
        · exact ⟨by simp, k1⟩
        · split
          · exact ⟨by simp, k1⟩
          · rename_i k2
            have k2 := (Decidable.not_not.1 k2).1
            split
            · exact ⟨by simp, k2⟩
            · split
              · exact ⟨by simp, k2⟩
              · rename_i k3
                have k3 := (Decidable.not_not.1 k3).1
                exact ⟨by simp, k3⟩
    · exact ⟨Nat.le_refl _, hl⟩
def charF (zs : List Int) : Int := if (readF zs).2.2 = true then (readF zs).1 else 65533
def sizeF (zs : List Int) : Nat := (readF zs).2.1
def charsN : Nat → List Int → Nat → List Int
  | 0, _, _ => []
  | f + 1, zs, at_ => if zs.length ≤ at_ then [] else
      (if charF (zs.drop at_) ≠ 65279 ∨ at_ ≠ 0 then [charF (zs.drop at_)] else []) ++ charsN f zs (at_ + sizeF (zs.drop at_))
def charsFrom (zs : List Int) (at_ : Nat) : List Int := charsN (zs.length - at_) zs at_
def charsF (zs : List Int) : List Int := charsFrom zs 0
theorem charsN_enough (zs : List Int) : ∀ (f at_ : Nat), zs.length - at_ ≤ f → charsN f zs at_ = charsN (zs.length - at_) zs at_
  | 0, at_, h => by rw [show zs.length - at_ = 0 by omega]
  | f + 1, at_, h => by
    by_cases hl : zs.length ≤ at_
    · rw [show zs.length - at_ = 0 by omega]; simp only [charsN]; rw [if_pos hl]
    · have hs := readF_size (zs.drop at_) (by simp; omega)
      obtain ⟨m, hm⟩ : ∃ m, zs.length - at_ = m + 1 := ⟨zs.length - at_ - 1, by omega⟩
      rw [hm, charsN, charsN, if_neg hl, if_neg hl]
      congr 1
      have hs' : 1 ≤ sizeF (zs.drop at_) := hs.1
      rw [charsN_enough zs f _ (by omega), charsN_enough zs m _ (by omega)]
theorem charsFrom_end (zs : List Int) (at_ : Nat) (h : zs.length ≤ at_) : charsFrom zs at_ = [] := by
  unfold charsFrom; rw [show zs.length - at_ = 0 by omega, charsN]
theorem charsFrom_step (zs : List Int) (at_ : Nat) (h : at_ < zs.length) :
    charsFrom zs at_ = (if charF (zs.drop at_) ≠ 65279 ∨ at_ ≠ 0 then [charF (zs.drop at_)] else []) ++ charsFrom zs (at_ + sizeF (zs.drop at_)) := by
  have hs : 1 ≤ sizeF (zs.drop at_) := (readF_size (zs.drop at_) (by simp; omega)).1
  unfold charsFrom
  obtain ⟨m, hm⟩ : ∃ m, zs.length - at_ = m + 1 := ⟨zs.length - at_ - 1, by omega⟩
  rw [hm, charsN, if_neg (by omega)]
  congr 1
  exact charsN_enough zs m _ (by omega)
theorem readF_char (zs : List Int) (hz : U8 zs) : -2147483648 ≤ (readF zs).1 ∧ (readF zs).1 ≤ 2147483647 := by
  have hz0 := hz.at 0
  have hb := charNext_bd
  have hi : ∀ c, -2147483648 ≤ c → c ≤ 2147483647 → -2147483648 ≤ c ∧ c ≤ 2147483647 := fun c h h' => ⟨h, h'⟩
  unfold readF
  dsimp only
  (repeat' split) <;> first | exact hb _ _ | (apply hi <;> dsimp only <;> omega)
def Fresh (B : Nat) (a : Option Addr) : Prop := ∀ ad, a = some ad → B ≤ ad.block
theorem Fresh.of_owns {w : World} {base : Nat} {e : TypeId} {size n n' cap : Nat} {v : Value} {xs : List Value} {a : Option Addr} (h : w.ownsRow base e size v n xs) (hv : v = .slice a n' cap) : Fresh base a := by
  intro ad ha
  subst ha
  exact (h.lt ad.block (by rw [hv]; rfl)).1
theorem nil_of_owns {w : World} {base : Nat} {e : TypeId} {size n n' cap : Nat} {v : Value} {xs : List Value} {a : Option Addr} (h : w.ownsRow base e size v n xs) (hv : v = .slice a n' cap) : a = none → cap = 0 := by
  intro ha
  subst ha
  rcases h.2 with ⟨h1, _⟩ | ⟨g, cap', cur, h1, _⟩
  · rw [hv] at h1; injection h1
  · rw [hv] at h1; injection h1 with h2 _ _; cases h2
def CharsPost (zs : List Int) (w : World) (e : Ending) (w' : World) : Prop :=
  ∃ a cap, e = .returned (.slice a (charsF zs).length cap) ∧ Reads w' .i64 a cap (charsF zs) ∧ Below w.heap.size w w' ∧ Fresh w.heap.size a ∧ (a = none → cap = 0)
theorem Try.info3 : (Try.prog.info? 3).map (fun i => (i.zero, i.size, i.bytes)) = some (some (.int .i64 0), 1, 8) := by kernel_rfl
end
end Go.Proofs.Ytelbjnanpmdnnaa
