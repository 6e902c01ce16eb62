/- Numbers of bytes: what the bits of a character's bytes come to. -/
import Derived.Test.YtfgnepbpfglepaaRead
namespace Go.Proofs.Ytfgnepbpfglepaa
open Go.RowKit

theorem wrap_i32_bd (n : Int) : -2147483648 ≤ IntKind.i32.wrap n ∧ IntKind.i32.wrap n ≤ 2147483647 := by
  simp only [IntKind.wrap, IntKind.bits, IntKind.signed]
  simp
  omega
theorem charNext_bd : ∀ c z, -2147483648 ≤ charNext c z ∧ charNext c z ≤ 2147483647 := fun _ _ => wrap_i32_bd _

theorem byte_cases {P : Int → Prop} (h : ∀ n : Fin 256, P (n.val : Int)) (z : Int) (h0 : 0 ≤ z) (h1 : z ≤ 255) : P z := by
  have := h ⟨z.toNat, by omega⟩
  rwa [show ((z.toNat : Nat) : Int) = z from by omega] at this
theorem and63 (z : Int) (h0 : 0 ≤ z) (h1 : z ≤ 255) : bits .and .u8 z 63 = z % 64 := byte_cases (P := fun z => bits .and .u8 z 63 = z % 64) (by decide +kernel) z h0 h1
theorem charBegin_eq (z : Int) (h0 : 0 ≤ z) (h1 : z ≤ 255) : charBegin z = if 240 ≤ z then z % 8 else if 224 ≤ z then z % 16 else if 128 ≤ z then z % 32 else z :=
  byte_cases (P := fun z => charBegin z = if 240 ≤ z then z % 8 else if 224 ≤ z then z % 16 else if 128 ≤ z then z % 32 else z) (by decide +kernel) z h0 h1
theorem charNext_eq (c z : Int) (hc : 0 ≤ c ∧ c < 32768) (h0 : 0 ≤ z ∧ z ≤ 255) : charNext c z = c * 64 + z % 64 := by
  unfold charNext
  rw [and63 z h0.1 h0.2]
  obtain ⟨n, rfl⟩ := Int.eq_ofNat_of_zero_le hc.1
  obtain ⟨m, rfl⟩ := Int.eq_ofNat_of_zero_le h0.1
  rw [show wrap32 ((n : Int) * 64) = ((n * 64 : Nat) : Int) from by unfold wrap32; omega, show wrap32 ((m : Int) % 64) = ((m % 64 : Nat) : Int) from by unfold wrap32; omega]
  have hn : ∀ k : Nat, k < 4294967296 → (BitVec.ofInt 32 (k : Int)).toNat = k := fun k hk => by
    rw [BitVec.toNat_ofInt]; simp; omega
  have hj : (n * 64) ||| (m % 64) = n * 64 + m % 64 := nat_join 6 (n * 64) (m % 64) (by omega) (by omega)
  have hb : ∀ x y : Int, bits .or .i32 x y = IntKind.i32.wrap ((((BitVec.ofInt 32 x : BitVec 32) ||| (BitVec.ofInt 32 y : BitVec 32) : BitVec 32).toNat : Nat) : Int) := fun _ _ => rfl
  rw [hb, BitVec.toNat_or, hn _ (by omega), hn _ (by omega), hj]
  simp only [IntKind.wrap, IntKind.bits, IntKind.signed]
  simp
  omega
end Go.Proofs.Ytfgnepbpfglepaa
