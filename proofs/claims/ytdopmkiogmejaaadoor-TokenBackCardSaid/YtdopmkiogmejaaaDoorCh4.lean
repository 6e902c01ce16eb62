/- The document's answer on names and texts between marks: a number's digits: walks. -/
import Derived.Test.YtdopmkiogmejaaaDoorCh3
import Derived.BigQuiet
namespace Go.Proofs.YtdopmkiogmejaaaDoor
open Go.RowKit
set_option linter.unusedVariables false

def hexN (n : Nat) : List Int := if n < 16 then [hexD n] else hexN (n / 16) ++ [hexD (n % 16)]
termination_by n
decreasing_by omega
theorem hexN_F (u : Nat) (h : u < 256 ∨ (4096 ≤ u ∧ u < 65536)) : hexN u = hexF u := by
  unfold hexF
  rcases h with h | ⟨h1, h2⟩
  · by_cases h16 : u < 16
    · rw [if_pos (by omega)]; unfold hexN; rw [if_pos h16]
    · rw [if_neg (by omega), if_pos (by omega)]
      unfold hexN; rw [if_neg h16]; unfold hexN; rw [if_pos (by omega)]
      simp
  · rw [if_neg (by omega), if_neg (by omega)]
    unfold hexN; rw [if_neg (by omega)]
    unfold hexN; rw [if_neg (by omega)]
    unfold hexN; rw [if_neg (by omega)]
    unfold hexN; rw [if_pos (by omega)]
    have e1 : u / 16 / 16 / 16 = u / 4096 := by omega
    have e2 : u / 16 / 16 = u / 256 := by omega
    rw [e1, e2]
    simp

theorem hexN_len : ∀ (n u : Nat), u < 16 ^ (n + 1) → (hexN u).length ≤ n + 1
  | 0, u, h => by unfold hexN; rw [if_pos (by simpa using h)]; simp
  | n + 1, u, h => by
    unfold hexN
    split
    · simp
    · have h2 : u / 16 < 16 ^ (n + 1) := by rw [Nat.pow_succ] at h; omega
      have := hexN_len n (u / 16) h2
      rw [List.length_append]; simp; omega
theorem hexN_lt (k : Nat) (h : k < 16) : hexN k = [hexD k] := by unfold hexN; rw [if_pos h]
theorem hexN_ge (k : Nat) (h : ¬ k < 16) : hexN k = hexN (k / 16) ++ [hexD ((k % 16 : Nat) : Int)] := by
  have : hexN k = hexN (k / 16) ++ [hexD (k % 16)] := by conv => lhs; unfold hexN; rw [if_neg h]
  rw [this]; congr 2
theorem hexN_u8 : ∀ (n u : Nat), u < 16 ^ (n + 1) → U8 (hexN u)
  | 0, u, h => by
    have h16 : u < 16 := by simpa using h
    rw [hexN_lt u h16]
    intro z hz
    obtain rfl : z = hexD u := by simpa using hz
    exact hexD_u8 u (by omega) (by omega)
  | n + 1, u, h => by
    by_cases h16 : u < 16
    · exact hexN_u8 0 u (by simpa using h16)
    · have h2 : u / 16 < 16 ^ (n + 1) := by rw [Nat.pow_succ] at h; omega
      rw [hexN_ge u h16]
      intro z hz
      rcases List.mem_append.1 hz with hz | hz
      · exact hexN_u8 n _ h2 z hz
      · obtain rfl : z = hexD ((u % 16 : Nat) : Int) := by simpa using hz
        exact hexD_u8 _ (by omega) (by omega)
theorem strOf_strI {t : ByteArray} {xs : List Int} (h : xs = strI t) : strOfNums xs = t := by
  subst h
  have h1 := strI_nums (strI t) (strI_u8 t)
  have h2 : strB (strOfNums (strI t)) = strB t := by
    have : (strB (strOfNums (strI t))).map (fun b : UInt8 => (b.toNat : Int)) = (strB t).map (fun b : UInt8 => (b.toNat : Int)) := h1
    exact (List.map_inj_right (fun a b hab => UInt8.toNat_inj.1 (by omega))).1 this
  exact strB_inj h2
theorem hex_cut (d : Nat) (h : d < 16) : strI ((⟨#[48, 49, 50, 51, 52, 53, 54, 55, 56, 57, 97, 98, 99, 100, 101, 102]⟩ : ByteArray).extract d (d + 1)) = [hexD d] := by
  have key : ∀ n : Fin 16, strI ((⟨#[48, 49, 50, 51, 52, 53, 54, 55, 56, 57, 97, 98, 99, 100, 101, 102]⟩ : ByteArray).extract n.val (n.val + 1)) = [hexD n.val] := by decide +kernel
  exact key ⟨d, h⟩

set_option maxRecDepth 100000 in
set_option maxHeartbeats 2000000 in
theorem rdigits_any (u : Nat) (w : World) (h : u < 100000000) : Calls Tryd.prog 16 #[.int .i64 u, .int .i64 16] w (Told (.string (strOfNums (hexN u))) w) := by
  go_enter Tryd.func16, Tryd.ntmps16
  go_wp2
  go_loopw [0, 6] (fun nv ov wr => ∃ (k : Nat) (t : ByteArray), k < 100000000 ∧ nv = .int .i64 k ∧ ov = .string t ∧ Hid (hexN u = hexN k ++ strI t) ∧ Below w.heap.size w wr) (fun nv _ _ => (intOf nv).toNat)
  case atStart => exact ⟨u, ⟨#[]⟩, h, rfl, rfl, Lib.hid (by show _ = _ ++ []; rw [List.append_nil]), Below.refl _ _⟩
  case round =>
    obtain ⟨k, t, hk, rfl, rfl, ht, hB⟩ := hrel
    have hcs : ((⟨#[48, 49, 50, 51, 52, 53, 54, 55, 56, 57, 97, 98, 99, 100, 101, 102]⟩ : ByteArray).extract (k % 16) (k % 16 + 1)).size ≤ 1 := by rw [ByteArray.size_extract]; omega
    have hl' : t.size ≤ 100 := by
      have h1 := congrArg List.length ht.out
      have h2 := hexN_len 7 u (by omega)
      rw [List.length_append, strI_len] at h1
      omega
    have hsz : ¬ 9223372036854775807 < ((⟨#[48, 49, 50, 51, 52, 53, 54, 55, 56, 57, 97, 98, 99, 100, 101, 102]⟩ : ByteArray).extract (k % 16) (k % 16 + 1)).size + t.size := by omega
    go_wp2
    go_region
    have HT := Lib.hid (show strI ((⟨#[48, 49, 50, 51, 52, 53, 54, 55, 56, 57, 97, 98, 99, 100, 101, 102]⟩ : ByteArray).extract (k % 16) (k % 16 + 1) ++ t) = [hexD ((k % 16 : Nat) : Int)] ++ strI t from by rw [strI_append, hex_cut _ (by omega)])
    have HSZ := Lib.hid (show ((⟨#[48, 49, 50, 51, 52, 53, 54, 55, 56, 57, 97, 98, 99, 100, 101, 102]⟩ : ByteArray).extract (k % 16) (k % 16 + 1) ++ t).size ≤ t.size + 1 from by rw [ByteArray.size_append]; omega)
    clear hcs hsz
    generalize (⟨#[48, 49, 50, 51, 52, 53, 54, 55, 56, 57, 97, 98, 99, 100, 101, 102]⟩ : ByteArray).extract (k % 16) (k % 16 + 1) ++ t = T at *
    by_cases h16 : k < 16
    · have q0 : ((k : Int) / 16 == 0) = true := beq_iff_eq.2 (by omega)
      have HR := Lib.hid (show strOfNums (hexN u) = T from strOf_strI (by rw [ht.out, HT.out, hexN_lt k h16, Nat.mod_eq_of_lt h16]))
      clear ht HT HSZ
      go_wp2
      go_ret
      exact ⟨by rw [HR.out]; rfl, hB.drew⟩
    · have q0 : ((k : Int) / 16 == 0) = false := beq_eq_false_iff_ne.2 (by omega)
      have HR := Lib.hid (show hexN u = hexN (k / 16) ++ strI T from by rw [ht.out, HT.out, hexN_ge k h16]; simp)
      clear ht HT HSZ
      go_wp2
      go_roundw
      case rel => exact ⟨k / 16, T, by omega, by go_num, rfl, HR, hB.drew⟩
      case measure => simp [intOf]; omega
end Go.Proofs.YtdopmkiogmejaaaDoor
