/- Decimal numerals, of the program and of the document: walks and mathematics. -/
import Derived.Test.YtickcbmfboajiaaGreatDoorFU
import Derived.Test.YtickcbmfboajiaaGreatDoorShelfI
import Derived.Lib.ItoaLen
namespace Go.Proofs.YtickcbmfboajiaaGreatDoor
open Go.RowKit Go.Shelf
set_option linter.unusedVariables false
set_option linter.unusedSimpArgs false

/-- A number's digits as a text. -/
def Dgn (s : ByteArray) (n : Int) : Prop := 0 < s.size ∧ bytesAll s = true ∧ valD (strB s) 0 = n
theorem Dgn.num {s : ByteArray} {n : Int} (h : Dgn s n) : numB s = true ∧ signedB s = false ∧ valS s = n := by
  obtain ⟨h0, ha, hv⟩ := h
  have hd : digitB ((s[0]'h0).toNat : Int) = true := by
    unfold bytesAll at ha
    exact List.all_eq_true.1 ha _ (List.mem_of_getElem? (first_get s h0))
  have n45 : s[0]'h0 ≠ 45 := fun e => by rw [e] at hd; exact absurd hd (by decide)
  have n43 : s[0]'h0 ≠ 43 := fun e => by rw [e] at hd; exact absurd hd (by decide)
  have hs : signedB s = false := by unfold signedB; rw [first_of s h0, first_of s h0, decide_eq_false n45, decide_eq_false n43]; rfl
  refine ⟨by unfold numB; rw [hs, if_neg (by decide), ha, decide_eq_true h0]; rfl, hs, ?_⟩
  unfold valS
  rw [first_of s h0, first_of s h0, if_neg (by simpa using n45), if_neg (by simpa using n43)]
  exact hv
theorem Dgn.val {D : ByteArray} {n : Int} (h : Dgn D n) {c : UInt8} (hc : c = 43 ∨ c = 45) : numB ((⟨#[c]⟩ : ByteArray) ++ D) = true ∧ signedB ((⟨#[c]⟩ : ByteArray) ++ D) = true ∧ valS ((⟨#[c]⟩ : ByteArray) ++ D) = (if c = 45 then -n else n) := by
  obtain ⟨h0, ha, hv⟩ := h
  have hB : strB ((⟨#[c]⟩ : ByteArray) ++ D) = c :: strB D := by rw [strB_append]; rfl
  have hf : ∀ d : UInt8, firstB ((⟨#[c]⟩ : ByteArray) ++ D) d = decide (c = d) := fun d => by unfold firstB; rw [hB]; simp
  have hs : signedB ((⟨#[c]⟩ : ByteArray) ++ D) = true := by unfold signedB; rw [hf, hf]; rcases hc with rfl | rfl <;> decide
  have ht : strB (tailS ((⟨#[c]⟩ : ByteArray) ++ D)) = strB D := by rw [tailS_bytes, hB]; rfl
  have hz : (tailS ((⟨#[c]⟩ : ByteArray) ++ D)).size = D.size := by rw [← strB_len, ht, strB_len]
  refine ⟨?_, hs, ?_⟩
  · unfold numB
    rw [hs, if_pos rfl, hz, decide_eq_true h0, Bool.and_true]
    unfold bytesAll at ha ⊢
    rw [ht]; exact ha
  · unfold valS
    rw [hf, hf, ht, hv]
    rcases hc with rfl | rfl <;> rfl
theorem Dgn.dgx {s : ByteArray} {n : Int} (h : Dgn s n) : DgX (ascI s) ∧ ascI s ≠ [] := by
  obtain ⟨h0, ha, _⟩ := h
  refine ⟨fun c hc => ?_, fun e => by have := ascI_len s; rw [e] at this; simp at this; omega⟩
  unfold ascI at hc
  obtain ⟨b, hb, rfl⟩ := List.mem_map.1 hc
  unfold bytesAll at ha
  have := List.all_eq_true.1 ha b hb
  unfold digitB at this
  exact of_decide_eq_true this

def decS (u : Nat) : ByteArray := ⟨(Lib.decDigits u).toArray⟩
theorem strB_decS (u : Nat) : strB (decS u) = Lib.decDigits u := rfl
theorem dg_byte {k : Nat} (h : k < 10) : (UInt8.ofNat (48 + k)).toNat = 48 + k := by rw [UInt8.toNat_ofNat']; exact Nat.mod_eq_of_lt (by omega)
theorem dec_facts : ∀ u : Nat, (∀ b ∈ Lib.decDigits u, digitB b.toNat = true) ∧ Lib.decDigits u ≠ [] ∧ valD (Lib.decDigits u) 0 = (u : Int) := by
  intro u
  induction u using Nat.strongRecOn with
  | _ u ih =>
    rw [Lib.decDigits]
    by_cases h : u < 10
    · rw [dif_pos h]
      refine ⟨fun b hb => ?_, by simp, ?_⟩
      · rw [List.mem_singleton.1 hb, dg_byte h]
        unfold digitB; exact decide_eq_true (by omega)
      · show (0 : Int) * 10 + (((UInt8.ofNat (48 + u)).toNat : Int) - 48) = u
        rw [dg_byte h]; omega
    · rw [dif_neg h]
      obtain ⟨h1, h2, h3⟩ := ih (u / 10) (by omega)
      refine ⟨fun b hb => ?_, by simp, ?_⟩
      · rcases List.mem_append.1 hb with hb | hb
        · exact h1 b hb
        · rw [List.mem_singleton.1 hb, dg_byte (by omega)]
          unfold digitB; exact decide_eq_true (by omega)
      · rw [valD_snoc, h3, dg_byte (by omega)]; omega
theorem decS_dgn (u : Nat) : Dgn (decS u) u := by
  obtain ⟨h1, h2, h3⟩ := dec_facts u
  refine ⟨?_, ?_, h3⟩
  · rw [← strB_len, strB_decS]; exact Nat.pos_of_ne_zero fun h => h2 (List.length_eq_zero_iff.1 h)
  · unfold bytesAll; rw [strB_decS, List.all_eq_true]; exact h1
theorem decS_len {u : Nat} (h : u ≤ 9223372036854775807) : (Lib.decDigits u).length ≤ 21 := by
  have := Lib.itoa_length_le (u : Int) (by omega) (by omega)
  rwa [Lib.itoa_nonneg] at this
def itS (n : Int) : ByteArray := ⟨(Lib.itoa n).toArray⟩
theorem itS_pos {n : Int} (h : 0 ≤ n) : itS n = decS n.toNat := by unfold itS decS Lib.itoa; rw [if_neg (by omega)]
theorem itS_neg {n : Int} (h : n < 0) : itS n = (⟨#[45]⟩ : ByteArray) ++ decS (-n).toNat := by
  apply strB_inj
  rw [strB_append]
  show Lib.itoa n = [45] ++ Lib.decDigits (-n).toNat
  unfold Lib.itoa
  rw [if_pos h, show n.natAbs = (-n).toNat from by omega]; rfl
theorem itS_size {n : Int} (h0 : -9223372036854775808 ≤ n) (h1 : n ≤ 9223372036854775807) : (itS n).size ≤ 21 := by
  rw [← strB_len]
  exact Lib.itoa_length_le n h0 h1

/-- The table of powers of ten, that stays. -/
def PwW (w : World) : Prop := Lib.TabIs Tryz.prog w "internal/strconv.uint64pow10" .u64 Lib.pow10Tab
theorem Tryz.gPw : Tryz.prog.globalNamed "internal/strconv.uint64pow10" = some 4 := by kernel_rfl
theorem PwW.later {w w' : World} (h : PwW w) (hb : Below w.heap.size w w') : PwW w' := by
  unfold PwW Lib.TabIs World.var? at *
  rw [Tryz.gPw] at h ⊢
  simp only [Option.bind_some] at h ⊢
  have hlt : 4 < w.heap.size := by
    rcases Nat.lt_or_ge 4 w.heap.size with h' | h'
    · exact h'
    · rw [Array.getElem?_eq_none h'] at h; simp at h
  rw [hb.block _ hlt]
  exact h
theorem below_grow (w : World) (k : Nat) (os : Array Obj) : Below w.heap.size w (Go.Sort.grow (w.drewN k) os) :=
  ⟨rfl, rfl, rfl, by show w.heap.size ≤ (w.heap ++ os).size; simp, fun j hj => by
    show (w.heap ++ os)[j]? = w.heap[j]?
    simp [Array.getElem?_append, hj]⟩
theorem itoa_any (n : Int) (w : World) (h0 : -9223372036854775808 ≤ n) (h1 : n ≤ 9223372036854775807) (hp : PwW w) : Calls Tryz.prog 36 #[.int .i64 n] w (Told (.string (itS n)) w) :=
  (Tryz.strconv_Itoa n h0 h1 w hp).mono fun e w' ⟨he, k, os, hw⟩ => ⟨he, by rw [hw]; exact below_grow w k os⟩

theorem cut_dig (d : Nat) (h : d < 10) : strB ((⟨#[48, 49, 50, 51, 52, 53, 54, 55, 56, 57, 97, 98, 99, 100, 101, 102]⟩ : ByteArray).extract d (d + 1)) = [UInt8.ofNat (48 + d)] ∧ ((⟨#[48, 49, 50, 51, 52, 53, 54, 55, 56, 57, 97, 98, 99, 100, 101, 102]⟩ : ByteArray).extract d (d + 1)).size = 1 := by
  have : ∀ d : Fin 10, strB ((⟨#[48, 49, 50, 51, 52, 53, 54, 55, 56, 57, 97, 98, 99, 100, 101, 102]⟩ : ByteArray).extract d.val (d.val + 1)) = [UInt8.ofNat (48 + d.val)] ∧ ((⟨#[48, 49, 50, 51, 52, 53, 54, 55, 56, 57, 97, 98, 99, 100, 101, 102]⟩ : ByteArray).extract d.val (d.val + 1)).size = 1 := by decide +kernel
  exact this ⟨d, h⟩
set_option maxRecDepth 100000 in
set_option maxHeartbeats 2000000 in
theorem rdigS_any (u : Nat) (w : World) (h : u ≤ 9223372036854775807) : Calls Tryz.prog 67 #[.int .i64 u, .int .i64 10] w fun e w' => e = .returned (.string (decS u)) ∧ ∃ q, w' = w.drewN q := by
  have HL := Lib.hid (decS_len h)
  generalize hR : decS u = R
  have HR : Hid (strB R = Lib.decDigits u) := Lib.hid (by rw [← hR]; rfl)
  clear hR
  go_enter Tryz.func67, Tryz.ntmps67
  go_wp2
  go_loopw [0, 6] (fun nv ov wr => ∃ (k : Nat) (t : ByteArray), k ≤ 9223372036854775807 ∧ nv = .int .i64 k ∧ ov = .string t ∧ Hid (Lib.decDigits k ++ strB t = Lib.decDigits u) ∧ ∃ q, wr = w.drewN q) (fun nv _ _ => (intOf nv).toNat)
  case atStart => exact ⟨u, ⟨#[]⟩, h, rfl, rfl, Lib.hid (List.append_nil _), 0, rfl⟩
  case round =>
    obtain ⟨k, t, hk, rfl, rfl, ht, q, rfl⟩ := hrel
    obtain ⟨hc1, hc2⟩ := cut_dig (k % 10) (by omega)
    have hts : t.size ≤ 21 := by
      have e := congrArg List.length ht.out
      rw [List.length_append, strB_len] at e
      have := HL.out
      omega
    have hcs : ((⟨#[48, 49, 50, 51, 52, 53, 54, 55, 56, 57, 97, 98, 99, 100, 101, 102]⟩ : ByteArray).extract (k % 10) (k % 10 + 1)).size ≤ 1 := by omega
    have hsz : ¬ 9223372036854775807 < ((⟨#[48, 49, 50, 51, 52, 53, 54, 55, 56, 57, 97, 98, 99, 100, 101, 102]⟩ : ByteArray).extract (k % 10) (k % 10 + 1)).size + t.size := by omega
    have HC := Lib.hid (And.intro hc1 hc2)
    clear hc1 hc2
    go_wp2
    go_region
    have HT : Hid (strB ((⟨#[48, 49, 50, 51, 52, 53, 54, 55, 56, 57, 97, 98, 99, 100, 101, 102]⟩ : ByteArray).extract (k % 10) (k % 10 + 1) ++ t) = UInt8.ofNat (48 + k % 10) :: strB t) := Lib.hid (by rw [strB_append, HC.out.1]; rfl)
    clear hcs hsz HC hts
    generalize (⟨#[48, 49, 50, 51, 52, 53, 54, 55, 56, 57, 97, 98, 99, 100, 101, 102]⟩ : ByteArray).extract (k % 10) (k % 10 + 1) ++ t = T at *
    by_cases h10 : k < 10
    · have q0 : ((k : Int) / 10 == 0) = true := beq_iff_eq.2 (by omega)
      have hE : T = R := strB_inj (by
        rw [HT.out, HR.out, ← ht.out, Lib.decDigits, dif_pos h10, show k % 10 = k from by omega]; rfl)
      have HEQ := Lib.hid hE
      clear ht hE
      go_wp2
      go_ret
      exact ⟨by rw [HEQ.out]; rfl, q + 1, rfl⟩
    · have q0 : ((k : Int) / 10 == 0) = false := beq_eq_false_iff_ne.2 (by omega)
      have HN : Hid (Lib.decDigits (k / 10) ++ strB T = Lib.decDigits u) := Lib.hid (by
        rw [HT.out, ← ht.out]
        conv => rhs; rw [Lib.decDigits, dif_neg h10]
        simp)
      clear ht
      go_wp2
      go_roundw
      case rel => exact ⟨k / 10, T, by omega, by go_num, rfl, HN, q + 1, rfl⟩
      case measure => simp [intOf]; omega
set_option maxRecDepth 100000 in
set_option maxHeartbeats 2000000 in
theorem rsigned_any (n : Int) (w : World) (h0 : -9223372036854775807 ≤ n) (h1 : n ≤ 9223372036854775807) : Calls Tryz.prog 37 #[.int .i64 n] w fun e w' => e = .returned (.string (itS n)) ∧ ∃ q, w' = w.drewN q := by
  by_cases hn : n < 0
  · obtain ⟨u, rfl⟩ : ∃ u : Nat, n = -(u : Int) := ⟨(-n).toNat, by omega⟩
    have hD := fun w => rdigS_any u w (by omega)
    have hI := Lib.hid (itS_neg hn)
    rw [show (- -(u : Int)).toNat = u from by omega] at hI
    have hz : (decS u).size ≤ 21 := by rw [← strB_len, strB_decS]; exact decS_len (by omega)
    have y : ¬ 9223372036854775807 < 1 + (decS u).size := by omega
    generalize decS u = D at *
    generalize itS (-(u : Int)) = R at *
    clear hz
    go_enter Tryz.func37, Tryz.ntmps37
    go_wp2_with (go_at_call 67; (with_reducible refine (hD _).mono ?_); rintro e w' ⟨rfl, q, rfl⟩)
    go_ret
    exact ⟨by rw [hI.out]; rfl, q, rfl⟩
  · obtain ⟨u, rfl⟩ := Int.eq_ofNat_of_zero_le (show 0 ≤ n by omega)
    have hD := fun w => rdigS_any u w (by omega)
    have hI : itS (u : Int) = decS u := itS_pos (by omega)
    rw [hI]
    clear hI
    have hn' : ¬ (u : Int) < 0 := by omega
    clear hn
    generalize decS u = D at *
    go_enter Tryz.func37, Tryz.ntmps37
    go_wp2_with (go_at_call 67; (with_reducible refine (hD _).mono ?_); rintro e w' ⟨rfl, q, rfl⟩)
    go_ret
    exact ⟨rfl, q, rfl⟩
end Go.Proofs.YtickcbmfboajiaaGreatDoor
