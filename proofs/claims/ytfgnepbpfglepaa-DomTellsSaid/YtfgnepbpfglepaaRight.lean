/- What decode's Right does, by what read does: walks. -/
import Derived.Test.YtfgnepbpfglepaaChars
import Derived.Test.YtfgnepbpfglepaaSame
namespace Go.Proofs.Ytfgnepbpfglepaa
open Go.RowKit

/-- Are the bytes from a place on right ones? With fuel. -/
def rightN : Nat → List Int → Nat → Bool
  | 0, _, _ => true
  | f + 1, zs, k => if zs.length ≤ k then true else
      if (readF (zs.drop k)).2.2 = true ∧ (readF (zs.drop k)).1 ≠ 0 then rightN f zs (k + sizeF (zs.drop k)) else false
def rightFrom (zs : List Int) (k : Nat) : Bool := rightN (zs.length - k) zs k
def rightF (zs : List Int) : Bool := rightFrom zs 0

theorem rightN_enough (zs : List Int) : ∀ (f k : Nat), zs.length - k ≤ f → rightN f zs k = rightN (zs.length - k) zs k
  | 0, k, h => by rw [show zs.length - k = 0 by omega]
  | f + 1, k, h => by
    by_cases hl : zs.length ≤ k
    · rw [show zs.length - k = 0 by omega]; simp only [rightN]; rw [if_pos hl]
    · have hs := readF_size (zs.drop k) (by simp; omega)
      obtain ⟨m, hm⟩ : ∃ m, zs.length - k = m + 1 := ⟨zs.length - k - 1, by omega⟩
      have hs' : 1 ≤ sizeF (zs.drop k) := hs.1
      rw [hm, rightN, rightN, if_neg hl, if_neg hl, rightN_enough zs f _ (by omega), rightN_enough zs m _ (by omega)]
theorem rightFrom_end (zs : List Int) (k : Nat) (h : zs.length ≤ k) : rightFrom zs k = true := by
  unfold rightFrom; rw [show zs.length - k = 0 by omega, rightN]
theorem rightFrom_step (zs : List Int) (k : Nat) (h : k < zs.length) :
    rightFrom zs k = if (readF (zs.drop k)).2.2 = true ∧ (readF (zs.drop k)).1 ≠ 0 then rightFrom zs (k + sizeF (zs.drop k)) else false := by
  have hs : 1 ≤ sizeF (zs.drop k) := (readF_size (zs.drop k) (by simp; omega)).1
  unfold rightFrom
  obtain ⟨m, hm⟩ : ∃ m, zs.length - k = m + 1 := ⟨zs.length - k - 1, by omega⟩
  rw [hm, rightN, if_neg (by omega), rightN_enough zs m _ (by omega)]

set_option maxRecDepth 100000 in
set_option maxHeartbeats 1000000 in
theorem right_some (b off len cap : Nat) (zs : List Int) (w : World) (hlen : zs.length = len) (h1 : 1 ≤ len) (hl : len ≤ cap) (hcap : cap ≤ maxLen)
    (hat : At w .u8 b off zs) (hz : U8 zs) :
    Calls Try.prog 96 #[.slice (some ⟨b, off, none⟩) len cap] w (BoolPost (rightF zs) w) := by
  have hcap' := hcap
  unfold maxLen at hcap'
  have H0 := Lib.hid hlen; clear hlen
  have HC := Lib.hid hcap; clear hcap
  go_enter Try.func96, Try.ntmps96
  go_wp2
  go_loopw [0] (fun v wr => ∃ (k : Nat) (a : Option Addr), k ≤ len ∧ v = .slice a (len - k) (cap - k) ∧ (k < len → a = some ⟨b, off + k, none⟩) ∧ rightF zs = rightFrom zs k ∧ Below w.heap.size w wr)
    (fun v _ => lenIn v)
  case atStart => exact ⟨0, _, by omega, rfl, fun _ => rfl, rfl, Below.refl _ _⟩
  case round =>
    obtain ⟨k, a, hk, rfl, ha, heq, hbl⟩ := hrel
    have HE := Lib.hid heq; clear heq
    by_cases hlt : k < len
    · obtain rfl := ha hlt
      clear ha
      have HS := Lib.hid (rightFrom_step zs k (by rw [H0.out]; omega))
      have hat' := (hat.later hbl hat.1).drop k
      have hn := readF_size (zs.drop k) (by intro h; have := congrArg List.length h; rw [List.length_drop, H0.out] at this; simp at this; omega)
      rw [List.length_drop, H0.out] at hn
      have HN : Hid (sizeF (zs.drop k) = (readF (zs.drop k)).2.1) := Lib.hid rfl
      rcases hrd : readF (zs.drop k) with ⟨c, n, o⟩
      rw [hrd] at hn HN HS
      have HR := Lib.hid hrd; clear hrd
      obtain ⟨hn1, hn2⟩ := hn
      dsimp only at hn1 hn2 HN HS
      go_wp2_with fail
      refine (read_any b (off + k) (len - k) (cap - k) (zs.drop k) wr (by rw [List.length_drop, H0.out]) (by omega) (by omega) (by have := HC.out; omega) hat' (hz.drop k)).mono ?_
      rintro e w2 ⟨he, hb2⟩
      rw [HR.out] at he
      subst he
      have hbl2 := hbl.trans (hb2.mono hbl.size)
      clear hb2 hat'
      cases o
      case false =>
        dsimp only
        go_wp2
        go_ret
        exact ⟨by rw [HE.out, HS.out]; simp, hbl2⟩
      case true =>
        dsimp only
        by_cases hm : c = 0
        · subst hm
          go_wp2
          go_ret
          exact ⟨by rw [HE.out, HS.out]; simp, hbl2⟩
        · have hm1 : (c == 0) = false := by rw [beq_eq_false_iff_ne]; exact hm
          go_wp2
          go_roundw
          case rel =>
            refine ⟨k + n, _, by omega, by rw [show len - (k + n) = len - k - n from by omega, show cap - (k + n) = cap - k - n from by omega], fun h => by rw [if_neg (by omega), Nat.add_assoc], ?_, hbl2⟩
            rw [HE.out, HS.out, HN.out, if_pos ⟨rfl, hm⟩]
          case measure => simp [lenIn]; omega
    · have hkl : k = len := by omega
      subst hkl
      go_wp2
      go_ret
      exact ⟨by rw [HE.out, rightFrom_end zs k (by rw [H0.out]; omega)]; rfl, hbl⟩

theorem right_none (a : Option Addr) (cap : Nat) (w : World) : Calls Try.prog 96 #[.slice a 0 cap] w (BoolPost (rightF []) w) := by
  go_enter Try.func96, Try.ntmps96
  go_wp2
  refine wp_loop_rounds 1 ?_; rw [rounds_succ]
  go_wp2
  go_ret
  exact ⟨rfl, Below.refl _ _⟩

/-- What Right does with any bytes. -/
theorem right_any (a : Option Addr) (cap : Nat) (zs : List Int) (w : World) (hr : Reads w .u8 a cap zs) (hz : U8 zs) :
    Calls Try.prog 96 #[.slice a zs.length cap] w (BoolPost (rightF zs) w) := by
  obtain ⟨h1, h2, h3⟩ := hr
  rcases h3 with rfl | ⟨b, off, rfl, hat⟩
  · exact right_none a cap w
  · by_cases h0 : zs = []
    · subst h0; exact right_none _ cap w
    · exact right_some b off zs.length cap zs w rfl (List.length_pos_iff.2 h0) h1 h2 hat hz
end Go.Proofs.Ytfgnepbpfglepaa
