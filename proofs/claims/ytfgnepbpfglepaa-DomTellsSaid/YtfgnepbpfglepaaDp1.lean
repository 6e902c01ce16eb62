/- Names of states: walks of both sides. -/
import Derived.Test.YtfgnepbpfglepaaDm1
namespace Go.Proofs.Ytfgnepbpfglepaa
open Go.RowKit
set_option linter.unusedVariables false
set_option linter.unusedSimpArgs false

/-- The names of states. -/
def stateNames : List (List UInt8) := [[104, 111, 118, 101, 114], [97, 99, 116, 105, 118, 101], [102, 111, 99, 117, 115], [102, 111, 99, 117, 115, 45, 118, 105, 115, 105, 98, 108, 101], [118, 105, 115, 105, 116, 101, 100], [108, 105, 110, 107], [99, 104, 101, 99, 107, 101, 100], [100, 105, 115, 97, 98, 108, 101, 100], [101, 110, 97, 98, 108, 101, 100], [116, 97, 114, 103, 101, 116]]
/-- Is a text among some? -/
def hasB (l : List (List UInt8)) (s : ByteArray) : Bool := l.any fun x => s.toList == x
def hasR (l : List ByteArray) (s : ByteArray) : Bool := l.any fun x => x.toList == s.toList
theorem hasR_eq (l : List ByteArray) (l' : List (List UInt8)) (s : ByteArray) (h : l.map ByteArray.toList = l') : hasR l s = hasB l' s := by
  subst h
  unfold hasR hasB
  rw [List.any_map]
  congr 1
  funext x
  simp only [Function.comp]
  exact Bool.eq_iff_iff.2 (by simp only [beq_iff_eq]; exact eq_comm)

set_option maxRecDepth 100000 in
set_option maxHeartbeats 1000000 in
theorem rhas_any (l : List ByteArray) (a : Option Addr) (n c : Nat) (s : ByteArray) (w : World) (hr : RdOf (· < w.heap.size) 1 (fun b o (x : ByteArray) => w.cell? ⟨b, o, none⟩ = some (.string x)) a n c l) :
    Calls Try.prog 46 #[.slice a n c, .string s] w (Told (.bool (hasR l s)) w) := by
  have hm : n ≤ 9223372036854775807 := by have := hr.2.1; have := hr.2.2.1; unfold maxLen at this; omega
  have HN := Lib.hid hr.1
  have HR := Lib.hid hr
  clear hr
  go_enter Try.func46, Try.ntmps46
  go_wp2
  go_loopw [5] (fun i wr => ∃ k : Nat, k ≤ n ∧ i = .int .i64 k ∧ Hid ((l.take k).any (fun x => x.toList == s.toList) = false) ∧ Below w.heap.size w wr) (fun i _ => n - (intOf i).toNat)
  case atStart => exact ⟨0, Nat.zero_le _, rfl, Lib.hid rfl, Below.refl _ _⟩
  case round =>
    obtain ⟨k, hk, rfl, hp, hB⟩ := hrel
    by_cases hlt : k < n
    · obtain ⟨x, hx⟩ : ∃ x, l[k]? = some x := ⟨_, List.getElem?_eq_getElem (by rw [← HN.out]; exact hlt)⟩
      obtain ⟨b, off, rfl, hb, hc⟩ := HR.out.at k x hx
      rw [Nat.mul_one, ← hB.cell (p := ⟨b, off + k, none⟩) hb] at hc
      have hkI : (0 : Int) ≤ (k : Int) := by omega
      have hkI2 : (k : Int) < (n : Int) := by omega
      have hst := Lib.hid (show (l.take (k + 1)).any (fun x => x.toList == s.toList) = (x.toList == s.toList) from by
        rw [List.take_add_one, hx, List.any_append, hp.out]; simp)
      have hin : x ∈ l := List.mem_of_getElem? hx
      clear hp hx
      cases hq : (x.toList == s.toList)
      · rw [hq] at hst
        go_wp2
        go_roundw
        case rel => exact ⟨k + 1, by omega, by go_num, hst, hB⟩
        case measure => simp [intOf]; omega
      · have hres := Lib.hid (show hasR l s = true from by unfold hasR; rw [List.any_eq_true]; exact ⟨x, hin, hq⟩)
        clear hst
        go_wp2
        go_ret
        exact ⟨by rw [hres.out]; rfl, hB⟩
    · obtain rfl : k = n := by omega
      have hres := Lib.hid (show hasR l s = false from by
        have := hp.out
        rwa [List.take_of_length_le (by rw [← HN.out]; exact Nat.le_refl _)] at this)
      clear hp
      go_wp2
      go_ret
      exact ⟨by rw [hres.out]; rfl, hB⟩

set_option maxRecDepth 100000 in
set_option maxHeartbeats 4000000 in
theorem state_any (s : ByteArray) (w : World) : Calls Try.prog 97 #[.string s] w (Tells (.bool (hasB stateNames s)) w) := by
  unfold hasB stateNames
  simp only [List.any_cons, List.any_nil]
  go_enter Try.func97, Try.ntmps97
  go_wp2
  all_goals
    go_ret
    refine ⟨ret_bool ?_, rfl⟩
    simp_all

set_option maxRecDepth 100000 in
set_option maxHeartbeats 4000000 in
theorem rstate_any (s : ByteArray) (w : World) : Calls Try.prog 45 #[.string s] w (Told (.bool (hasB stateNames s)) w) := by
  have hA := Blk.alloc (w := w) [.string ⟨#[104, 111, 118, 101, 114]⟩, .string ⟨#[97, 99, 116, 105, 118, 101]⟩, .string ⟨#[102, 111, 99, 117, 115]⟩, .string ⟨#[102, 111, 99, 117, 115, 45, 118, 105, 115, 105, 98, 108, 101]⟩, .string ⟨#[118, 105, 115, 105, 116, 101, 100]⟩, .string ⟨#[108, 105, 110, 107]⟩, .string ⟨#[99, 104, 101, 99, 107, 101, 100]⟩, .string ⟨#[100, 105, 115, 97, 98, 108, 101, 100]⟩, .string ⟨#[101, 110, 97, 98, 108, 101, 100]⟩, .string ⟨#[116, 97, 114, 103, 101, 116]⟩] 9
  have hr : RdOf (· < (w.alloc (.cells #[.string ⟨#[104, 111, 118, 101, 114]⟩, .string ⟨#[97, 99, 116, 105, 118, 101]⟩, .string ⟨#[102, 111, 99, 117, 115]⟩, .string ⟨#[102, 111, 99, 117, 115, 45, 118, 105, 115, 105, 98, 108, 101]⟩, .string ⟨#[118, 105, 115, 105, 116, 101, 100]⟩, .string ⟨#[108, 105, 110, 107]⟩, .string ⟨#[99, 104, 101, 99, 107, 101, 100]⟩, .string ⟨#[100, 105, 115, 97, 98, 108, 101, 100]⟩, .string ⟨#[101, 110, 97, 98, 108, 101, 100]⟩, .string ⟨#[116, 97, 114, 103, 101, 116]⟩] 9)).heap.size) 1 (fun b o (x : ByteArray) => (w.alloc (.cells #[.string ⟨#[104, 111, 118, 101, 114]⟩, .string ⟨#[97, 99, 116, 105, 118, 101]⟩, .string ⟨#[102, 111, 99, 117, 115]⟩, .string ⟨#[102, 111, 99, 117, 115, 45, 118, 105, 115, 105, 98, 108, 101]⟩, .string ⟨#[118, 105, 115, 105, 116, 101, 100]⟩, .string ⟨#[108, 105, 110, 107]⟩, .string ⟨#[99, 104, 101, 99, 107, 101, 100]⟩, .string ⟨#[100, 105, 115, 97, 98, 108, 101, 100]⟩, .string ⟨#[101, 110, 97, 98, 108, 101, 100]⟩, .string ⟨#[116, 97, 114, 103, 101, 116]⟩] 9)).cell? ⟨b, o, none⟩ = some (.string x)) (some ⟨w.heap.size, 0, none⟩) 10 10 [⟨#[104, 111, 118, 101, 114]⟩, ⟨#[97, 99, 116, 105, 118, 101]⟩, ⟨#[102, 111, 99, 117, 115]⟩, ⟨#[102, 111, 99, 117, 115, 45, 118, 105, 115, 105, 98, 108, 101]⟩, ⟨#[118, 105, 115, 105, 116, 101, 100]⟩, ⟨#[108, 105, 110, 107]⟩, ⟨#[99, 104, 101, 99, 107, 101, 100]⟩, ⟨#[100, 105, 115, 97, 98, 108, 101, 100]⟩, ⟨#[101, 110, 97, 98, 108, 101, 100]⟩, ⟨#[116, 97, 114, 103, 101, 116]⟩] :=
    ⟨rfl, Nat.le_refl _, ⟨by unfold maxLen; omega, by omega, fun h => by cases h⟩, .inr ⟨w.heap.size, 0, rfl, hA.lt, fun i x hx => by
      have := hA.cell i (.string x) (by
        have h2 : ([.string ⟨#[104, 111, 118, 101, 114]⟩, .string ⟨#[97, 99, 116, 105, 118, 101]⟩, .string ⟨#[102, 111, 99, 117, 115]⟩, .string ⟨#[102, 111, 99, 117, 115, 45, 118, 105, 115, 105, 98, 108, 101]⟩, .string ⟨#[118, 105, 115, 105, 116, 101, 100]⟩, .string ⟨#[108, 105, 110, 107]⟩, .string ⟨#[99, 104, 101, 99, 107, 101, 100]⟩, .string ⟨#[100, 105, 115, 97, 98, 108, 101, 100]⟩, .string ⟨#[101, 110, 97, 98, 108, 101, 100]⟩, .string ⟨#[116, 97, 114, 103, 101, 116]⟩] : List Value) = ([⟨#[104, 111, 118, 101, 114]⟩, ⟨#[97, 99, 116, 105, 118, 101]⟩, ⟨#[102, 111, 99, 117, 115]⟩, ⟨#[102, 111, 99, 117, 115, 45, 118, 105, 115, 105, 98, 108, 101]⟩, ⟨#[118, 105, 115, 105, 116, 101, 100]⟩, ⟨#[108, 105, 110, 107]⟩, ⟨#[99, 104, 101, 99, 107, 101, 100]⟩, ⟨#[100, 105, 115, 97, 98, 108, 101, 100]⟩, ⟨#[101, 110, 97, 98, 108, 101, 100]⟩, ⟨#[116, 97, 114, 103, 101, 116]⟩] : List ByteArray).map Value.string := rfl
        rw [h2, List.getElem?_map, hx]; rfl)
      rw [Nat.mul_one, Nat.zero_add]; exact this⟩⟩
  have cH := rhas_any _ _ _ _ s _ hr
  rw [show hasR [⟨#[104, 111, 118, 101, 114]⟩, ⟨#[97, 99, 116, 105, 118, 101]⟩, ⟨#[102, 111, 99, 117, 115]⟩, ⟨#[102, 111, 99, 117, 115, 45, 118, 105, 115, 105, 98, 108, 101]⟩, ⟨#[118, 105, 115, 105, 116, 101, 100]⟩, ⟨#[108, 105, 110, 107]⟩, ⟨#[99, 104, 101, 99, 107, 101, 100]⟩, ⟨#[100, 105, 115, 97, 98, 108, 101, 100]⟩, ⟨#[101, 110, 97, 98, 108, 101, 100]⟩, ⟨#[116, 97, 114, 103, 101, 116]⟩] s = hasB stateNames s from hasR_eq _ _ s (by decide +kernel)] at cH
  have hb : Below w.heap.size w (w.alloc (.cells #[.string ⟨#[104, 111, 118, 101, 114]⟩, .string ⟨#[97, 99, 116, 105, 118, 101]⟩, .string ⟨#[102, 111, 99, 117, 115]⟩, .string ⟨#[102, 111, 99, 117, 115, 45, 118, 105, 115, 105, 98, 108, 101]⟩, .string ⟨#[118, 105, 115, 105, 116, 101, 100]⟩, .string ⟨#[108, 105, 110, 107]⟩, .string ⟨#[99, 104, 101, 99, 107, 101, 100]⟩, .string ⟨#[100, 105, 115, 97, 98, 108, 101, 100]⟩, .string ⟨#[101, 110, 97, 98, 108, 101, 100]⟩, .string ⟨#[116, 97, 114, 103, 101, 116]⟩] 9)) := (Below.refl _ w).alloc (Nat.le_refl _) _
  clear hA hr
  go_enter Try.func45, Try.ntmps45
  go_wp2_with fail
  refine cH.mono ?_
  rintro e w1 ⟨rfl, hb1⟩
  go_wp2
  go_ret
  exact ⟨rfl, below_trans hb hb1⟩

end Go.Proofs.Ytfgnepbpfglepaa
