/- Several texts of mine in one. -/
import Derived.Test.YtknggcbhfkbelaaDoorDm1
import Derived.Test.YtknggcbhfkbelaaDoorDn1
import Derived.Test.YtknggcbhfkbelaaDoorShelf
import Derived.Maps.OwnSet
import Derived.Maps.OwnOps
import Derived.Maps.Views
import Derived.DeepKeys4
import Derived.MapViews
namespace Go.Proofs.YtknggcbhfkbelaaDoor
section
open Go.RowKit
set_option linter.unusedVariables false
set_option linter.unusedSimpArgs false

/-- The names of states. -/
def stateNames : List (List UInt8) := [[104, 111, 118, 101, 114], [97, 99, 116, 105, 118, 101], [102, 111, 99, 117, 115], [102, 111, 99, 117, 115, 45, 118, 105, 115, 105, 98, 108, 101], [118, 105, 115, 105, 116, 101, 100], [108, 105, 110, 107], [99, 104, 101, 99, 107, 101, 100], [100, 105, 115, 97, 98, 108, 101, 100], [101, 110, 97, 98, 108, 101, 100], [116, 97, 114, 103, 101, 116]]
/-- Is a text among some? -/
def hasB (l : List (List UInt8)) (s : ByteArray) : Bool := l.any fun x => s.toList == x
def hasR (l : List ByteArray) (s : ByteArray) : Bool := l.any fun x => x.toList == s.toList
theorem hasR_eq (l : List ByteArray) (l' : List (List UInt8)) (s : ByteArray) (h : l.map ByteArray.toList = l') : hasR l s = hasB l' s := by
  subst h
  unfold hasR hasB
  rw [List.any_map]
  congr 1
  funext x
  simp only [Function.comp]
  exact Bool.eq_iff_iff.2 (by simp only [beq_iff_eq]; exact eq_comm)

set_option maxRecDepth 100000 in
set_option maxHeartbeats 1000000 in
theorem rhas_any (l : List ByteArray) (a : Option Addr) (n c : Nat) (s : ByteArray) (w : World) (hr : RdOf (· < w.heap.size) 1 (fun b o (x : ByteArray) => w.cell? ⟨b, o, none⟩ = some (.string x)) a n c l) :
    Calls Tryd.prog 36 #[.slice a n c, .string s] w (Told (.bool (hasR l s)) w) := by
  have hm : n ≤ 9223372036854775807 := by have := hr.2.1; have := hr.2.2.1; unfold maxLen at this; omega
  have HN := Lib.hid hr.1
  have HR := Lib.hid hr
  clear hr
  go_enter Tryd.func36, Tryd.ntmps36
  go_wp2
  go_loopw [5] (fun i wr => ∃ k : Nat, k ≤ n ∧ i = .int .i64 k ∧ Hid ((l.take k).any (fun x => x.toList == s.toList) = false) ∧ Below w.heap.size w wr) (fun i _ => n - (intOf i).toNat)
  case atStart => exact ⟨0, Nat.zero_le _, rfl, Lib.hid rfl, Below.refl _ _⟩
  case round =>
    obtain ⟨k, hk, rfl, hp, hB⟩ := hrel
    by_cases hlt : k < n
    · obtain ⟨x, hx⟩ : ∃ x, l[k]? = some x := ⟨_, List.getElem?_eq_getElem (by rw [← HN.out]; exact hlt)⟩
      obtain ⟨b, off, rfl, hb, hc⟩ := HR.out.at k x hx
      rw [Nat.mul_one, ← hB.cell (p := ⟨b, off + k, none⟩) hb] at hc
      have hkI : (0 : Int) ≤ (k : Int) := by omega
      have hkI2 : (k : Int) < (n : Int) := by omega
      have hst := Lib.hid (show (l.take (k + 1)).any (fun x => x.toList == s.toList) = (x.toList == s.toList) from by
        rw [List.take_add_one, hx, List.any_append, hp.out]; simp)
      have hin : x ∈ l := List.mem_of_getElem? hx
      clear hp hx
      cases hq : (x.toList == s.toList)
      · rw [hq] at hst
        go_wp2
        go_roundw
        case rel => exact ⟨k + 1, by omega, by go_num, hst, hB⟩
        case measure => simp [intOf]; omega
      · have hres := Lib.hid (show hasR l s = true from by unfold hasR; rw [List.any_eq_true]; exact ⟨x, hin, hq⟩)
        clear hst
        go_wp2
        go_ret
        exact ⟨by rw [hres.out]; rfl, hB⟩
    · obtain rfl : k = n := by omega
      have hres := Lib.hid (show hasR l s = false from by
        have := hp.out
        rwa [List.take_of_length_le (by rw [← HN.out]; exact Nat.le_refl _)] at this)
      clear hp
      go_wp2
      go_ret
      exact ⟨by rw [hres.out]; rfl, hB⟩

set_option maxRecDepth 100000 in
set_option maxHeartbeats 4000000 in
theorem state_any (s : ByteArray) (w : World) : Calls Tryd.prog 44 #[.string s] w (Tells (.bool (hasB stateNames s)) w) := by
  unfold hasB stateNames
  simp only [List.any_cons, List.any_nil]
  go_enter Tryd.func44, Tryd.ntmps44
  go_wp2
  all_goals
    go_ret
    refine ⟨ret_bool ?_, rfl⟩
    simp_all

set_option maxRecDepth 100000 in
set_option maxHeartbeats 4000000 in
theorem rstate_any (s : ByteArray) (w : World) : Calls Tryd.prog 35 #[.string s] w (Told (.bool (hasB stateNames s)) w) := by
  have hA := Blk.alloc (w := w) [.string ⟨#[104, 111, 118, 101, 114]⟩, .string ⟨#[97, 99, 116, 105, 118, 101]⟩, .string ⟨#[102, 111, 99, 117, 115]⟩, .string ⟨#[102, 111, 99, 117, 115, 45, 118, 105, 115, 105, 98, 108, 101]⟩, .string ⟨#[118, 105, 115, 105, 116, 101, 100]⟩, .string ⟨#[108, 105, 110, 107]⟩, .string ⟨#[99, 104, 101, 99, 107, 101, 100]⟩, .string ⟨#[100, 105, 115, 97, 98, 108, 101, 100]⟩, .string ⟨#[101, 110, 97, 98, 108, 101, 100]⟩, .string ⟨#[116, 97, 114, 103, 101, 116]⟩] 9
  have hr : RdOf (· < (w.alloc (.cells #[.string ⟨#[104, 111, 118, 101, 114]⟩, .string ⟨#[97, 99, 116, 105, 118, 101]⟩, .string ⟨#[102, 111, 99, 117, 115]⟩, .string ⟨#[102, 111, 99, 117, 115, 45, 118, 105, 115, 105, 98, 108, 101]⟩, .string ⟨#[118, 105, 115, 105, 116, 101, 100]⟩, .string ⟨#[108, 105, 110, 107]⟩, .string ⟨#[99, 104, 101, 99, 107, 101, 100]⟩, .string ⟨#[100, 105, 115, 97, 98, 108, 101, 100]⟩, .string ⟨#[101, 110, 97, 98, 108, 101, 100]⟩, .string ⟨#[116, 97, 114, 103, 101, 116]⟩] 9)).heap.size) 1 (fun b o (x : ByteArray) => (w.alloc (.cells #[.string ⟨#[104, 111, 118, 101, 114]⟩, .string ⟨#[97, 99, 116, 105, 118, 101]⟩, .string ⟨#[102, 111, 99, 117, 115]⟩, .string ⟨#[102, 111, 99, 117, 115, 45, 118, 105, 115, 105, 98, 108, 101]⟩, .string ⟨#[118, 105, 115, 105, 116, 101, 100]⟩, .string ⟨#[108, 105, 110, 107]⟩, .string ⟨#[99, 104, 101, 99, 107, 101, 100]⟩, .string ⟨#[100, 105, 115, 97, 98, 108, 101, 100]⟩, .string ⟨#[101, 110, 97, 98, 108, 101, 100]⟩, .string ⟨#[116, 97, 114, 103, 101, 116]⟩] 9)).cell? ⟨b, o, none⟩ = some (.string x)) (some ⟨w.heap.size, 0, none⟩) 10 10 [⟨#[104, 111, 118, 101, 114]⟩, ⟨#[97, 99, 116, 105, 118, 101]⟩, ⟨#[102, 111, 99, 117, 115]⟩, ⟨#[102, 111, 99, 117, 115, 45, 118, 105, 115, 105, 98, 108, 101]⟩, ⟨#[118, 105, 115, 105, 116, 101, 100]⟩, ⟨#[108, 105, 110, 107]⟩, ⟨#[99, 104, 101, 99, 107, 101, 100]⟩, ⟨#[100, 105, 115, 97, 98, 108, 101, 100]⟩, ⟨#[101, 110, 97, 98, 108, 101, 100]⟩, ⟨#[116, 97, 114, 103, 101, 116]⟩] :=
    ⟨rfl, Nat.le_refl _, ⟨by unfold maxLen; omega, by omega, fun h => by cases h⟩, .inr ⟨w.heap.size, 0, rfl, hA.lt, fun i x hx => by
      have := hA.cell i (.string x) (by
        have h2 : ([.string ⟨#[104, 111, 118, 101, 114]⟩, .string ⟨#[97, 99, 116, 105, 118, 101]⟩, .string ⟨#[102, 111, 99, 117, 115]⟩, .string ⟨#[102, 111, 99, 117, 115, 45, 118, 105, 115, 105, 98, 108, 101]⟩, .string ⟨#[118, 105, 115, 105, 116, 101, 100]⟩, .string ⟨#[108, 105, 110, 107]⟩, .string ⟨#[99, 104, 101, 99, 107, 101, 100]⟩, .string ⟨#[100, 105, 115, 97, 98, 108, 101, 100]⟩, .string ⟨#[101, 110, 97, 98, 108, 101, 100]⟩, .string ⟨#[116, 97, 114, 103, 101, 116]⟩] : List Value) = ([⟨#[104, 111, 118, 101, 114]⟩, ⟨#[97, 99, 116, 105, 118, 101]⟩, ⟨#[102, 111, 99, 117, 115]⟩, ⟨#[102, 111, 99, 117, 115, 45, 118, 105, 115, 105, 98, 108, 101]⟩, ⟨#[118, 105, 115, 105, 116, 101, 100]⟩, ⟨#[108, 105, 110, 107]⟩, ⟨#[99, 104, 101, 99, 107, 101, 100]⟩, ⟨#[100, 105, 115, 97, 98, 108, 101, 100]⟩, ⟨#[101, 110, 97, 98, 108, 101, 100]⟩, ⟨#[116, 97, 114, 103, 101, 116]⟩] : List ByteArray).map Value.string := rfl
        rw [h2, List.getElem?_map, hx]; rfl)
      rw [Nat.mul_one, Nat.zero_add]; exact this⟩⟩
  have cH := rhas_any _ _ _ _ s _ hr
  rw [show hasR [⟨#[104, 111, 118, 101, 114]⟩, ⟨#[97, 99, 116, 105, 118, 101]⟩, ⟨#[102, 111, 99, 117, 115]⟩, ⟨#[102, 111, 99, 117, 115, 45, 118, 105, 115, 105, 98, 108, 101]⟩, ⟨#[118, 105, 115, 105, 116, 101, 100]⟩, ⟨#[108, 105, 110, 107]⟩, ⟨#[99, 104, 101, 99, 107, 101, 100]⟩, ⟨#[100, 105, 115, 97, 98, 108, 101, 100]⟩, ⟨#[101, 110, 97, 98, 108, 101, 100]⟩, ⟨#[116, 97, 114, 103, 101, 116]⟩] s = hasB stateNames s from hasR_eq _ _ s (by decide +kernel)] at cH
  have hb : Below w.heap.size w (w.alloc (.cells #[.string ⟨#[104, 111, 118, 101, 114]⟩, .string ⟨#[97, 99, 116, 105, 118, 101]⟩, .string ⟨#[102, 111, 99, 117, 115]⟩, .string ⟨#[102, 111, 99, 117, 115, 45, 118, 105, 115, 105, 98, 108, 101]⟩, .string ⟨#[118, 105, 115, 105, 116, 101, 100]⟩, .string ⟨#[108, 105, 110, 107]⟩, .string ⟨#[99, 104, 101, 99, 107, 101, 100]⟩, .string ⟨#[100, 105, 115, 97, 98, 108, 101, 100]⟩, .string ⟨#[101, 110, 97, 98, 108, 101, 100]⟩, .string ⟨#[116, 97, 114, 103, 101, 116]⟩] 9)) := (Below.refl _ w).alloc (Nat.le_refl _) _
  clear hA hr
  go_enter Tryd.func35, Tryd.ntmps35
  go_wp2_with fail
  refine cH.mono ?_
  rintro e w1 ⟨rfl, hb1⟩
  go_wp2
  go_ret
  exact ⟨rfl, below_trans hb hb1⟩
end

section
open Go.RowKit
set_option linter.unusedVariables false
set_option linter.unusedSimpArgs false

/-- Does something hold of all numbers below one? -/
def allTo (f : Nat → Bool) : Nat → Bool
  | 0 => true
  | k + 1 => allTo f k && f k
theorem allTo_succ (f : Nat → Bool) (k : Nat) : allTo f (k + 1) = (allTo f k && f k) := rfl
theorem allTo_false {f : Nat → Bool} {k : Nat} (h : f k = false) : ∀ m, k < m → allTo f m = false
  | 0, hm => by omega
  | m + 1, hm => by
    rw [allTo_succ]
    by_cases he : k = m
    · subst he; rw [h, Bool.and_false]
    · rw [allTo_false h m (by omega), Bool.false_and]
theorem allTo_true {f : Nat → Bool} : ∀ m, allTo f m = true → ∀ k, k < m → f k = true
  | 0, _, k, hk => by omega
  | m + 1, h, k, hk => by
    rw [allTo_succ, Bool.and_eq_true] at h
    by_cases he : k = m
    · subst he; exact h.2
    · exact allTo_true m h.1 k (by omega)
theorem allTo_of {f : Nat → Bool} : ∀ m, (∀ k, k < m → f k = true) → allTo f m = true
  | 0, _ => rfl
  | m + 1, h => by rw [allTo_succ, allTo_of m (fun k hk => h k (by omega)), h m (by omega)]; rfl

/-- Is a text among some? -/
def memS (l : List ByteArray) (s : ByteArray) : Bool := l.any fun x => decide (x = s)
theorem memS_iff (l : List ByteArray) (s : ByteArray) : memS l s = true ↔ s ∈ l := by
  unfold memS
  rw [List.any_eq_true]
  exact ⟨fun ⟨x, h, e⟩ => by rw [← of_decide_eq_true e]; exact h, fun h => ⟨s, h, decide_eq_true rfl⟩⟩
theorem hasR_mem (l : List ByteArray) (s : ByteArray) : hasR l s = memS l s := by
  rw [Bool.eq_iff_iff, memS_iff]
  unfold hasR
  rw [List.any_eq_true]
  constructor
  · rintro ⟨x, hx, he⟩
    rw [← toList_inj (beq_iff_eq.1 he)]; exact hx
  · intro h
    exact ⟨s, h, beq_self_eq_true _⟩
/-- Are states right ones, each once? -/
def okS (l : List ByteArray) (k : Nat) : Bool := match l[k]? with
  | some s => hasB stateNames s && !memS (l.take k) s
  | none => true
def statesB (l : List ByteArray) : Bool := allTo (okS l) l.length

theorem contains_any (l : List ByteArray) (a : Option Addr) (n c k c' : Nat) (s : ByteArray) (ok : Nat → Prop) (w : World) (h : RdS ok w a n c l) (hk : k ≤ n) : Calls Tryd.prog 45 #[.slice a k c', .string s] w (Tells (.bool (memS (l.take k) s)) w) := by
  rcases Nat.eq_zero_or_pos k with h0 | hp
  · subst h0
    exact (Tryd.slices_Contains_string_empty a c' s w).mono (fun e w' ⟨he, hw⟩ => ⟨by rw [he]; rfl, hw⟩)
  · obtain ⟨h1, h2, h3, h4⟩ := h
    rcases h4 with h4 | ⟨b, off, rfl, hb, hi⟩
    · subst h4; simp at h1; omega
    · have := Tryd.slices_Contains_string b off k c' l s w (by omega) (by have := h3.2.1; omega) (fun j hj => by
        obtain ⟨x, hx⟩ : ∃ x, l[j]? = some x := ⟨_, List.getElem?_eq_getElem hj⟩
        have := (hi j x hx).1
        rw [Nat.mul_one] at this
        rw [this, List.getD_eq_getElem?_getD, hx]; rfl)
      refine this.mono (fun e w' ⟨he, hw⟩ => ⟨?_, hw⟩)
      rw [he]
      congr 2
      rw [Bool.eq_iff_iff, memS_iff]
      exact Lib.containsS_iff _ _

set_option maxRecDepth 100000 in
set_option maxHeartbeats 4000000 in
theorem rightStates_any (l : List ByteArray) (a : Option Addr) (n c : Nat) (ok : Nat → Prop) (hok : ∀ (b : Nat) (w w' : World), ok b → Below w.heap.size w w' → b < w.heap.size) (w : World) (h : RdS (· < w.heap.size) w a n c l) : Calls Tryd.prog 27 #[.slice a n c] w (Told (.bool (statesB l)) w) := by
  have hm : n ≤ 9223372036854775807 := by have := h.2.1; have := h.2.2.1; unfold maxLen at this; omega
  have HN := Lib.hid h.1
  have HX := Lib.hid h
  clear h
  go_enter Tryd.func27, Tryd.ntmps27
  go_wp2_with fail
  go_loopw [7] (fun i wr => ∃ k : Nat, k ≤ n ∧ i = .int .i64 k ∧ Hid (allTo (okS l) k = true) ∧ Below w.heap.size w wr) (fun i _ => n - (intOf i).toNat)
  case atStart => exact ⟨0, Nat.zero_le _, rfl, Lib.hid rfl, Below.refl _ _⟩
  case round =>
    obtain ⟨k, hk, rfl, hp, hB⟩ := hrel
    by_cases hlt : k < n
    · obtain ⟨x, hx⟩ : ∃ x, l[k]? = some x := ⟨_, List.getElem?_eq_getElem (by rw [← HN.out]; exact hlt)⟩
      have HXr := HX.out.later hB (Nat.le_refl _)
      obtain ⟨b, off, rfl, hb, hc, hz⟩ := HXr.at k x hx
      rw [Nat.mul_one] at hc
      have hkI : (0 : Int) ≤ (k : Int) := by omega
      have hkI2 : (k : Int) < (n : Int) := by omega
      have hkc : k ≤ c := by have := HXr.2.1; omega
      have fS := fun w => state_any x w
      have fC := fun c' => contains_any l (some ⟨b, off, none⟩) n c k c' x (· < wr.heap.size) wr HXr (by omega)
      have hok2 : Hid (okS l k = (hasB stateNames x && !memS (l.take k) x)) := Lib.hid (by unfold okS; rw [hx])
      have HB := Lib.hid hB
      have hcI : n ≤ c := HXr.2.1
      clear HXr hx hB
      generalize hasB stateNames x = r1 at *
      generalize memS (l.take k) x = r2 at *
      cases r1
      · have hres := Lib.hid (show statesB l = false from allTo_false (by rw [hok2.out]; rfl) _ (by rw [← HN.out]; exact hlt))
        go_wp2_with (first
          | (go_at_call 44; (with_reducible refine (fS _).mono ?_); rintro e wq ⟨rfl, hwq⟩; replace hwq := hwq.symm; subst hwq)
          | (go_at_call 45; (with_reducible refine (fC _).mono ?_); rintro e wq ⟨rfl, hwq⟩; replace hwq := hwq.symm; subst hwq))
        go_ret
        exact ⟨by rw [hres.out]; rfl, HB.out⟩
      · cases r2
        · have hst := Lib.hid (show allTo (okS l) (k + 1) = true from by rw [allTo_succ, hp.out, hok2.out]; rfl)
          go_wp2_with (first
            | (go_at_call 44; (with_reducible refine (fS _).mono ?_); rintro e wq ⟨rfl, hwq⟩; replace hwq := hwq.symm; subst hwq)
            | (go_at_call 45; (with_reducible refine (fC _).mono ?_); rintro e wq ⟨rfl, hwq⟩; replace hwq := hwq.symm; subst hwq))
          go_roundw
          case rel => exact ⟨k + 1, by omega, by go_num, hst, HB.out⟩
          case measure => simp [intOf]; omega
        · have hres := Lib.hid (show statesB l = false from allTo_false (by rw [hok2.out]; rfl) _ (by rw [← HN.out]; exact hlt))
          go_wp2_with (first
            | (go_at_call 44; (with_reducible refine (fS _).mono ?_); rintro e wq ⟨rfl, hwq⟩; replace hwq := hwq.symm; subst hwq)
            | (go_at_call 45; (with_reducible refine (fC _).mono ?_); rintro e wq ⟨rfl, hwq⟩; replace hwq := hwq.symm; subst hwq))
          go_ret
          exact ⟨by rw [hres.out]; rfl, HB.out⟩
    · obtain rfl : k = n := by omega
      have hres := Lib.hid (show statesB l = true from by unfold statesB; rw [← HN.out]; exact hp.out)
      go_wp2
      go_ret
      exact ⟨by rw [hres.out]; rfl, hB⟩
end

section
open Go.RowKit Go.Maps
set_option linter.unusedVariables false
set_option linter.unusedSimpArgs false
set_option maxRecDepth 100000

theorem TrydlaidOutD : laidOutB Tryd.prog = true := by kernel_rfl
theorem TrydrowAttr : (43 : TypeId) < Tryd.prog.types.size := of_decide_eq_true (by kernel_rfl)
theorem TrydwideAttr : (match Tryd.prog.underlying 43 with | some (.array _ _) | some (.struct _) => true | _ => false) = true := by rw [Tryd.underlying43]
theorem TrydattrLaw : Keyed Tryd.prog 43 := Keyed.of_law (deep_law_laid TrydlaidOutD (m := 2) (by omega) TrydrowAttr (by kernel_rfl) TrydwideAttr)
theorem Trydcells51 : Tryd.prog.cellsOf 43 = 3 := by kernel_rfl
theorem Trydcells9k : Tryd.prog.cellsOf 9 = 1 := by kernel_rfl
theorem TrydkeyAttr : Tryd.prog.keyType 43 = true := by kernel_rfl
theorem TrydzeroUnit (w : World) : (zeroValue 90).run Tryd.prog w = .ok (.agg #[]) w := by kernel_rfl
theorem TrydsizeK : ∃ m, Tryd.prog.types.size + 1 = m + 2 := by
  have h : (43 : Nat) < Tryd.prog.types.size := TrydrowAttr
  generalize Tryd.prog.types.size = z at h
  exact ⟨z - 1, by omega⟩

theorem key_three {P : Program} {T S : TypeId} {m : Nat} {f0 f1 f2 : Field} (hT : P.underlying T = some (.struct #[f0, f1, f2])) (hS : P.underlying S = some .string) (hc : P.cellsOf T = 3) (hcs : P.cellsOf S = 1)
    (h0 : f0.type = S) (h1 : f1.type = S) (h2 : f2.type = S) (o0 : f0.offset = 0) (o1 : f1.offset = 1) (o2 : f2.offset = 2) (n0 : (f0.name != "_") = true) (n1 : (f1.name != "_") = true) (n2 : (f2.name != "_") = true) (hk : P.keyType T = true) (hm : P.types.size + 1 = m + 2)
    (a b c : ByteArray) (ha : a.size ≤ maxLen) (hb : b.size ≤ maxLen) (hd : c.size ≤ maxLen) : ∃ l, keyOf P T (.agg #[.string a, .string b, .string c]) = some l := by
  have e : ∀ x : ByteArray, x.size ≤ maxLen → P.keyLits P.types.size S [.string x] = some [.string x.data.toList] := fun x hx => by
    rw [show P.types.size = m + 1 by omega]
    simp [Program.keyLits, hS, hx]
  unfold keyOf
  rw [hT]
  simp [hk, Value.formed, hT, hc, e a ha, e b hb, e c hd, Program.keyLits, h0, h1, h2, o0, o1, o2, n0, n1, n2, hS, hcs, Value.cells, ha, hb, hd]

/-- What a name's key reads as. -/
noncomputable def keyF (s nm : ByteArray) : Lit := (keyOf Tryd.prog 43 (.agg #[.string s, .string nm, .string ⟨#[]⟩])).getD (.bool false)
theorem key_some (s nm : ByteArray) (hs : s.size ≤ 1000000) (hn : nm.size ≤ 1000000) : keyOf Tryd.prog 43 (.agg #[.string s, .string nm, .string ⟨#[]⟩]) = some (keyF s nm) := by
  obtain ⟨m, hm⟩ := TrydsizeK
  have hex := key_three Tryd.underlying43 Tryd.underlying9 Trydcells51 Trydcells9k rfl rfl rfl rfl rfl rfl (by decide) (by decide) (by decide) TrydkeyAttr hm s nm ⟨#[]⟩ (by unfold maxLen; omega) (by unfold maxLen; omega) (by unfold maxLen; decide)
  obtain ⟨l, hl⟩ := hex
  unfold keyF
  rw [hl]; rfl
theorem key_inj {s nm s' nm' : ByteArray} (hs : s.size ≤ 1000000) (hn : nm.size ≤ 1000000) (hs' : s'.size ≤ 1000000) (hn' : nm'.size ≤ 1000000) (h : keyF s nm = keyF s' nm') : s = s' ∧ nm = nm' := by
  have h1 := key_some s nm hs hn
  have h2 := key_some s' nm' hs' hn'
  rw [← h] at h2
  have := TrydattrLaw.inj h1 h2
  simp only [Value.agg.injEq] at this
  have := congrArg Array.toList this
  simp at this
  exact this
theorem key_lit (s nm : ByteArray) (hs : s.size ≤ 1000000) (hn : nm.size ≤ 1000000) : WideAt.IsKeyLit (keyF s nm) := TrydattrLaw.key (key_some s nm hs hn)

/-- Have two attributes one name? -/
def oneN (u t : At3) : Bool := decide (u.name = t.name) && decide (u.space = t.space)
def okA (l : List At3) (k : Nat) : Bool := match l[k]? with
  | some t => !(l.take k).any (fun u => oneN u t) && (rightS t.space && (nameS t.name && rightS t.val))
  | none => true
def attrsB (l : List At3) : Bool := allTo (okA l) l.length
noncomputable def keysA (l : List At3) : List Lit := l.map fun t => keyF t.space t.name
def SmS (l : List At3) : Prop := ∀ t ∈ l, t.space.size ≤ 1000000 ∧ t.name.size ≤ 1000000 ∧ t.val.size ≤ 1000000
theorem keys_has (l : List At3) (hl : SmS l) (t : At3) (ht : t.space.size ≤ 1000000 ∧ t.name.size ≤ 1000000 ∧ t.val.size ≤ 1000000) : Maps.has (setOf (H := Unit) (.agg []) (keysA l)) (keyF t.space t.name) = l.any (fun u => oneN u t) := by
  rw [has_setOf _ _ _ (fun x hx => by
    obtain ⟨u, hu, rfl⟩ := List.mem_map.1 hx
    exact key_lit _ _ (hl u hu).1 (hl u hu).2.1)]
  unfold keysA
  rw [List.any_map, Bool.eq_iff_iff, List.any_eq_true, List.any_eq_true]
  constructor
  · rintro ⟨u, hu, he⟩
    have := (WideAt.sameKey_iff (key_lit t.space t.name ht.1 ht.2.1)).1 he
    obtain ⟨h1, h2⟩ := key_inj (hl u hu).1 (hl u hu).2.1 ht.1 ht.2.1 this
    exact ⟨u, hu, by unfold oneN; rw [decide_eq_true h1, decide_eq_true h2]; rfl⟩
  · rintro ⟨u, hu, he⟩
    unfold oneN at he
    rw [Bool.and_eq_true] at he
    refine ⟨u, hu, ?_⟩
    show (keyF u.space u.name).sameKey (keyF t.space t.name) = true
    rw [of_decide_eq_true he.1, of_decide_eq_true he.2]
    exact WideAt.sameKey_self (key_lit _ _ ht.1 ht.2.1)
theorem keysA_snoc (l : List At3) (k : Nat) (t : At3) (h : l[k]? = some t) : keysA (l.take (k + 1)) = keysA (l.take k) ++ [keyF t.space t.name] := by
  unfold keysA
  rw [List.take_add_one, h, List.map_append]; rfl
end

section
open Go.RowKit Go.Maps
set_option linter.unusedVariables false
set_option linter.unusedSimpArgs false

set_option maxRecDepth 100000 in
set_option maxHeartbeats 4000000 in
theorem rightAttrs_any (l : List At3) (a : Option Addr) (n c : Nat) (w : World) (h : RdA (· < w.heap.size) w a n c l) (hsm : SmS l) (hn : n ≤ 1000000) : Calls Tryd.prog 26 #[.slice a n c] w (Told (.bool (attrsB l)) w) := by
  have hmm := @run_makeMap Tryd.prog
  have hm : n ≤ 9223372036854775807 := by omega
  have HN := Lib.hid h.1
  have HX := Lib.hid h
  have HSM := Lib.hid hsm
  clear h hsm
  go_enter Tryd.func26, Tryd.ntmps26
  go_wp2_with fail
  go_loopw [12] (fun i wr => ∃ k : Nat, k ≤ n ∧ i = .int .i64 k ∧ Hid (allTo (okA l) k = true) ∧ Hid (wr.ownsMap Tryd.prog 43 (unitElem (H := Unit)) w.heap.size k (setOf (H := Unit) (.agg []) (keysA (l.take k)))) ∧ Hid (Below w.heap.size w wr)) (fun i _ => n - (intOf i).toNat)
  case atStart => exact ⟨0, Nat.zero_le _, rfl, Lib.hid rfl, Lib.hid (by exact World.ownsMap_made _ _ _ _), Lib.hid ((Below.refl _ _).alloc (Nat.le_refl _) _)⟩
  case round =>
    obtain ⟨k, hk, rfl, hp, HO, HB⟩ := hrel
    by_cases hlt : k < n
    · obtain ⟨t, hx⟩ : ∃ t, l[k]? = some t := ⟨_, List.getElem?_eq_getElem (by rw [← HN.out]; exact hlt)⟩
      obtain ⟨b, off, rfl, hb, x0, x1, x2, _⟩ := HX.out.at k t hx
      rw [← cell_same (HB.out.block b hb)] at x0 x1 x2
      have ht := HSM.out t (List.mem_of_getElem? hx)
      have hkI : (0 : Int) ≤ (k : Int) := by omega
      have hkI2 : (k : Int) < (n : Int) := by omega
      have HXK := Lib.hid hx
      have hkey := key_some t.space t.name ht.1 ht.2.1
      have hhas := keys_has (l.take k) (fun u hu => HSM.out u (List.mem_of_mem_take hu)) t ht
      have hok2 : Hid (okA l k = (!(l.take k).any (fun u => oneN u t) && (rightS t.space && (nameS t.name && rightS t.val)))) := Lib.hid (by unfold okA; rw [hx])
      have hsnoc : Hid (setOf (H := Unit) (.agg []) (keysA (l.take (k + 1))) = (setOf (H := Unit) (.agg []) (keysA (l.take k))).put (keyF t.space t.name) (.agg [])) := Lib.hid (by rw [keysA_snoc l k t hx, setOf_snoc])
      -- the three new blocks
      obtain ⟨W1, hW1⟩ : ∃ W1, wr.alloc (.cells #[.string t.space, .string t.name, .string t.val] 43) = W1 := ⟨_, rfl⟩
      have hz1 : W1.heap.size = wr.heap.size + 1 := by rw [← hW1]; simp
      have B1 : Blk W1 wr.heap.size [.string t.space, .string t.name, .string t.val] 43 := by rw [← hW1]; exact Blk.alloc _ _
      have hb1 : Below w.heap.size w W1 := by rw [← hW1]; exact HB.out.alloc HB.out.size _
      have O1 : W1.ownsMap Tryd.prog 43 (unitElem (H := Unit)) w.heap.size k (setOf (H := Unit) (.agg []) (keysA (l.take k))) := by rw [← hW1]; exact HO.out.alloc _
      have C2 : Blk (W1.alloc (.cells #[.string t.space, .string t.name, .string ⟨#[]⟩] 43)) (wr.heap.size + 1) [.string t.space, .string t.name, .string ⟨#[]⟩] 43 := by rw [← hz1]; exact Blk.alloc _ _
      have O2 : (W1.alloc (.cells #[.string t.space, .string t.name, .string ⟨#[]⟩] 43)).ownsMap Tryd.prog 43 (unitElem (H := Unit)) w.heap.size k (setOf (H := Unit) (.agg []) (keysA (l.take k))) := O1.alloc _
      have hz2 : (W1.alloc (.cells #[.string t.space, .string t.name, .string ⟨#[]⟩] 43)).heap.size = wr.heap.size + 1 + 1 := by simp [hz1]
      obtain ⟨W3, hW3⟩ : ∃ W3, (W1.alloc (.cells #[.string t.space, .string t.name, .string ⟨#[]⟩] 43)).alloc (.cells #[] 90) = W3 := ⟨_, rfl⟩
      have B3 : Blk W3 wr.heap.size [.string t.space, .string t.name, .string t.val] 43 := by rw [← hW3]; exact (B1.alloc_old _).alloc_old _
      have C3 : Blk W3 (wr.heap.size + 1) [.string t.space, .string t.name, .string ⟨#[]⟩] 43 := by rw [← hW3]; exact C2.alloc_old _
      have hb3 : Below w.heap.size w W3 := by
        rw [← hW3]
        have h1 := hb1.alloc hb1.size (.cells #[.string t.space, .string t.name, .string ⟨#[]⟩] 43)
        exact h1.alloc h1.size _
      have O3 : W3.ownsMap Tryd.prog 43 (unitElem (H := Unit)) w.heap.size k (setOf (H := Unit) (.agg []) (keysA (l.take k))) := by rw [← hW3]; exact O2.alloc _
      have cb := B1.cell 0 _ rfl
      have cb1 := B1.cell 1 _ rfl
      have d0 := C2.cell 0 _ rfl
      have d1 := C2.cell 1 _ rfl
      have d2 := C2.cell 2 _ rfl
      have e0 := B3.cell 0 _ rfl
      have e1 := B3.cell 1 _ rfl
      have e2 := B3.cell 2 _ rfl
      have HB3 := Lib.hid B3
      have HC3 := Lib.hid C3
      have HO2 := Lib.hid O2
      have HO3 := Lib.hid O3
      have Hb3 := Lib.hid hb3
      clear hx B1 O1 hb1 C2 O2 B3 C3 hb3 O3
      have f1 := fun w => isRight_any t.space w ht.1
      have f2 := fun w => isName_any t.name w ht.2.1
      have f3 := fun w => isRight_any t.val w ht.2.2
      generalize (l.take k).any (fun u => oneN u t) = r0 at *
      generalize rightS t.space = r1 at *
      generalize nameS t.name = r2 at *
      generalize rightS t.val = r3 at *
      cases r0
      · cases r1
        · have hres := Lib.hid (show attrsB l = false from allTo_false (by rw [hok2.out]; first | rfl | simp) _ (by rw [← HN.out]; exact hlt))
          go_wp2_with (first
          | (at_lookup; refine wpList_lookup_own_unit _ rfl _ _ 89 rfl 43 90 TrydattrLaw Tryd.underlying89 (TrydzeroUnit _) w.heap.size k _ rfl HO2.out _ _ rfl hkey ?_)
          | (go_at_call 24; (with_reducible refine (f1 _).mono ?_); rintro e w4 ⟨rfl, hb4⟩; have H4 := Hb3.out.trans (hb4.mono Hb3.out.size); have B4 := HB3.out.later hb4 HB3.out.lt; have C4 := HC3.out.later hb4 HC3.out.lt; have e1 := B4.cell 1 _ rfl; have e2 := B4.cell 2 _ rfl; have O4 := HO3.out.kept (grown_of_below hb4) (by simp))
          | (go_at_call 25; (with_reducible refine (f2 _).mono ?_); rintro e w5 ⟨rfl, hb5⟩; have H5 := H4.trans (hb5.mono H4.size); have B5 := B4.later hb5 B4.lt; have C5 := C4.later hb5 C4.lt; have e2 := B5.cell 2 _ rfl; have O5 := O4.kept (grown_of_below hb5) (by simp))
          | (go_at_call 24; (with_reducible refine (f3 _).mono ?_); rintro e w6 ⟨rfl, hb6⟩; have H6 := H5.trans (hb6.mono H5.size); have C6 := C5.later hb6 C5.lt; have d0 := C6.cell 0 _ rfl; have d1 := C6.cell 1 _ rfl; have d2 := C6.cell 2 _ rfl; have O6 := O5.kept (grown_of_below hb6) (by simp))
          | (at_mapUpdate; refine wpList_mapUpdate_own _ rfl _ _ _ 89 rfl 43 90 TrydattrLaw Tryd.underlying89 (unitElem (H := Unit)) w.heap.size k _ rfl O6 (by unfold maxLen; omega) _ _ _ rfl rfl hkey _ [] unitElem_mk ?_; intro w7 hown7 hgrow7; have O7 := Lib.hid hown7; have H7 := Lib.hid (H6.grown hgrow7 H6.size (fun j hj => by cases hj; exact Nat.le_refl _))))
          go_ret
          exact ⟨by rw [hres.out]; rfl, H4⟩
        · cases r2
          · have hres := Lib.hid (show attrsB l = false from allTo_false (by rw [hok2.out]; first | rfl | simp) _ (by rw [← HN.out]; exact hlt))
            go_wp2_with (first
          | (at_lookup; refine wpList_lookup_own_unit _ rfl _ _ 89 rfl 43 90 TrydattrLaw Tryd.underlying89 (TrydzeroUnit _) w.heap.size k _ rfl HO2.out _ _ rfl hkey ?_)
          | (go_at_call 24; (with_reducible refine (f1 _).mono ?_); rintro e w4 ⟨rfl, hb4⟩; have H4 := Hb3.out.trans (hb4.mono Hb3.out.size); have B4 := HB3.out.later hb4 HB3.out.lt; have C4 := HC3.out.later hb4 HC3.out.lt; have e1 := B4.cell 1 _ rfl; have e2 := B4.cell 2 _ rfl; have O4 := HO3.out.kept (grown_of_below hb4) (by simp))
          | (go_at_call 25; (with_reducible refine (f2 _).mono ?_); rintro e w5 ⟨rfl, hb5⟩; have H5 := H4.trans (hb5.mono H4.size); have B5 := B4.later hb5 B4.lt; have C5 := C4.later hb5 C4.lt; have e2 := B5.cell 2 _ rfl; have O5 := O4.kept (grown_of_below hb5) (by simp))
          | (go_at_call 24; (with_reducible refine (f3 _).mono ?_); rintro e w6 ⟨rfl, hb6⟩; have H6 := H5.trans (hb6.mono H5.size); have C6 := C5.later hb6 C5.lt; have d0 := C6.cell 0 _ rfl; have d1 := C6.cell 1 _ rfl; have d2 := C6.cell 2 _ rfl; have O6 := O5.kept (grown_of_below hb6) (by simp))
          | (at_mapUpdate; refine wpList_mapUpdate_own _ rfl _ _ _ 89 rfl 43 90 TrydattrLaw Tryd.underlying89 (unitElem (H := Unit)) w.heap.size k _ rfl O6 (by unfold maxLen; omega) _ _ _ rfl rfl hkey _ [] unitElem_mk ?_; intro w7 hown7 hgrow7; have O7 := Lib.hid hown7; have H7 := Lib.hid (H6.grown hgrow7 H6.size (fun j hj => by cases hj; exact Nat.le_refl _))))
            go_ret
            exact ⟨by rw [hres.out]; rfl, H5⟩
          · cases r3
            · have hres := Lib.hid (show attrsB l = false from allTo_false (by rw [hok2.out]; first | rfl | simp) _ (by rw [← HN.out]; exact hlt))
              go_wp2_with (first
          | (at_lookup; refine wpList_lookup_own_unit _ rfl _ _ 89 rfl 43 90 TrydattrLaw Tryd.underlying89 (TrydzeroUnit _) w.heap.size k _ rfl HO2.out _ _ rfl hkey ?_)
          | (go_at_call 24; (with_reducible refine (f1 _).mono ?_); rintro e w4 ⟨rfl, hb4⟩; have H4 := Hb3.out.trans (hb4.mono Hb3.out.size); have B4 := HB3.out.later hb4 HB3.out.lt; have C4 := HC3.out.later hb4 HC3.out.lt; have e1 := B4.cell 1 _ rfl; have e2 := B4.cell 2 _ rfl; have O4 := HO3.out.kept (grown_of_below hb4) (by simp))
          | (go_at_call 25; (with_reducible refine (f2 _).mono ?_); rintro e w5 ⟨rfl, hb5⟩; have H5 := H4.trans (hb5.mono H4.size); have B5 := B4.later hb5 B4.lt; have C5 := C4.later hb5 C4.lt; have e2 := B5.cell 2 _ rfl; have O5 := O4.kept (grown_of_below hb5) (by simp))
          | (go_at_call 24; (with_reducible refine (f3 _).mono ?_); rintro e w6 ⟨rfl, hb6⟩; have H6 := H5.trans (hb6.mono H5.size); have C6 := C5.later hb6 C5.lt; have d0 := C6.cell 0 _ rfl; have d1 := C6.cell 1 _ rfl; have d2 := C6.cell 2 _ rfl; have O6 := O5.kept (grown_of_below hb6) (by simp))
          | (at_mapUpdate; refine wpList_mapUpdate_own _ rfl _ _ _ 89 rfl 43 90 TrydattrLaw Tryd.underlying89 (unitElem (H := Unit)) w.heap.size k _ rfl O6 (by unfold maxLen; omega) _ _ _ rfl rfl hkey _ [] unitElem_mk ?_; intro w7 hown7 hgrow7; have O7 := Lib.hid hown7; have H7 := Lib.hid (H6.grown hgrow7 H6.size (fun j hj => by cases hj; exact Nat.le_refl _))))
              go_ret
              exact ⟨by rw [hres.out]; rfl, H6⟩
            · have hst := Lib.hid (show allTo (okA l) (k + 1) = true from by rw [allTo_succ, hp.out, hok2.out]; rfl)
              go_wp2_with (first
          | (at_lookup; refine wpList_lookup_own_unit _ rfl _ _ 89 rfl 43 90 TrydattrLaw Tryd.underlying89 (TrydzeroUnit _) w.heap.size k _ rfl HO2.out _ _ rfl hkey ?_)
          | (go_at_call 24; (with_reducible refine (f1 _).mono ?_); rintro e w4 ⟨rfl, hb4⟩; have H4 := Hb3.out.trans (hb4.mono Hb3.out.size); have B4 := HB3.out.later hb4 HB3.out.lt; have C4 := HC3.out.later hb4 HC3.out.lt; have e1 := B4.cell 1 _ rfl; have e2 := B4.cell 2 _ rfl; have O4 := HO3.out.kept (grown_of_below hb4) (by simp))
          | (go_at_call 25; (with_reducible refine (f2 _).mono ?_); rintro e w5 ⟨rfl, hb5⟩; have H5 := H4.trans (hb5.mono H4.size); have B5 := B4.later hb5 B4.lt; have C5 := C4.later hb5 C4.lt; have e2 := B5.cell 2 _ rfl; have O5 := O4.kept (grown_of_below hb5) (by simp))
          | (go_at_call 24; (with_reducible refine (f3 _).mono ?_); rintro e w6 ⟨rfl, hb6⟩; have H6 := H5.trans (hb6.mono H5.size); have C6 := C5.later hb6 C5.lt; have d0 := C6.cell 0 _ rfl; have d1 := C6.cell 1 _ rfl; have d2 := C6.cell 2 _ rfl; have O6 := O5.kept (grown_of_below hb6) (by simp))
          | (at_mapUpdate; refine wpList_mapUpdate_own _ rfl _ _ _ 89 rfl 43 90 TrydattrLaw Tryd.underlying89 (unitElem (H := Unit)) w.heap.size k _ rfl O6 (by unfold maxLen; omega) _ _ _ rfl rfl hkey _ [] unitElem_mk ?_; intro w7 hown7 hgrow7; have O7 := Lib.hid hown7; have H7 := Lib.hid (H6.grown hgrow7 H6.size (fun j hj => by cases hj; exact Nat.le_refl _))))
              go_roundw
              case rel => exact ⟨k + 1, by omega, by go_num, hst, Lib.hid (by rw [hsnoc.out]; exact O7.out), H7⟩
              case measure => simp [intOf]; omega
      · have hres := Lib.hid (show attrsB l = false from allTo_false (by rw [hok2.out]; first | rfl | simp) _ (by rw [← HN.out]; exact hlt))
        go_wp2_with (first
          | (at_lookup; refine wpList_lookup_own_unit _ rfl _ _ 89 rfl 43 90 TrydattrLaw Tryd.underlying89 (TrydzeroUnit _) w.heap.size k _ rfl HO2.out _ _ rfl hkey ?_)
          | (go_at_call 24; (with_reducible refine (f1 _).mono ?_); rintro e w4 ⟨rfl, hb4⟩; have H4 := Hb3.out.trans (hb4.mono Hb3.out.size); have B4 := HB3.out.later hb4 HB3.out.lt; have C4 := HC3.out.later hb4 HC3.out.lt; have e1 := B4.cell 1 _ rfl; have e2 := B4.cell 2 _ rfl; have O4 := HO3.out.kept (grown_of_below hb4) (by simp))
          | (go_at_call 25; (with_reducible refine (f2 _).mono ?_); rintro e w5 ⟨rfl, hb5⟩; have H5 := H4.trans (hb5.mono H4.size); have B5 := B4.later hb5 B4.lt; have C5 := C4.later hb5 C4.lt; have e2 := B5.cell 2 _ rfl; have O5 := O4.kept (grown_of_below hb5) (by simp))
          | (go_at_call 24; (with_reducible refine (f3 _).mono ?_); rintro e w6 ⟨rfl, hb6⟩; have H6 := H5.trans (hb6.mono H5.size); have C6 := C5.later hb6 C5.lt; have d0 := C6.cell 0 _ rfl; have d1 := C6.cell 1 _ rfl; have d2 := C6.cell 2 _ rfl; have O6 := O5.kept (grown_of_below hb6) (by simp))
          | (at_mapUpdate; refine wpList_mapUpdate_own _ rfl _ _ _ 89 rfl 43 90 TrydattrLaw Tryd.underlying89 (unitElem (H := Unit)) w.heap.size k _ rfl O6 (by unfold maxLen; omega) _ _ _ rfl rfl hkey _ [] unitElem_mk ?_; intro w7 hown7 hgrow7; have O7 := Lib.hid hown7; have H7 := Lib.hid (H6.grown hgrow7 H6.size (fun j hj => by cases hj; exact Nat.le_refl _))))
        go_ret
        exact ⟨by rw [hres.out]; rfl, Hb3.out⟩
    · have hkI : ¬ (k : Int) < (n : Int) := by omega
      obtain rfl : k = n := by omega
      have hres := Lib.hid (show attrsB l = true from by unfold attrsB; rw [← HN.out]; exact hp.out)
      go_wp2
      go_ret
      exact ⟨by rw [hres.out]; rfl, HB.out⟩
end
end Go.Proofs.YtknggcbhfkbelaaDoor
