/- Right states: the program's walk. -/
import Derived.Test.YtfgnepbpfglepaaDp1
import Derived.Test.YtfgnepbpfglepaaDn1
import Derived.Test.YtfgnepbpfglepaaShelf
namespace Go.Proofs.Ytfgnepbpfglepaa
open Go.RowKit
set_option linter.unusedVariables false
set_option linter.unusedSimpArgs false

/-- Does something hold of all numbers below one? -/
def allTo (f : Nat → Bool) : Nat → Bool
  | 0 => true
  | k + 1 => allTo f k && f k
theorem allTo_succ (f : Nat → Bool) (k : Nat) : allTo f (k + 1) = (allTo f k && f k) := rfl
theorem allTo_false {f : Nat → Bool} {k : Nat} (h : f k = false) : ∀ m, k < m → allTo f m = false
  | 0, hm => by omega
  | m + 1, hm => by
    rw [allTo_succ]
    by_cases he : k = m
    · subst he; rw [h, Bool.and_false]
    · rw [allTo_false h m (by omega), Bool.false_and]
theorem allTo_true {f : Nat → Bool} : ∀ m, allTo f m = true → ∀ k, k < m → f k = true
  | 0, _, k, hk => by omega
  | m + 1, h, k, hk => by
    rw [allTo_succ, Bool.and_eq_true] at h
    by_cases he : k = m
    · subst he; exact h.2
    · exact allTo_true m h.1 k (by omega)
theorem allTo_of {f : Nat → Bool} : ∀ m, (∀ k, k < m → f k = true) → allTo f m = true
  | 0, _ => rfl
  | m + 1, h => by rw [allTo_succ, allTo_of m (fun k hk => h k (by omega)), h m (by omega)]; rfl

/-- Is a text among some? -/
def memS (l : List ByteArray) (s : ByteArray) : Bool := l.any fun x => decide (x = s)
theorem memS_iff (l : List ByteArray) (s : ByteArray) : memS l s = true ↔ s ∈ l := by
  unfold memS
  rw [List.any_eq_true]
  exact ⟨fun ⟨x, h, e⟩ => by rw [← of_decide_eq_true e]; exact h, fun h => ⟨s, h, decide_eq_true rfl⟩⟩
theorem hasR_mem (l : List ByteArray) (s : ByteArray) : hasR l s = memS l s := by
  rw [Bool.eq_iff_iff, memS_iff]
  unfold hasR
  rw [List.any_eq_true]
  constructor
  · rintro ⟨x, hx, he⟩
    rw [← toList_inj (beq_iff_eq.1 he)]; exact hx
  · intro h
    exact ⟨s, h, beq_self_eq_true _⟩
/-- Are states right ones, each once? -/
def okS (l : List ByteArray) (k : Nat) : Bool := match l[k]? with
  | some s => hasB stateNames s && !memS (l.take k) s
  | none => true
def statesB (l : List ByteArray) : Bool := allTo (okS l) l.length

theorem contains_any (l : List ByteArray) (a : Option Addr) (n c k c' : Nat) (s : ByteArray) (ok : Nat → Prop) (w : World) (h : RdS ok w a n c l) (hk : k ≤ n) : Calls Try.prog 70 #[.slice a k c', .string s] w (Tells (.bool (memS (l.take k) s)) w) := by
  rcases Nat.eq_zero_or_pos k with h0 | hp
  · subst h0
    exact (Try.slices_Contains_string_empty a c' s w).mono (fun e w' ⟨he, hw⟩ => ⟨by rw [he]; rfl, hw⟩)
  · obtain ⟨h1, h2, h3, h4⟩ := h
    rcases h4 with h4 | ⟨b, off, rfl, hb, hi⟩
    · subst h4; simp at h1; omega
    · have := Try.slices_Contains_string b off k c' l s w (by omega) (by have := h3.2.1; omega) (fun j hj => by
        obtain ⟨x, hx⟩ : ∃ x, l[j]? = some x := ⟨_, List.getElem?_eq_getElem hj⟩
        have := (hi j x hx).1
        rw [Nat.mul_one] at this
        rw [this, List.getD_eq_getElem?_getD, hx]; rfl)
      refine this.mono (fun e w' ⟨he, hw⟩ => ⟨?_, hw⟩)
      rw [he]
      congr 2
      rw [Bool.eq_iff_iff, memS_iff]
      exact Lib.containsS_iff _ _

set_option maxRecDepth 100000 in
set_option maxHeartbeats 4000000 in
theorem rightStates_any (l : List ByteArray) (a : Option Addr) (n c : Nat) (ok : Nat → Prop) (hok : ∀ (b : Nat) (w w' : World), ok b → Below w.heap.size w w' → b < w.heap.size) (w : World) (h : RdS (· < w.heap.size) w a n c l) : Calls Try.prog 83 #[.slice a n c] w (Told (.bool (statesB l)) w) := by
  have hm : n ≤ 9223372036854775807 := by have := h.2.1; have := h.2.2.1; unfold maxLen at this; omega
  have HN := Lib.hid h.1
  have HX := Lib.hid h
  clear h
  go_enter Try.func83, Try.ntmps83
  go_wp2_with fail
  go_loopw [7] (fun i wr => ∃ k : Nat, k ≤ n ∧ i = .int .i64 k ∧ Hid (allTo (okS l) k = true) ∧ Below w.heap.size w wr) (fun i _ => n - (intOf i).toNat)
  case atStart => exact ⟨0, Nat.zero_le _, rfl, Lib.hid rfl, Below.refl _ _⟩
  case round =>
    obtain ⟨k, hk, rfl, hp, hB⟩ := hrel
    by_cases hlt : k < n
    · obtain ⟨x, hx⟩ : ∃ x, l[k]? = some x := ⟨_, List.getElem?_eq_getElem (by rw [← HN.out]; exact hlt)⟩
      have HXr := HX.out.later hB (Nat.le_refl _)
      obtain ⟨b, off, rfl, hb, hc, hz⟩ := HXr.at k x hx
      rw [Nat.mul_one] at hc
      have hkI : (0 : Int) ≤ (k : Int) := by omega
      have hkI2 : (k : Int) < (n : Int) := by omega
      have hkc : k ≤ c := by have := HXr.2.1; omega
      have fS := fun w => state_any x w
      have fC := fun c' => contains_any l (some ⟨b, off, none⟩) n c k c' x (· < wr.heap.size) wr HXr (by omega)
      have hok2 : Hid (okS l k = (hasB stateNames x && !memS (l.take k) x)) := Lib.hid (by unfold okS; rw [hx])
      have HB := Lib.hid hB
      have hcI : n ≤ c := HXr.2.1
      clear HXr hx hB
      generalize hasB stateNames x = r1 at *
      generalize memS (l.take k) x = r2 at *
      cases r1
      · have hres := Lib.hid (show statesB l = false from allTo_false (by rw [hok2.out]; rfl) _ (by rw [← HN.out]; exact hlt))
        go_wp2_with (first
          | (go_at_call 97; (with_reducible refine (fS _).mono ?_); rintro e wq ⟨rfl, hwq⟩; replace hwq := hwq.symm; subst hwq)
          | (go_at_call 70; (with_reducible refine (fC _).mono ?_); rintro e wq ⟨rfl, hwq⟩; replace hwq := hwq.symm; subst hwq))
        go_ret
        exact ⟨by rw [hres.out]; rfl, HB.out⟩
      · cases r2
        · have hst := Lib.hid (show allTo (okS l) (k + 1) = true from by rw [allTo_succ, hp.out, hok2.out]; rfl)
          go_wp2_with (first
            | (go_at_call 97; (with_reducible refine (fS _).mono ?_); rintro e wq ⟨rfl, hwq⟩; replace hwq := hwq.symm; subst hwq)
            | (go_at_call 70; (with_reducible refine (fC _).mono ?_); rintro e wq ⟨rfl, hwq⟩; replace hwq := hwq.symm; subst hwq))
          go_roundw
          case rel => exact ⟨k + 1, by omega, by go_num, hst, HB.out⟩
          case measure => simp [intOf]; omega
        · have hres := Lib.hid (show statesB l = false from allTo_false (by rw [hok2.out]; rfl) _ (by rw [← HN.out]; exact hlt))
          go_wp2_with (first
            | (go_at_call 97; (with_reducible refine (fS _).mono ?_); rintro e wq ⟨rfl, hwq⟩; replace hwq := hwq.symm; subst hwq)
            | (go_at_call 70; (with_reducible refine (fC _).mono ?_); rintro e wq ⟨rfl, hwq⟩; replace hwq := hwq.symm; subst hwq))
          go_ret
          exact ⟨by rw [hres.out]; rfl, HB.out⟩
    · obtain rfl : k = n := by omega
      have hres := Lib.hid (show statesB l = true from by unfold statesB; rw [← HN.out]; exact hp.out)
      go_wp2
      go_ret
      exact ⟨by rw [hres.out]; rfl, hB⟩
end Go.Proofs.Ytfgnepbpfglepaa
