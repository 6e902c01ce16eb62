/- Rows of truths and rows of conditions in memory; whether two rows of truths are one: walks. -/
import Derived.Test.YtpccakalkcgdeaaDoorName
import Derived.OwnWalk
import Derived.Deep.OwnRows
import Derived.Deep.AppendLies
import Derived.IntWalk
namespace Go.Proofs.YtpccakalkcgdeaaDoor
open Go.RowKit

/-- A slice reads as a row of truths. -/
def RdB (w : World) (a : Option Addr) (n cap : Nat) (f : Nat → Bool) : Prop :=
  n ≤ cap ∧ cap ≤ maxLen ∧ (n = 0 ∨ ∃ b off, a = some ⟨b, off, none⟩ ∧ b < w.heap.size ∧ ∀ i, i < n → w.cell? ⟨b, off + i, none⟩ = some (.bool (f i)))
theorem RdB.later {w w' : World} {a : Option Addr} {n cap : Nat} {f : Nat → Bool} (h : RdB w a n cap f) (hb : Below w.heap.size w w') : RdB w' a n cap f := by
  obtain ⟨h1, h2, h3⟩ := h
  refine ⟨h1, h2, ?_⟩
  rcases h3 with h3 | ⟨b, off, rfl, hlt, hc⟩
  · exact .inl h3
  · exact .inr ⟨b, off, rfl, Nat.lt_of_lt_of_le hlt hb.size, fun i hi => (hb.cell (p := ⟨b, off + i, none⟩) hlt).trans (hc i hi)⟩
theorem rdB_at {w : World} {a : Option Addr} {n cap : Nat} {f : Nat → Bool} (h : RdB w a n cap f) (i : Nat) (hi : i < n) : ∃ b off, a = some ⟨b, off, none⟩ ∧ w.cell? ⟨b, off + i, none⟩ = some (.bool (f i)) := by
  rcases h.2.2 with h3 | ⟨b, off, rfl, hlt, hc⟩
  · omega
  · exact ⟨b, off, rfl, hc i hi⟩
def rowOf (S : Nat → Bool) (n : Nat) : List Bool := (List.range n).map fun i => S (i + 1)
theorem rowOf_at (S : Nat → Bool) {n i : Nat} (h : i < n) : (rowOf S n)[i]? = some (S (i + 1)) := by
  unfold rowOf; rw [List.getElem?_map, List.getElem?_range h]; rfl
theorem rowOf_snoc (S : Nat → Bool) (n : Nat) : rowOf S (n + 1) = rowOf S n ++ [S (n + 1)] := by
  unfold rowOf; rw [List.range_succ, List.map_append]; rfl
theorem RdB.of_owns {w : World} {base : Nat} {e : TypeId} {v : Value} {n : Nat} {S : Nat → Bool} (h : w.ownsRow base e 1 v n ((rowOf S n).map Value.bool)) :
    ∃ a cap, v = .slice a n cap ∧ RdB w a n cap (fun i => S (i + 1)) := by
  rcases h.2 with ⟨rfl, h0⟩ | ⟨g, cap, cur, rfl, hg, hh, hn, hcap, hsz, htake⟩
  · subst h0
    exact ⟨none, 0, rfl, by omega, by unfold maxLen; omega, .inl rfl⟩
  · refine ⟨_, cap, rfl, hn, hcap, .inr ⟨g, 0, rfl, (Array.getElem?_eq_some_iff.1 hh).1, fun j hj => ?_⟩⟩
    have hx := h.cells (g := g) rfl j (.bool (S (j + 1))) (by rw [List.getElem?_map, rowOf_at S hj]; rfl)
    rw [← hx]; congr 1; unfold Addr.add; simp
theorem wpList_append_bool {P : Program} {w : World} {ops : Array Oper} {rest : List Oper} {o : Oper} {a : Act} {Q : Exit → Act → World → Prop} (hgd : o.guard = none) (s x : Operand) (t : TypeId)
    (ho : o.op = .call { callee := .builtin .append, args := #[s, x], argTypes := #[t, t] })
    (base : Nat) (e : TypeId) (ht : P.underlying t = some (.slice e)) (hinfo : (P.info? e).map (fun i => (i.zero, i.size, i.bytes)) = some (some (.bool false), 1, 1))
    (v : Value) (n : Nat) (S : Nat → Bool) (hs : a.eval s = v) (w0 : World) (b : Bool) (hw : w = w0.alloc (.cells #[.bool b] e)) (hown : w0.ownsRow base e 1 v n ((rowOf S n).map Value.bool)) (hx : a.eval x = .slice (some ⟨w0.heap.size, 0, none⟩) 1 1)
    (hb : b = S (n + 1)) (hn : n ≤ 1000000) (hbase : base ≤ w0.heap.size)
    (h : ∀ v' w', w'.ownsRow base e 1 v' (n + 1) ((rowOf S (n + 1)).map Value.bool) → w.grownBy w' v.ownBlock → wpList P ops Q rest (a.put o.dst v') w') : wpList P ops Q (o :: rest) a w := by
  subst hw
  subst hb
  obtain ⟨i, hi, hzz⟩ := Option.map_eq_some_iff.1 hinfo
  simp only [Prod.mk.injEq] at hzz
  obtain ⟨hz, hsz, hby⟩ := hzz
  refine wpList_append_own _ hgd s x t ho base e i (.bool false) 1 1 ht hi hz hsz hby rfl (by decide) v n _ hs (hown.alloc _) ⟨w0.heap.size, 0, none⟩ 1 1 [.bool (S (n + 1))] hx rfl
    (World.news_of_block (cs := #[.bool (S (n + 1))]) (t := e) (fr := (0, 0)) (heap_alloc_new w0 _)) (by simp [Value.oneCell']) (by unfold maxLen; omega) (by omega) (by simp; omega) (fun v' w' h1 h2 _ => h v' w' (by rw [rowOf_snoc, List.map_append]; exact h1) h2)

theorem wpList_append_bool2 {P : Program} {w : World} {ops : Array Oper} {rest : List Oper} {o : Oper} {a : Act} {Q : Exit → Act → World → Prop} (hgd : o.guard = none) (s x : Operand) (t : TypeId)
    (ho : o.op = .call { callee := .builtin .append, args := #[s, x], argTypes := #[t, t] })
    (base : Nat) (e : TypeId) (ht : P.underlying t = some (.slice e)) (hinfo : (P.info? e).map (fun i => (i.zero, i.size, i.bytes)) = some (some (.bool false), 1, 1))
    (v : Value) (n : Nat) (S : Nat → Bool) (hs : a.eval s = v) (w0 : World) (b : Bool) (hw : w = w0.alloc (.cells #[.bool b] e)) (hown : w0.ownsRow base e 1 v n ((rowOf S n).map Value.bool)) (hx : a.eval x = .slice (some ⟨w0.heap.size, 0, none⟩) 1 1)
    (hb : b = S (n + 1)) (hn : n ≤ 1000000) (hbase : base ≤ w0.heap.size)
    (h : ∀ g cap w', w'.ownsRow base e 1 (.slice (some ⟨g, 0, none⟩) (n + 1) cap) (n + 1) ((rowOf S (n + 1)).map Value.bool) → w.grownBy w' v.ownBlock → (v.ownBlock = some g ∨ g = w0.heap.size + 1) → g < w'.heap.size →
      wpList P ops Q rest (a.put o.dst (.slice (some ⟨g, 0, none⟩) (n + 1) cap)) w') : wpList P ops Q (o :: rest) a w := by
  subst hw
  subst hb
  obtain ⟨i, hi, hzz⟩ := Option.map_eq_some_iff.1 hinfo
  simp only [Prod.mk.injEq] at hzz
  obtain ⟨hz, hsz, hby⟩ := hzz
  refine wpList_append_lies _ hgd s x t ho base e i (.bool false) 1 1 ht hi hz hsz hby rfl (by decide) v n _ hs (hown.alloc _) ⟨w0.heap.size, 0, none⟩ 1 1 [.bool (S (n + 1))] hx rfl
    (World.news_of_block (cs := #[.bool (S (n + 1))]) (t := e) (fr := (0, 0)) (heap_alloc_new w0 _)) (by simp [Value.oneCell']) (by omega) (by unfold maxLen; omega) (by omega) (by simp; omega) (w0.heap.size + 1) (by simp)
    (fun g cap w' h1 h2 h3 h4 => h g cap w' (by rw [rowOf_snoc, List.map_append]; exact h1) h2 h3 h4)


theorem TrydinfoBool : (Tryd.prog.info? 4).map (fun i => (i.zero, i.size, i.bytes)) = some (some (.bool false), 1, 1) := by kernel_rfl

/-- A row that is filled from its beginning. -/
def fillR (f : Nat → Bool) (k n : Nat) : List Value := (List.range n).map fun i => .bool (if i < k then f i else false)
theorem fillR_len (f : Nat → Bool) (k n : Nat) : (fillR f k n).length = n := by unfold fillR; simp
theorem fillR_at (f : Nat → Bool) (k n i : Nat) (h : i < n) : (fillR f k n)[i]? = some (.bool (if i < k then f i else false)) := by
  unfold fillR; rw [List.getElem?_map, List.getElem?_range h]; rfl
theorem fillR_zero (f : Nat → Bool) (n : Nat) : fillR f 0 n = List.replicate n (.bool false) := by
  refine List.ext_getElem? fun i => ?_
  rcases Nat.lt_or_ge i n with h | h
  · rw [fillR_at f 0 n i h, List.getElem?_replicate, if_pos h]; simp
  · rw [List.getElem?_eq_none (by rw [fillR_len]; exact h), List.getElem?_eq_none (by simp; exact h)]
theorem fillR_set (f : Nat → Bool) (k n : Nat) : (fillR f k n).set k (.bool (f k)) = fillR f (k + 1) n := by
  refine List.ext_getElem? fun i => ?_
  rcases Nat.lt_or_ge i n with h | h
  · rw [fillR_at f (k + 1) n i h, List.getElem?_set, fillR_len]
    by_cases e : k = i
    · subst e; simp [h]
    · rw [if_neg e, fillR_at f k n i h]
      by_cases c : i < k
      · simp [c, show i < k + 1 by omega]
      · simp [c, show ¬ i < k + 1 by omega]
  · rw [List.getElem?_eq_none (by rw [List.length_set, fillR_len]; exact h), List.getElem?_eq_none (by rw [fillR_len]; exact h)]

/-- A slice of conditions reads as these. -/
def RdC (w : World) (a : Option Addr) (xs : List (Int × ByteArray × Bool)) : Prop :=
  xs = [] ∨ ∃ b off, a = some ⟨b, off, none⟩ ∧ b < w.heap.size ∧ ∀ i x, xs[i]? = some x →
    w.cell? ⟨b, off + i * 3, none⟩ = some (.int .i64 x.1) ∧ w.cell? ⟨b, off + i * 3 + 1, none⟩ = some (.string x.2.1) ∧ w.cell? ⟨b, off + i * 3 + 2, none⟩ = some (.bool x.2.2)
theorem RdC.later {w w' : World} {a : Option Addr} {xs : List (Int × ByteArray × Bool)} (h : RdC w a xs) (hb : Below w.heap.size w w') : RdC w' a xs := by
  rcases h with h | ⟨b, off, rfl, hlt, hc⟩
  · exact .inl h
  · exact .inr ⟨b, off, rfl, Nat.lt_of_lt_of_le hlt hb.size, fun i x hi => ⟨(hb.cell (p := ⟨b, off + i * 3, none⟩) hlt).trans (hc i x hi).1, (hb.cell (p := ⟨b, off + i * 3 + 1, none⟩) hlt).trans (hc i x hi).2.1, (hb.cell (p := ⟨b, off + i * 3 + 2, none⟩) hlt).trans (hc i x hi).2.2⟩⟩
theorem rdC_at {w : World} {a : Option Addr} {xs : List (Int × ByteArray × Bool)} (h : RdC w a xs) (i : Nat) (x : Int × ByteArray × Bool) (hi : xs[i]? = some x) :
    ∃ b off, a = some ⟨b, off, none⟩ ∧ w.cell? ⟨b, off + i * 3, none⟩ = some (.int .i64 x.1) ∧ w.cell? ⟨b, off + i * 3 + 1, none⟩ = some (.string x.2.1) ∧ w.cell? ⟨b, off + i * 3 + 2, none⟩ = some (.bool x.2.2) := by
  rcases h with h | ⟨b, off, rfl, hlt, hc⟩
  · subst h; simp at hi
  · exact ⟨b, off, rfl, hc i x hi⟩

set_option maxRecDepth 100000 in
set_option maxHeartbeats 1000000 in
theorem rsame_rows (a a' : Option Addr) (n cap cap' : Nat) (f : Nat → Bool) (w : World) (hr : RdB w a n cap f) (hr' : RdB w a' n cap' f) :
    Calls Tryd.prog 23 #[.slice a n cap, .slice a' n cap'] w (Told (.bool true) w) := by
  have hm : n ≤ 9223372036854775807 := by have := hr.1; have := hr.2.1; unfold maxLen at this; omega
  have HR := Lib.hid hr
  have HR' := Lib.hid hr'
  clear hr hr'
  have n0 : ((n : Int) != (n : Int)) = false := by simp
  go_enter Tryd.func23, Tryd.ntmps23
  go_wp2
  go_loopw [5] (fun i wr => ∃ k : Nat, k ≤ n ∧ i = .int .i64 k ∧ ∃ m, wr = w.drewN m) (fun i _ => n - (intOf i).toNat)
  case atStart => exact ⟨0, by omega, rfl, 0, rfl⟩
  case round =>
    obtain ⟨k, hk, rfl, mm, rfl⟩ := hrel
    by_cases hlt : k < n
    · obtain ⟨b, off, rfl, hc⟩ := rdB_at HR.out k hlt
      obtain ⟨b', off', rfl, hc'⟩ := rdB_at HR'.out k hlt
      have hkI : (0 : Int) ≤ (k : Int) := by omega
      have hkI2 : (k : Int) < (n : Int) := by omega
      generalize f k = r at *
      have nr : (r != r) = false := by simp
      go_wp2_with fail
      go_quiet (fail)
      go_wp2
      go_roundw
      case rel => exact ⟨k + 1, by omega, by go_num, _, by first | rfl | exact World.drewN_drewN ..⟩
      case measure => simp [intOf]; omega
    · obtain rfl : k = n := by omega
      go_wp2
      go_ret
      exact ⟨rfl, below_drewN (Below.refl _ _) _⟩
end Go.Proofs.YtpccakalkcgdeaaDoor
