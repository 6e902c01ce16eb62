/- The document's examples, and what Lines does: walks. -/
import Derived.Test.YtmcboiopglpbkaaRight
namespace Go.Proofs.Ytmcboiopglpbkaa
open Go.RowKit

theorem reads_new (w : World) (k : IntKind) (zs : List Int) (T : TypeId) (n : Nat) (hn : zs.length = n) (hm : n ≤ maxLen) : Reads (w.alloc (.cells (zs.map (Value.int k)).toArray T)) k (some ⟨w.heap.size, 0, none⟩) n zs := by
  subst hn
  refine ⟨Nat.le_refl _, hm, .inr ⟨_, _, rfl, by simp, fun j hj => ?_⟩⟩
  rw [Nat.zero_add, (Blk.alloc (w := w) (zs.map (Value.int k)) T).cell j (.int k (zs[j]?.getD 0)) (by rw [List.getElem?_map, List.getElem?_eq_getElem hj]; rfl)]

theorem charsF_ex1 : charsF [226, 130, 97] = [65533, 97] := by decide +kernel
theorem charsF_ex2 : charsF [237, 160, 128] = [65533, 65533, 65533] := by decide +kernel

theorem same_yes (a a' : Option Addr) (c c' : Nat) (xs : List Int) (w : World) (hx : Reads w .i64 a c xs) (hy : Reads w .i64 a' c' xs) :
    Calls Try.prog 12 #[.slice a xs.length c, .slice a' xs.length c'] w (BoolPost true w) := by
  have h := same_any a a' c c' xs xs w hx hy
  rwa [decide_eq_true rfl] at h

set_option maxHeartbeats 1000000 in
theorem speaks_any (w : World) : Calls Try.prog 9 #[] w (BoolPost true w) := by
  go_enter Try.func9, Try.ntmps9
  go_wp2_with fail
  refine (chars_any _ _ [226, 130, 97] _ (reads_new w .u8 [226, 130, 97] 5 3 rfl (by unfold maxLen; omega)) (by intro z hz; simp at hz; omega) (by simp)).mono ?_
  rintro e w1 ⟨a1, c1, rfl, hr1, hb1, _⟩
  rw [charsF_ex1] at hr1
  rw [charsF_ex1]
  have hb1' : Below w.heap.size w w1 := ((Below.refl _ w).alloc (Nat.le_refl _) _).trans (hb1.mono (by simp))
  go_wp2_with fail
  refine (same_yes _ _ _ _ [65533, 97] _ (hr1.later ((Below.refl _ w1).alloc (Nat.le_refl _) _)) (reads_new w1 .i64 [65533, 97] 3 2 rfl (by unfold maxLen; omega))).mono ?_
  rintro e w2 ⟨rfl, hb2⟩
  have hb2' : Below w.heap.size w w2 := (hb1'.alloc hb1'.size _).trans (hb2.mono (by simp; have := hb1'.size; omega))
  go_wp2_with fail
  refine (chars_any _ _ [237, 160, 128] _ (reads_new w2 .u8 [237, 160, 128] 5 3 rfl (by unfold maxLen; omega)) (by intro z hz; simp at hz; omega) (by simp)).mono ?_
  rintro e w3 ⟨a3, c3, rfl, hr3, hb3, _⟩
  rw [charsF_ex2] at hr3
  rw [charsF_ex2]
  have hb3' : Below w.heap.size w w3 := (hb2'.alloc hb2'.size _).trans (hb3.mono (by simp; have := hb2'.size; omega))
  go_wp2_with fail
  refine (same_yes _ _ _ _ [65533, 65533, 65533] _ (hr3.later ((Below.refl _ w3).alloc (Nat.le_refl _) _)) (reads_new w3 .i64 [65533, 65533, 65533] 3 3 rfl (by unfold maxLen; omega))).mono ?_
  rintro e w4 ⟨rfl, hb4⟩
  have hb4' : Below w.heap.size w w4 := (hb3'.alloc hb3'.size _).trans (hb4.mono (by simp; have := hb3'.size; omega))
  go_wp2
  go_ret
  exact ⟨rfl, hb4'⟩

/-- Lines: how many ends of lines there are, and how many numbers behind the last one. -/
def linesTo (zs : List Int) : Nat → Nat × Nat
  | 0 => (0, 0)
  | k + 1 => if zs[k]?.getD 0 = 10 then ((linesTo zs k).1 + 1, 0) else ((linesTo zs k).1, (linesTo zs k).2 + 1)
def cutAt (len : Nat) (at_ : Int) : Nat := (max 0 (min at_ len)).toNat

def LinesPost (zs : List Int) (n : Nat) (w : World) (e : Ending) (w' : World) : Prop :=
  e = .returned (.tuple #[.int .i64 (linesTo zs n).1, .int .i64 (linesTo zs n).2]) ∧ Below w.heap.size w w'

theorem linesTo_hit (zs : List Int) (k : Nat) (h : zs[k]?.getD 0 = 10) : (linesTo zs (k + 1)).1 = (linesTo zs k).1 + 1 ∧ (linesTo zs (k + 1)).2 = 0 := by
  rw [linesTo, if_pos h]; exact ⟨rfl, rfl⟩
theorem linesTo_miss (zs : List Int) (k : Nat) (h : ¬ zs[k]?.getD 0 = 10) : (linesTo zs (k + 1)).1 = (linesTo zs k).1 ∧ (linesTo zs (k + 1)).2 = (linesTo zs k).2 + 1 := by
  rw [linesTo, if_neg h]; exact ⟨rfl, rfl⟩
theorem linesTo_le (zs : List Int) (k : Nat) : (linesTo zs k).1 ≤ k ∧ (linesTo zs k).2 ≤ k := by
  induction k with
  | zero => simp [linesTo]
  | succ k ih => unfold linesTo; split <;> simp <;> omega

set_option maxHeartbeats 1000000 in
theorem lines_some (b off len cap : Nat) (zs : List Int) (at_ : Int) (w : World) (hlen : zs.length = len) (h1 : 1 ≤ len) (hl : len ≤ cap) (hcap : cap ≤ maxLen)
    (hat : At w .i64 b off zs) (ha : -9223372036854775808 ≤ at_ ∧ at_ ≤ 9223372036854775807) :
    Calls Try.prog 20 #[.slice (some ⟨b, off, none⟩) len cap, .int .i64 at_] w (LinesPost zs (cutAt len at_) w) := by
  unfold maxLen at hcap
  have H0 := Lib.hid hlen; clear hlen
  obtain ⟨ha1, ha2⟩ := ha
  have key : at_ ≤ 0 ∨ (∃ n : Nat, at_ = (n : Int) ∧ 1 ≤ n ∧ n ≤ len) ∨ (len : Int) < at_ := by
    by_cases h : (len : Int) < at_
    · exact .inr (.inr h)
    · by_cases h0 : 0 < at_
      · exact .inr (.inl ⟨at_.toNat, by omega, by omega, by omega⟩)
      · exact .inl (by omega)
  rcases key with h | ⟨n, rfl, hn1, hn2⟩ | h
  · have HN : Hid (cutAt len at_ = 0) := Lib.hid (by unfold cutAt; omega)
    go_enter Try.func20, Try.ntmps20
    go_wp2
    refine wp_loop_rounds 1 ?_; rw [rounds_succ]
    go_wp2
    go_ret2
    exact ⟨by rw [HN.out]; rfl, Below.refl _ _⟩
  · have HN : Hid (cutAt len n = n) := Lib.hid (by unfold cutAt; omega)
    go_enter Try.func20, Try.ntmps20
    go_wp2
    go_loopw [4, 5, 17] (fun l p i wr => ∃ k : Nat, k ≤ n ∧ i = .int .i64 k ∧ l = .int .i64 (linesTo zs k).1 ∧ p = .int .i64 (linesTo zs k).2 ∧ Below w.heap.size w wr) (fun _ _ i _ => n - (intOf i).toNat)
    case atStart => exact ⟨0, by omega, rfl, rfl, rfl, Below.refl _ _⟩
    case round =>
      obtain ⟨k, hk, rfl, rfl, rfl, hbl⟩ := hrel
      by_cases hlt : k < n
      · have c1 := (hat.later hbl hat.1).2 k (by rw [H0.out]; omega)
        have hle := linesTo_le zs k
        by_cases h10 : zs[k]?.getD 0 = 10
        · have HS := Lib.hid (linesTo_hit zs k h10)
          rw [h10] at c1
          clear h10
          go_wp2
          go_roundw
          case rel => exact ⟨k + 1, by omega, by go_num, by rw [HS.out.1]; go_num, by rw [HS.out.2]; rfl, hbl⟩
          case measure => simp [intOf]; omega
        · have HS := Lib.hid (linesTo_miss zs k h10)
          have h10' : (zs[k]?.getD 0 == 10) = false := by rw [beq_eq_false_iff_ne]; exact h10
          clear h10
          generalize zs[k]?.getD 0 = z at c1 h10'
          go_wp2
          go_roundw
          case rel => exact ⟨k + 1, by omega, by go_num, by rw [HS.out.1], by rw [HS.out.2]; go_num, hbl⟩
          case measure => simp [intOf]; omega
      · have : k = n := by omega
        subst this
        go_wp2
        go_ret2
        exact ⟨by rw [HN.out]; rfl, hbl⟩
  · have HN : Hid (cutAt len at_ = len) := Lib.hid (by unfold cutAt; omega)
    go_enter Try.func20, Try.ntmps20
    go_wp2
    go_loopw [4, 5, 17] (fun l p i wr => ∃ k : Nat, k ≤ len ∧ i = .int .i64 k ∧ l = .int .i64 (linesTo zs k).1 ∧ p = .int .i64 (linesTo zs k).2 ∧ Below w.heap.size w wr) (fun _ _ i _ => len - (intOf i).toNat)
    case atStart => exact ⟨0, by omega, rfl, rfl, rfl, Below.refl _ _⟩
    case round =>
      obtain ⟨k, hk, rfl, rfl, rfl, hbl⟩ := hrel
      by_cases hlt : k < len
      · have c1 := (hat.later hbl hat.1).2 k (by rw [H0.out]; omega)
        have hle := linesTo_le zs k
        by_cases h10 : zs[k]?.getD 0 = 10
        · have HS := Lib.hid (linesTo_hit zs k h10)
          rw [h10] at c1
          clear h10
          go_wp2
          go_roundw
          case rel => exact ⟨k + 1, by omega, by go_num, by rw [HS.out.1]; go_num, by rw [HS.out.2]; rfl, hbl⟩
          case measure => simp [intOf]; omega
        · have HS := Lib.hid (linesTo_miss zs k h10)
          have h10' : (zs[k]?.getD 0 == 10) = false := by rw [beq_eq_false_iff_ne]; exact h10
          clear h10
          generalize zs[k]?.getD 0 = z at c1 h10'
          go_wp2
          go_roundw
          case rel => exact ⟨k + 1, by omega, by go_num, by rw [HS.out.1], by rw [HS.out.2]; go_num, hbl⟩
          case measure => simp [intOf]; omega
      · have : k = len := by omega
        subst this
        go_wp2
        go_ret2
        exact ⟨by rw [HN.out]; rfl, hbl⟩

theorem lines_none (a : Option Addr) (cap : Nat) (at_ : Int) (w : World) (ha : -9223372036854775808 ≤ at_ ∧ at_ ≤ 9223372036854775807) :
    Calls Try.prog 20 #[.slice a 0 cap, .int .i64 at_] w (LinesPost [] (cutAt 0 at_) w) := by
  obtain ⟨ha1, ha2⟩ := ha
  have HN : Hid (cutAt 0 at_ = 0) := Lib.hid (by unfold cutAt; omega)
  by_cases h : at_ ≤ 0
  all_goals
    go_enter Try.func20, Try.ntmps20
    go_wp2
    refine wp_loop_rounds 1 ?_; rw [rounds_succ]
    go_wp2
    go_ret2
    exact ⟨by rw [HN.out]; rfl, Below.refl _ _⟩

/-- What Lines does. -/
theorem lines_any (a : Option Addr) (cap : Nat) (zs : List Int) (at_ : Int) (w : World) (hr : Reads w .i64 a cap zs) (ha : -9223372036854775808 ≤ at_ ∧ at_ ≤ 9223372036854775807) :
    Calls Try.prog 20 #[.slice a zs.length cap, .int .i64 at_] w (LinesPost zs (cutAt zs.length at_) w) := by
  obtain ⟨h1, h2, h3⟩ := hr
  by_cases h0 : zs = []
  · subst h0; exact lines_none a cap at_ w ha
  · obtain ⟨b, off, rfl, hat⟩ := h3.resolve_left h0
    exact lines_some b off zs.length cap zs at_ w rfl (List.length_pos_iff.2 h0) h1 h2 hat ha

theorem wf_u8 {zs : List Int} (h : ∀ n ∈ zs, (Lit.int .u8 n).wf = true) : U8 zs := fun z hz => by
  have := h z hz
  have e1 : IntKind.u8.min = 0 := rfl
  have e2 : IntKind.u8.max = 255 := rfl
  simp only [Lit.wf, Bool.and_eq_true, decide_eq_true_eq] at this
  omega
theorem wf_i64 {zs : List Int} (h : ∀ n ∈ zs, (Lit.int .i64 n).wf = true) : I64 zs := fun z hz => by
  have := h z hz
  have e1 : IntKind.i64.min = -9223372036854775808 := rfl
  have e2 : IntKind.i64.max = 9223372036854775807 := rfl
  simp only [Lit.wf, Bool.and_eq_true, decide_eq_true_eq] at this
  omega

/-- A slice of numbers that came in. -/
theorem reads_of_row {k : IntKind} {w : World} {a : Option Addr} {len cap : Nat} {zs : List Int}
    (h : (a = none ∧ len = 0 ∧ cap = 0 ∧ zs = []) ∨
      ∃ x, a = some x ∧ len ≤ cap ∧ cap ≤ maxLen ∧ zs.length = cap ∧ (∀ i, i < zs.length → w.cell? (x.add i) = some (.int k (zs.getD i 0))) ∧ ∀ n ∈ zs, (Lit.int k n).wf = true) :
    ∃ xs : List Int, xs.length = len ∧ Reads w k a cap xs ∧ ∀ n ∈ xs, (Lit.int k n).wf = true := by
  rcases h with ⟨rfl, rfl, rfl, rfl⟩ | ⟨x, rfl, hl, hm, hz, hc, hw⟩
  · exact ⟨[], rfl, ⟨by simp, by simp, .inl rfl⟩, by simp⟩
  · refine ⟨zs.take len, by simp; omega, ⟨by simp; omega, hm, ?_⟩, fun n hn => hw n (List.mem_of_mem_take hn)⟩
    by_cases h0 : len = 0
    · left; subst h0; simp
    · right
      obtain ⟨b, off, spot⟩ := x
      have hspot : spot = none := by simpa [Addr.add] using World.cell?_spot (hc 0 (by omega))
      subst hspot
      refine ⟨b, off, rfl, World.block_lt_of_cell? w _ (hc 0 (by omega)), fun j hj => ?_⟩
      simp at hj
      have := hc j (by omega)
      rw [show (⟨b, off, none⟩ : Addr).add j = ⟨b, off + j, none⟩ from by simp [Addr.add]] at this
      rw [this, List.getElem?_take_of_lt (by omega)]; simp
end Go.Proofs.Ytmcboiopglpbkaa
