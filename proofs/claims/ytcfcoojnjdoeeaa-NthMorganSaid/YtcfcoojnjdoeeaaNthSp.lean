/- Span of a list of An+B, by the program and by the document: walks. -/
import Derived.Test.YtcfcoojnjdoeeaaNthG
namespace Go.Proofs.Ytcfcoojnjdoeeaa
open Go.RowKit

/-- A slice of An+B reads as a list of pairs. -/
def RdP (w : World) (a : Option Addr) (xs : List (Int × Int)) : Prop :=
  xs = [] ∨ ∃ b off, a = some ⟨b, off, none⟩ ∧ b < w.heap.size ∧ ∀ i x, xs[i]? = some x → w.cell? ⟨b, off + i * 2, none⟩ = some (.int .i64 x.1) ∧ w.cell? ⟨b, off + i * 2 + 1, none⟩ = some (.int .i64 x.2)
theorem RdP.later {w w' : World} {a : Option Addr} {xs : List (Int × Int)} (h : RdP w a xs) (hb : Below w.heap.size w w') : RdP w' a xs := by
  rcases h with h | ⟨b, off, rfl, hlt, hc⟩
  · exact .inl h
  · exact .inr ⟨b, off, rfl, Nat.lt_of_lt_of_le hlt hb.size, fun i x hi => ⟨(hb.cell (p := ⟨b, off + i * 2, none⟩) hlt).trans (hc i x hi).1, (hb.cell (p := ⟨b, off + i * 2 + 1, none⟩) hlt).trans (hc i x hi).2⟩⟩
/-- The numbers are at most 2^40. -/
def Fits (xs : List (Int × Int)) : Prop := ∀ x ∈ xs, (-1099511627776 ≤ x.1 ∧ x.1 ≤ 1099511627776) ∧ (-1099511627776 ≤ x.2 ∧ x.2 ≤ 1099511627776)

def spanH (a b : Int) : Nat := if 0 < a then (max 1 b - 1).toNat else (max 0 b).toNat
def spanR (a : Int) : Nat := max a.natAbs 1
def spanStep (s : Nat × Nat) (x : Int × Int) : Nat × Nat := (max s.1 (spanH x.1 x.2), mulF s.2 (spanR x.1))
def spanF (xs : List (Int × Int)) : Nat × Nat := xs.foldl spanStep (0, 1)

theorem take_snocP {xs : List (Int × Int)} {k : Nat} {x : Int × Int} (h : xs[k]? = some x) : xs.take (k + 1) = xs.take k ++ [x] := by
  rw [List.take_add_one, h]; rfl
theorem spanF_snoc (xs : List (Int × Int)) (x : Int × Int) : spanF (xs ++ [x]) = spanStep (spanF xs) x := by unfold spanF; rw [List.foldl_append]; rfl
theorem spanF_bd (xs : List (Int × Int)) (hx : Fits xs) : (spanF xs).1 ≤ 1099511627776 ∧ 1 ≤ (spanF xs).2 ∧ (spanF xs).2 ≤ 4611686018427387904 := by
  unfold spanF
  suffices h : ∀ (ys : List (Int × Int)) (s : Nat × Nat), Fits ys → s.1 ≤ 1099511627776 ∧ 1 ≤ s.2 ∧ s.2 ≤ 4611686018427387904 → (ys.foldl spanStep s).1 ≤ 1099511627776 ∧ 1 ≤ (ys.foldl spanStep s).2 ∧ (ys.foldl spanStep s).2 ≤ 4611686018427387904 from
    h xs (0, 1) hx (by simp)
  intro ys
  induction ys with
  | nil => intro s _ h; exact h
  | cons y ys ih =>
    intro s hy hs
    refine ih _ (fun z hz => hy z (List.mem_cons_of_mem _ hz)) ⟨?_, mulF_pos _ _ hs.2.1 (by unfold spanR; omega), mulF_le _ _ (by unfold spanR; omega)⟩
    have := hy y (List.mem_cons_self ..)
    show max s.1 (spanH y.1 y.2) ≤ _
    unfold spanH
    split <;> omega

set_option maxRecDepth 100000 in
set_option maxHeartbeats 1000000 in
theorem spanHead_any (a b : Int) (w : World) (ha : -1099511627776 ≤ a ∧ a ≤ 1099511627776) (hb : -1099511627776 ≤ b ∧ b ≤ 1099511627776) :
    Calls Try.prog 37 #[.agg #[.int .i64 a, .int .i64 b]] w (ToldB (.int .i64 (spanH a b : Nat)) w) := by
  obtain ⟨a1, a2⟩ := ha
  obtain ⟨b1, b2⟩ := hb
  by_cases h : 0 < a
  · have e1 : ((spanH a b : Nat) : Int) = max 1 b - 1 := by unfold spanH; rw [if_pos h]; omega
    rw [e1]
    clear e1
    by_cases hb : 1 < b
    all_goals
      go_enter Try.func37, Try.ntmps37
      go_wp2
      go_ret
      exact ⟨ret_int (by omega), (Below.refl _ w).alloc (Nat.le_refl _) _⟩
  · have e1 : ((spanH a b : Nat) : Int) = max 0 b := by unfold spanH; rw [if_neg h]; omega
    rw [e1]
    clear e1
    by_cases hb : 0 < b
    all_goals
      go_enter Try.func37, Try.ntmps37
      go_wp2
      go_ret
      exact ⟨ret_int (by omega), (Below.refl _ w).alloc (Nat.le_refl _) _⟩

set_option maxRecDepth 100000 in
set_option maxHeartbeats 1000000 in
theorem spanRound_any (a b : Int) (w : World) (ha : -1099511627776 ≤ a ∧ a ≤ 1099511627776) :
    Calls Try.prog 39 #[.agg #[.int .i64 a, .int .i64 b]] w (ToldB (.int .i64 (spanR a : Nat)) w) := by
  obtain ⟨a1, a2⟩ := ha
  have e1 : ((spanR a : Nat) : Int) = max (max a (-a)) 1 := by unfold spanR; omega
  rw [e1]
  clear e1
  rcases Int.lt_trichotomy a 0 with h | h | h
  · go_enter Try.func39, Try.ntmps39
    go_wp2
    all_goals
      go_ret
      exact ⟨ret_int (by omega), (Below.refl _ w).alloc (Nat.le_refl _) _⟩
  · subst h
    go_enter Try.func39, Try.ntmps39
    go_wp2
    all_goals
      go_ret
      exact ⟨ret_int (by omega), (Below.refl _ w).alloc (Nat.le_refl _) _⟩
  · go_enter Try.func39, Try.ntmps39
    go_wp2
    all_goals
      go_ret
      exact ⟨ret_int (by omega), (Below.refl _ w).alloc (Nat.le_refl _) _⟩

set_option maxRecDepth 100000 in
set_option maxHeartbeats 2000000 in
theorem span_any (a : Option Addr) (n cap : Nat) (xs : List (Int × Int)) (hn : xs.length = n) (hcap : n ≤ 1000) (w : World) (hr : RdP w a xs) (hx : Fits xs) :
    Calls Try.prog 16 #[.slice a n cap] w (ToldB (.tuple #[.int .i64 ((spanF xs).1 : Nat), .int .i64 ((spanF xs).2 : Nat)]) w) := by
  have HN := Lib.hid hn
  have HR := Lib.hid hr
  have HX := Lib.hid hx
  clear hn hr hx
  obtain ⟨F, hF⟩ : ∃ F, spanF xs = F := ⟨_, rfl⟩
  have HF := Lib.hid hF
  rw [hF]
  clear hF
  go_enter Try.func16, Try.ntmps16
  go_wp2
  go_loopw [2, 3, 5, 8] (fun hv pv _ i wr => ∃ k : Nat, k ≤ n ∧ i = .int .i64 k ∧ (∃ h p : Nat, hv = .int .i64 h ∧ pv = .int .i64 p ∧ Hid (spanF (xs.take k) = (h, p))) ∧ Below w.heap.size w wr) (fun _ _ _ i _ => n - (intOf i).toNat)
  case atStart => exact ⟨0, by omega, rfl, ⟨0, 1, rfl, rfl, Lib.hid rfl⟩, Below.refl _ _⟩
  case round =>
    obtain ⟨k, hk, rfl, ⟨h, p, rfl, rfl, hs⟩, hbl⟩ := hrel
    by_cases hlt : k < n
    · obtain ⟨x, hxk⟩ : ∃ x, xs[k]? = some x := ⟨_, List.getElem?_eq_getElem (by rw [HN.out]; exact hlt)⟩
      have hfx := HX.out x (List.mem_of_getElem? hxk)
      have hbd := spanF_bd (xs.take k) (fun y hy => HX.out y (List.mem_of_mem_take hy))
      rw [hs.out] at hbd
      obtain ⟨hb1, hb2, hb3⟩ := hbd
      have hsn := spanF_snoc (xs.take k) x
      rw [← take_snocP hxk, hs.out] at hsn
      have HS := Lib.hid hsn
      clear hsn hs
      rcases HR.out.later hbl with h0 | ⟨b, off, rfl, hlt2, hc⟩
      · rw [h0] at hxk; cases hxk
      obtain ⟨c0, c1⟩ := hc k x hxk
      clear hc
      obtain ⟨x1, x2⟩ := x
      simp only at c0 c1 hfx
      have hkI : (0 : Int) ≤ (k : Int) := by omega
      have hkI2 : (k : Int) < (n : Int) := by omega
      have cH := fun w => spanHead_any x1 x2 w hfx.1 hfx.2
      have cR := fun w => spanRound_any x1 x2 w hfx.1
      have hSR : 1 ≤ spanR x1 ∧ spanR x1 ≤ 4611686018427387904 := by have := hfx.1; unfold spanR; omega
      have cM := fun w => multiple_any p (spanR x1) w ⟨hb2, hb3⟩ hSR
      have hst : spanStep (h, p) (x1, x2) = (max h (spanH x1 x2), mulF p (spanR x1)) := rfl
      rw [hst] at HS
      have hSH : spanH x1 x2 ≤ 1099511627776 := by have := hfx.1; have := hfx.2; unfold spanH; split <;> omega
      clear hst hSR hfx
      generalize spanH x1 x2 = sh at *
      generalize spanR x1 = sr at *
      generalize mulF p sr = np at *
      clear hb3
      by_cases hmx : h < sh
      · have hM := HS.out
        rw [Nat.max_eq_right (by omega)] at hM
        have HM := Lib.hid hM
        clear hM HS
        go_wp2_with fail
        refine (cH _).mono ?_
        rintro e w2 ⟨rfl, hb2⟩
        have hc0 := hb2.cell (p := ⟨wr.heap.size, 0, none⟩) (by simp)
        have hc1 := hb2.cell (p := ⟨wr.heap.size, 1, none⟩) (by simp)
        have B2 := (hbl.alloc hbl.size (.cells #[.int .i64 x1, .int .i64 x2] 23)).trans (hb2.mono (by simp; have := hbl.size; omega))
        go_wp2_with (first
          | (go_at_call 39; refine (cR _).mono ?_; rintro e w3 ⟨rfl, hb3⟩)
          | (go_at_call 38; refine (cM _).mono ?_; rintro e w4 ⟨rfl, hb4⟩))
        have B4 := (B2.trans (hb3.mono B2.size)).trans (hb4.mono (Nat.le_trans B2.size hb3.size))
        go_roundw
        case rel => exact ⟨k + 1, by omega, by go_num, ⟨_, _, rfl, rfl, HM⟩, B4⟩
        case measure => simp [intOf]; omega
      · have hM := HS.out
        rw [Nat.max_eq_left (by omega)] at hM
        have HM := Lib.hid hM
        clear hM HS
        go_wp2_with fail
        refine (cH _).mono ?_
        rintro e w2 ⟨rfl, hb2⟩
        have hc0 := hb2.cell (p := ⟨wr.heap.size, 0, none⟩) (by simp)
        have hc1 := hb2.cell (p := ⟨wr.heap.size, 1, none⟩) (by simp)
        have B2 := (hbl.alloc hbl.size (.cells #[.int .i64 x1, .int .i64 x2] 23)).trans (hb2.mono (by simp; have := hbl.size; omega))
        go_wp2_with (first
          | (go_at_call 39; refine (cR _).mono ?_; rintro e w3 ⟨rfl, hb3⟩)
          | (go_at_call 38; refine (cM _).mono ?_; rintro e w4 ⟨rfl, hb4⟩))
        have B4 := (B2.trans (hb3.mono B2.size)).trans (hb4.mono (Nat.le_trans B2.size hb3.size))
        go_roundw
        case rel => exact ⟨k + 1, by omega, by go_num, ⟨_, _, rfl, rfl, HM⟩, B4⟩
        case measure => simp [intOf]; omega
    · obtain rfl : k = n := by omega
      have he : xs.take k = xs := List.take_of_length_le (by rw [HN.out]; omega)
      rw [he] at hs
      obtain rfl : F = (h, p) := HF.out.symm.trans hs.out
      clear hs he HF HN
      go_wp2
      go_ret2
      exact ⟨rfl, hbl⟩
end Go.Proofs.Ytcfcoojnjdoeeaa
