/- A tree's elements, and those ahead of them: walks. -/
import Derived.Test.YtfgnepbpfglepaaDo6
namespace Go.Proofs.Ytfgnepbpfglepaa
open Go.RowKit
set_option linter.unusedVariables false
set_option linter.unusedSimpArgs false

/-- What stands at a place. -/
def atI (xs : List Nd) (p : Int) : Option Nd := if 0 ≤ p then xs[p.toNat]? else none
def elemB (xs : List Nd) (p : Int) : Bool := match atI xs p with | some x => decide (x.kind = 1) | none => false
theorem atI_nat (xs : List Nd) (k : Nat) : atI xs (k : Int) = xs[k]? := by unfold atI; rw [if_pos (by omega), Int.toNat_natCast]
theorem atI_cases (xs : List Nd) (p : Int) : (∃ (k : Nat) (x : Nd), p = (k : Int) ∧ xs[k]? = some x ∧ k < xs.length ∧ atI xs p = some x) ∨ (atI xs p = none ∧ (p < 0 ∨ (xs.length : Int) ≤ p)) := by
  by_cases h : 0 ≤ p
  · obtain ⟨k, rfl⟩ := Int.eq_ofNat_of_zero_le h
    rw [atI_nat]
    by_cases hk : k < xs.length
    · exact .inl ⟨k, xs[k], rfl, List.getElem?_eq_getElem hk, hk, List.getElem?_eq_getElem hk⟩
    · exact .inr ⟨List.getElem?_eq_none (by omega), .inr (by omega)⟩
  · exact .inr ⟨by unfold atI; rw [if_neg h], .inl (by omega)⟩

set_option maxRecDepth 100000 in
set_option maxHeartbeats 4000000 in
theorem has_any {w : World} {B t b r n : Nat} {xs : List Nd} (h : TreeAt w B t b r n xs) (p : Int) : Calls Try.prog 67 #[.pointer (some ⟨t, 0, none⟩), .int .i64 p] w (Told (.bool (atI xs p).isSome) w) := by
  have c0 := h.cells.cell 0 _ rfl
  have hn := h.doc.1
  rcases atI_cases xs p with ⟨k, x, rfl, _, hk, ha⟩ | ⟨ha, hp⟩
  · rw [ha]
    rw [← hn] at hk
    have HN := Lib.hid hn
    clear hn h ha
    have h1 : (0 : Int) ≤ (k : Int) := by omega
    have h2 : (k : Int) < (n : Int) := by omega
    go_enter Try.func67, Try.ntmps67
    go_wp2
    go_ret
    exact ⟨rfl, Below.refl _ _⟩
  · rw [ha]
    rw [← hn] at hp
    have HN := Lib.hid hn
    clear hn h ha
    by_cases h0 : 0 ≤ p
    · have h2 : ¬ p < (n : Int) := by omega
      clear hp
      go_enter Try.func67, Try.ntmps67
      go_wp2
      go_ret
      exact ⟨rfl, Below.refl _ _⟩
    · clear hp
      go_enter Try.func67, Try.ntmps67
      go_wp2
      go_ret
      exact ⟨rfl, Below.refl _ _⟩

theorem TreeAt.node {w : World} {B t b r n : Nat} {xs : List Nd} (h : TreeAt w B t b r n xs) {k : Nat} {x : Nd} (hx : xs[k]? = some x) : NodeAt (fun bl => B ≤ bl ∧ bl < w.heap.size) w b (k * 7) x := by
  obtain ⟨b', off, he, _, hN⟩ := h.doc.at k x hx
  cases he
  rwa [Nat.zero_add] at hN

set_option maxRecDepth 100000 in
set_option maxHeartbeats 4000000 in
theorem isElement_any {w : World} {B t b r n : Nat} {xs : List Nd} (h : TreeAt w B t b r n xs) (p : Int) : Calls Try.prog 43 #[.pointer (some ⟨t, 0, none⟩), .int .i64 p] w (Told (.bool (elemB xs p)) w) := by
  have f0 := has_any h p
  have HT := Lib.hid h
  unfold elemB
  rcases atI_cases xs p with ⟨k, x, rfl, hx, hk, ha⟩ | ⟨ha, hp⟩
  · rw [ha] at f0 ⊢
    have hX := Lib.hid hx
    rw [← h.doc.1] at hk
    clear h ha hx
    have h1 : (0 : Int) ≤ (k : Int) := by omega
    have h2 : (k : Int) < (n : Int) := by omega
    have q2 : (x.kind == 1) = decide (x.kind = 1) := rfl
    dsimp only [Option.isSome] at f0 ⊢
    go_enter Try.func43, Try.ntmps43
    go_wp2_with (first | (go_at_call 67; (refine f0.mono ?_); rintro e w1 ⟨rfl, hb1⟩; have T1 := HT.out.later hb1; have c0 := T1.cells.cell 0 _ rfl; have c1 := (T1.node hX.out).2.1; clear T1))
    go_ret
    exact ⟨rfl, hb1⟩
  · rw [ha] at f0 ⊢
    clear h ha hp
    dsimp only [Option.isSome] at f0 ⊢
    go_enter Try.func43, Try.ntmps43
    go_wp2_with (first | (go_at_call 67; (refine f0.mono ?_); rintro e w1 ⟨rfl, hb1⟩))
    go_ret
    exact ⟨rfl, hb1⟩

/-- A place, as it is told. -/
def tupV (p : Int) : Value := if p = -1 then .tuple #[.int .i64 0, .bool false] else .tuple #[.int .i64 p, .bool true]
set_option maxRecDepth 100000 in
set_option maxHeartbeats 4000000 in
theorem place_any (p : Int) (w : World) : Calls Try.prog 47 #[.int .i64 p] w (Tells (tupV p) w) := by
  unfold tupV
  by_cases h : p = -1
  · rw [if_pos h]
    subst h
    go_enter Try.func47, Try.ntmps47
    go_wp2
    refine bodyPost_ret (v := .tuple #[.int .i64 0, .bool false]) (by simp [results, Try.results47, go_sem]) rfl ⟨rfl, rfl⟩
  · rw [if_neg h]
    have q1 : (p == -1) = false := beq_eq_false_iff_ne.2 h
    clear h
    go_enter Try.func47, Try.ntmps47
    go_wp2
    refine bodyPost_ret (v := .tuple #[.int .i64 p, .bool true]) (by simp [results, Try.results47, go_sem]) rfl ⟨rfl, rfl⟩

def aheadI (xs : List Nd) (p : Int) : Int := if elemB xs p then aheadF xs p.toNat else -1
def parI (xs : List Nd) (p : Int) : Int := match atI xs p with | some x => if x.kind = 1 then x.par else -1 | none => -1
theorem tupV_none : tupV (-1) = .tuple #[.int .i64 0, .bool false] := rfl
theorem tupV_is (p : Int) : ∃ (m : Int) (o : Bool), tupV p = .tuple #[.int .i64 m, .bool o] := by
  unfold tupV; split
  · exact ⟨_, _, rfl⟩
  · exact ⟨_, _, rfl⟩
set_option maxRecDepth 100000 in
set_option maxHeartbeats 4000000 in
theorem ahead_any {w : World} {B t b r n : Nat} {xs : List Nd} (h : TreeAt w B t b r n xs) (p : Int) : Calls Try.prog 23 #[.pointer (some ⟨t, 0, none⟩), .int .i64 p] w (Told (tupV (aheadI xs p)) w) := by
  have f0 := isElement_any h p
  have HT := Lib.hid h
  unfold aheadI
  cases he : elemB xs p with
  | false =>
    rw [he] at f0
    rw [if_neg (by decide), tupV_none]
    clear h he
    go_enter Try.func23, Try.ntmps23
    go_wp2_with (first | (go_at_call 43; (refine f0.mono ?_); rintro e w1 ⟨rfl, hb1⟩))
    refine bodyPost_ret (v := .tuple #[.int .i64 0, .bool false]) (by simp [results, Try.results23, go_sem]) rfl ⟨rfl, hb1⟩
  | true =>
    rw [he] at f0
    rw [if_pos rfl]
    rcases atI_cases xs p with ⟨k, x, rfl, hx, hk, ha⟩ | ⟨ha, hp⟩
    · rw [← h.doc.1] at hk
      rw [Int.toNat_natCast]
      have p0 := fun w => place_any (aheadF xs k) w
      have hc := HT.out.row k hk
      generalize aheadF xs k = z at *
      obtain ⟨m, o, hmo⟩ := tupV_is z
      rw [hmo] at p0 ⊢
      have HC := Lib.hid hc
      clear h he ha hx hmo hc
      have h1 : (0 : Int) ≤ (k : Int) := by omega
      have h2 : (k : Int) < (n : Int) := by omega
      go_enter Try.func23, Try.ntmps23
      go_wp2_with (first
        | (go_at_call 43; (refine f0.mono ?_); rintro e w1 ⟨rfl, hb1⟩; have c0 := (HT.out.later hb1).cells.cell 1 _ rfl; have c1 := (hb1.cell (p := ⟨r, k, none⟩) HT.out.hr.2).trans HC.out)
        | (go_at_call 47; (refine (p0 _).mono ?_); rintro e wq ⟨rfl, hwq⟩; replace hwq := hwq.symm; subst hwq))
      refine bodyPost_ret (v := .tuple #[.int .i64 m, .bool o]) (by simp [results, Try.results23, go_sem]) rfl ⟨rfl, hb1⟩
    · unfold elemB at he
      rw [ha] at he
      cases he
set_option maxRecDepth 100000 in
set_option maxHeartbeats 4000000 in
theorem parent_any {w : World} {B t b r n : Nat} {xs : List Nd} (h : TreeAt w B t b r n xs) (p : Int) : Calls Try.prog 21 #[.pointer (some ⟨t, 0, none⟩), .int .i64 p] w (Told (tupV (parI xs p)) w) := by
  have f0 := isElement_any h p
  have HT := Lib.hid h
  unfold parI
  unfold elemB at f0
  rcases atI_cases xs p with ⟨k, x, rfl, hx, hk, ha⟩ | ⟨ha, hp⟩
  · rw [ha] at f0 ⊢
    dsimp only at f0 ⊢
    rw [← h.doc.1] at hk
    by_cases h1 : x.kind = 1
    · rw [decide_eq_true h1] at f0
      rw [if_pos h1]
      have p0 := fun w => place_any x.par w
      obtain ⟨m, o, hmo⟩ := tupV_is x.par
      rw [hmo] at p0 ⊢
      have HX := Lib.hid hx
      have h1 : (0 : Int) ≤ (k : Int) := by omega
      have h2 : (k : Int) < (n : Int) := by omega
      clear h ha hx hmo
      go_enter Try.func21, Try.ntmps21
      go_wp2_with (first
        | (go_at_call 43; (refine f0.mono ?_); rintro e w1 ⟨rfl, hb1⟩; have c0 := (HT.out.later hb1).cells.cell 0 _ rfl; have c1 := ((HT.out.later hb1).node HX.out).1)
        | (go_at_call 47; (refine (p0 _).mono ?_); rintro e wq ⟨rfl, hwq⟩; replace hwq := hwq.symm; subst hwq))
      refine bodyPost_ret (v := .tuple #[.int .i64 m, .bool o]) (by simp [results, Try.results21, go_sem]) rfl ⟨rfl, hb1⟩
    · rw [decide_eq_false h1] at f0
      rw [if_neg h1, tupV_none]
      clear h ha hx
      go_enter Try.func21, Try.ntmps21
      go_wp2_with (first | (go_at_call 43; (refine f0.mono ?_); rintro e w1 ⟨rfl, hb1⟩))
      refine bodyPost_ret (v := .tuple #[.int .i64 0, .bool false]) (by simp [results, Try.results21, go_sem]) rfl ⟨rfl, hb1⟩
  · rw [ha] at f0 ⊢
    dsimp only at f0 ⊢
    rw [tupV_none]
    clear h ha hp
    go_enter Try.func21, Try.ntmps21
    go_wp2_with (first | (go_at_call 43; (refine f0.mono ?_); rintro e w1 ⟨rfl, hb1⟩))
    refine bodyPost_ret (v := .tuple #[.int .i64 0, .bool false]) (by simp [results, Try.results21, go_sem]) rfl ⟨rfl, hb1⟩
end Go.Proofs.Ytfgnepbpfglepaa
