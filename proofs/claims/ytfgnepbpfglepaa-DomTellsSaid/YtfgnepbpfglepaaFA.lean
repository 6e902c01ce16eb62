/- Several texts of mine in one. -/
import Derived.Test.YtfgnepbpfglepaaDo7
import Derived.Test.YtfgnepbpfglepaaDo8
import Derived.Test.YtfgnepbpfglepaaDp2
namespace Go.Proofs.Ytfgnepbpfglepaa
section
open Go.RowKit
set_option linter.unusedVariables false
set_option linter.unusedSimpArgs false

set_option maxRecDepth 100000 in
set_option maxHeartbeats 4000000 in
theorem relement_any (xs : List Nd) (a : Option Addr) (n c : Nat) (p : Int) (ok : Nat → Prop) (w : World) (hx : RdN ok w a n c xs) : Calls Try.prog 19 #[.slice a n c, .int .i64 p] w (Tells (.bool (elemB xs p)) w) := by
  have hm : n ≤ 9223372036854775807 := by have := hx.2.1; have := hx.2.2.1.1; unfold maxLen at this; omega
  have HN := Lib.hid hx.1
  unfold elemB
  rcases atI_cases xs p with ⟨k, x, rfl, hxk, hk, ha⟩ | ⟨ha, hp⟩
  · obtain ⟨b, off, rfl, hb, _, x1, _⟩ := hx.at k x hxk
    rw [ha]
    rw [← HN.out] at hk
    have h1 : (0 : Int) ≤ (k : Int) := by omega
    have h2 : (k : Int) < (n : Int) := by omega
    have q1 : (x.kind == 1) = decide (x.kind = 1) := rfl
    clear hx hxk ha
    dsimp only
    generalize decide (x.kind = 1) = r at *
    generalize x.kind = kk at *
    go_enter Try.func19, Try.ntmps19
    go_wp2
    go_ret
    exact ⟨rfl, rfl⟩
  · rw [ha]
    rw [← HN.out] at hp
    clear hx ha
    dsimp only
    by_cases h0 : 0 ≤ p
    · have h2 : ¬ p < (n : Int) := by omega
      clear hp
      go_enter Try.func19, Try.ntmps19
      go_wp2
      go_ret
      exact ⟨rfl, rfl⟩
    · clear hp
      go_enter Try.func19, Try.ntmps19
      go_wp2
      go_ret
      exact ⟨rfl, rfl⟩
end

section
open Go.RowKit
set_option linter.unusedVariables false
set_option linter.unusedSimpArgs false

/-- A row of one's own as what is handed back. -/
theorem row_post {w w' : World} {v : Value} {acc zs : List Nat} (h : w'.ownsRow w.heap.size 3 1 v acc.length (vI acc)) (he : acc = zs) (hb : Below w.heap.size w w') : RowP zs w (.returned v) w' := by
  subst he
  have h2 : w'.ownsRow w.heap.size 3 1 v (acc.map fun j : Nat => (j : Int)).length ((acc.map fun j : Nat => (j : Int)).map (Value.int .i64)) := by
    rw [List.length_map, List.map_map]; exact h
  obtain ⟨a, c, rfl, hr⟩ := Reads.of_owns h2
  refine ⟨a, c, by rw [List.length_map], hr, hb⟩

set_option maxRecDepth 100000 in
set_option maxHeartbeats 4000000 in
theorem rrow_any (xs : List Nd) (a : Option Addr) (n c : Nat) (p : Int) (w : World) (hx : RdN (· < w.heap.size) w a n c xs) (hn : n ≤ 1000000) : Calls Try.prog 38 #[.slice a n c, .int .i64 p] w (RowP (rowI xs p) w) := by
  obtain ⟨i0, hi, hz⟩ := Option.map_eq_some_iff.1 TryinfoIntR
  simp only [Prod.mk.injEq] at hz
  obtain ⟨hz0, hz1, hz2⟩ := hz
  have HX := Lib.hid (fun w' (hb : Below w.heap.size w w') => hx.later hb (Nat.le_refl _))
  have HN := Lib.hid hx.1
  have hown0 := owns_emptyN (base := w.heap.size) 1 (heap_alloc_new w (.cells #[] 3)) (Nat.le_refl _)
  have hb0 := (Below.refl w.heap.size w).alloc (Nat.le_refl _) (.cells #[] 3)
  have HO0 := Lib.hid hown0
  have HB0 := Lib.hid hb0
  have fE := fun w' (hb : Below w.heap.size w w') => relement_any xs a n c p (· < w'.heap.size) w' (HX.out w' hb)
  have HE := Lib.hid fE
  clear hx hown0 hb0 fE
  unfold rowI
  cases he : elemB xs p with
  | false =>
    rw [if_neg (by decide)]
    have f0 := HE.out _ HB0.out
    rw [he] at f0
    clear he
    go_enter Try.func38, Try.ntmps38
    go_wp2_with fail
    refine wp_loop_rounds 1 ?_
    rw [rounds_succ]
    go_wp2_with (go_at_call 19; (refine f0.mono ?_); rintro e wq ⟨rfl, hwq⟩; replace hwq := hwq.symm; subst hwq)
    go_ret
    exact row_post (acc := []) HO0.out rfl HB0.out
  | true =>
    rw [if_pos rfl]
    have hex : ∃ (k : Nat) (x : Nd), p = (k : Int) ∧ xs[k]? = some x ∧ x.kind = 1 := by
      unfold elemB at he
      rcases atI_cases xs p with ⟨k, x, rfl, hx, hk, ha⟩ | ⟨ha, hp⟩
      · rw [ha] at he
        exact ⟨k, x, rfl, hx, of_decide_eq_true he⟩
      · rw [ha] at he
        cases he
    obtain ⟨k0, x0, rfl, hx0, hk0⟩ := hex
    have hF : Hid (rowF xs ((k0 : Nat) : Int).toNat = (desc xs x0.par (k0 + 1)).reverse) := Lib.hid (by
      rw [Int.toNat_natCast]
      unfold rowF
      rw [hx0]
      simp only
      rw [if_pos hk0])
    have hk0n : k0 < n := by rw [HN.out]; exact (List.getElem?_eq_some_iff.1 hx0).1
    have HE2 := Lib.hid (fun w' (hb : Below w.heap.size w w') => by have := HE.out w' hb; rw [he] at this; exact this)
    have HX0 := Lib.hid hx0
    clear he HE hx0 hk0
    go_enter Try.func38, Try.ntmps38
    go_wp2_with fail
    go_loopw [5, 6] (fun s5 i wr => ∃ k : Nat, k ≤ k0 + 1 ∧ i = .int .i64 k ∧ Hid (wr.ownsRow w.heap.size 3 1 s5 (desc xs x0.par k).reverse.length (vI (desc xs x0.par k).reverse)) ∧ Hid (Below w.heap.size w wr)) (fun _ i _ => k0 + 1 - (intOf i).toNat)
    case atStart => exact ⟨0, by omega, rfl, HO0, HB0⟩
    case round =>
      obtain ⟨k, hk, rfl, HO, HW⟩ := hrel
      have fE := HE2.out _ HW.out
      by_cases hlt : k ≤ k0
      · obtain ⟨x, hxk⟩ : ∃ x, xs[k]? = some x := ⟨_, List.getElem?_eq_getElem (by rw [← HN.out]; omega)⟩
        have HXr := HX.out wr HW.out
        obtain ⟨b, off, rfl, hb, x1, x2, _⟩ := HXr.at k x hxk
        obtain ⟨b', off', hbe, hb', y1, _⟩ := HXr.at k0 x0 HX0.out
        cases hbe
        have hkI : (0 : Int) ≤ (k : Int) := by omega
        have hkI2 : (k : Int) ≤ (k0 : Int) := by omega
        have hkI3 : (k : Int) < (n : Int) := by omega
        have hkI4 : (k0 : Int) < (n : Int) := by omega
        have hkI5 : (0 : Int) ≤ (k0 : Int) := by omega
        have hnc : n ≤ 9223372036854775807 := by omega
        have hal : (desc xs x0.par k).reverse.length ≤ n := by rw [List.length_reverse]; have := desc_len xs x0.par k; omega
        have hd : Hid (desc xs x0.par (k + 1) = if (decide (x.kind = 1) && decide (x.par = x0.par)) = true then k :: desc xs x0.par k else desc xs x0.par k) := Lib.hid (by
          rw [desc_succ]
          unfold hit
          rw [hxk])
        have q1 : (x.kind == 1) = decide (x.kind = 1) := rfl
        have q2 : (x.par == x0.par) = decide (x.par = x0.par) := rfl
        clear hxk HXr
        generalize decide (x.kind = 1) = r1 at *
        generalize decide (x.par = x0.par) = r2 at *
        cases r1
        · have hst := Lib.hid (show desc xs x0.par (k + 1) = desc xs x0.par k from by rw [hd.out]; rfl)
          go_wp2_with (go_at_call 19; (refine fE.mono ?_); rintro e wq ⟨rfl, hwq⟩; replace hwq := hwq.symm; subst hwq)
          go_quiet (fail)
          go_wp2
          go_roundw
          case rel => exact ⟨k + 1, by omega, by go_num, Lib.hid (by rw [hst.out]; exact HO.out), Lib.hid (below_drewN HW.out _)⟩
          case measure => simp [intOf]; omega
        · cases r2
          · have hst := Lib.hid (show desc xs x0.par (k + 1) = desc xs x0.par k from by rw [hd.out]; rfl)
            go_wp2_with (go_at_call 19; (refine fE.mono ?_); rintro e wq ⟨rfl, hwq⟩; replace hwq := hwq.symm; subst hwq)
            go_quiet (fail)
            go_wp2
            go_roundw
            case rel => exact ⟨k + 1, by omega, by go_num, Lib.hid (by rw [hst.out]; exact HO.out), Lib.hid (below_drewN HW.out _)⟩
            case measure => simp [intOf]; omega
          · have hst := Lib.hid (show desc xs x0.par (k + 1) = k :: desc xs x0.par k from by rw [hd.out]; rfl)
            go_wp2_with (go_at_call 19; (refine fE.mono ?_); rintro e wq ⟨rfl, hwq⟩; replace hwq := hwq.symm; subst hwq)
            go_quiet (fail)
            go_wp2_with (at_builtin; refine wpList_append_own _ rfl _ _ 37 rfl w.heap.size 3 i0 (.int .i64 0) 1 8 Try.underlying37 hi hz0 hz1 hz2 rfl (by decide) _ _ _ rfl ((show World.ownsRow (wr.drewN _) _ _ _ _ _ _ from HO.out).alloc _) ⟨wr.heap.size, 0, none⟩ 1 1 [.int .i64 (k : Int)] rfl rfl (cell_one_new _ _ _) (fun x hx => by simp at hx; subst hx; rfl) (by unfold maxLen; omega) (by omega) (by have := HW.out.size; simp; omega) ?_; intro v' w2 hown2 hgrow2 _)
            have hb2 := ((below_drewN HW.out _).alloc HW.out.size (.cells #[.int .i64 (k : Int)] 3)).grown hgrow2 (by have := HW.out.size; simp; omega) (fun k hk => own_base HO.out k hk)
            have hown3 : Hid (w2.ownsRow w.heap.size 3 1 v' (desc xs x0.par (k + 1)).reverse.length (vI (desc xs x0.par (k + 1)).reverse)) := Lib.hid (by rw [hst.out, List.reverse_cons, vI_snoc, List.length_append]; exact hown2)
            have Hb2 := Lib.hid hb2
            clear hb2 hown2 hgrow2
            go_wp2
            go_roundw
            case rel => exact ⟨k + 1, by omega, by go_num, hown3, Hb2⟩
            case measure => simp [intOf]; omega
      · obtain rfl : k = k0 + 1 := by omega
        have hkI2 : ¬ ((k0 + 1 : Nat) : Int) ≤ (k0 : Int) := by omega
        go_wp2_with (go_at_call 19; (refine fE.mono ?_); rintro e wq ⟨rfl, hwq⟩; replace hwq := hwq.symm; subst hwq)
        go_ret
        exact row_post HO.out (by rw [hF.out]) HW.out
end

section
open Go.RowKit
set_option linter.unusedVariables false
set_option linter.unusedSimpArgs false

/-- The elements ahead of a place. -/
def elsTo (xs : List Nd) : Nat → List Nat
  | 0 => []
  | k + 1 => if elemB xs (k : Int) = true then elsTo xs k ++ [k] else elsTo xs k
theorem elsTo_succ (xs : List Nd) (k : Nat) : elsTo xs (k + 1) = if elemB xs (k : Int) = true then elsTo xs k ++ [k] else elsTo xs k := rfl
theorem elsTo_len (xs : List Nd) : ∀ k, (elsTo xs k).length ≤ k
  | 0 => Nat.le_refl _
  | k + 1 => by
    have := elsTo_len xs k
    rw [elsTo_succ]
    split
    · rw [List.length_append]; simp; omega
    · omega

set_option maxRecDepth 100000 in
set_option maxHeartbeats 4000000 in
theorem relements_any (xs : List Nd) (a : Option Addr) (n c : Nat) (w : World) (hx : RdN (· < w.heap.size) w a n c xs) (hn : n ≤ 1000000) : Calls Try.prog 18 #[.slice a n c] w (RowP (elsTo xs n) w) := by
  obtain ⟨i0, hi, hz⟩ := Option.map_eq_some_iff.1 TryinfoIntR
  simp only [Prod.mk.injEq] at hz
  obtain ⟨hz0, hz1, hz2⟩ := hz
  have HX := Lib.hid (fun w' (hb : Below w.heap.size w w') => hx.later hb (Nat.le_refl _))
  have HN := Lib.hid hx.1
  have HO0 := Lib.hid (owns_emptyN (base := w.heap.size) 1 (heap_alloc_new w (.cells #[] 3)) (Nat.le_refl _))
  have HB0 := Lib.hid ((Below.refl w.heap.size w).alloc (Nat.le_refl _) (.cells #[] 3))
  have hm : n ≤ 9223372036854775807 := by omega
  clear hx
  go_enter Try.func18, Try.ntmps18
  go_wp2_with fail
  go_loopw [3, 4] (fun s3 i wr => ∃ k : Nat, k ≤ n ∧ i = .int .i64 k ∧ Hid (wr.ownsRow w.heap.size 3 1 s3 (elsTo xs k).length (vI (elsTo xs k))) ∧ Hid (Below w.heap.size w wr)) (fun _ i _ => n - (intOf i).toNat)
  case atStart => exact ⟨0, by omega, rfl, HO0, HB0⟩
  case round =>
    obtain ⟨k, hk, rfl, HO, HW⟩ := hrel
    by_cases hlt : k < n
    · obtain ⟨x, hxk⟩ : ∃ x, xs[k]? = some x := ⟨_, List.getElem?_eq_getElem (by rw [← HN.out]; omega)⟩
      obtain ⟨b, off, rfl, hb, x1, x2, _⟩ := (HX.out wr HW.out).at k x hxk
      have hkI : (0 : Int) ≤ (k : Int) := by omega
      have hkI3 : (k : Int) < (n : Int) := by omega
      have hal := elsTo_len xs k
      have hd : Hid (elsTo xs (k + 1) = if decide (x.kind = 1) = true then elsTo xs k ++ [k] else elsTo xs k) := Lib.hid (by
        rw [elsTo_succ]
        unfold elemB
        rw [atI_nat, hxk])
      have q1 : (x.kind == 1) = decide (x.kind = 1) := rfl
      clear hxk
      generalize decide (x.kind = 1) = r1 at *
      generalize x.kind = kk at *
      cases r1
      · have hst := Lib.hid (show elsTo xs (k + 1) = elsTo xs k from by rw [hd.out]; rfl)
        go_wp2
        go_roundw
        case rel => exact ⟨k + 1, by omega, by go_num, Lib.hid (by rw [hst.out]; exact HO.out), HW⟩
        case measure => simp [intOf]; omega
      · have hst := Lib.hid (show elsTo xs (k + 1) = elsTo xs k ++ [k] from by rw [hd.out]; rfl)
        go_wp2_with (at_builtin; refine wpList_append_own _ rfl _ _ 37 rfl w.heap.size 3 i0 (.int .i64 0) 1 8 Try.underlying37 hi hz0 hz1 hz2 rfl (by decide) _ _ _ rfl (HO.out.alloc _) ⟨wr.heap.size, 0, none⟩ 1 1 [.int .i64 (k : Int)] rfl rfl (cell_one_new _ _ _) (fun x hx => by simp at hx; subst hx; rfl) (by unfold maxLen; omega) (by omega) (by have := HW.out.size; simp; omega) ?_; intro v' w2 hown2 hgrow2 _)
        have hb2 := (HW.out.alloc HW.out.size (.cells #[.int .i64 (k : Int)] 3)).grown hgrow2 (by have := HW.out.size; simp; omega) (fun k hk => own_base HO.out k hk)
        have hown3 : Hid (w2.ownsRow w.heap.size 3 1 v' (elsTo xs (k + 1)).length (vI (elsTo xs (k + 1)))) := Lib.hid (by rw [hst.out, vI_snoc, List.length_append]; exact hown2)
        have Hb2 := Lib.hid hb2
        clear hb2 hown2 hgrow2
        go_wp2
        go_roundw
        case rel => exact ⟨k + 1, by omega, by go_num, hown3, Hb2⟩
        case measure => simp [intOf]; omega
    · obtain rfl : k = n := by omega
      have hkI2 : ¬ (k : Int) < (k : Int) := by omega
      go_wp2
      go_ret
      exact row_post HO.out rfl HW.out

set_option maxRecDepth 100000 in
set_option maxHeartbeats 4000000 in
theorem elements_any {w : World} {B t b r n : Nat} {xs : List Nd} (h : TreeAt w B t b r n xs) (hn : n ≤ 1000000) : Calls Try.prog 17 #[.pointer (some ⟨t, 0, none⟩)] w (RowP (elsTo xs n) w) := by
  obtain ⟨i0, hi, hz⟩ := Option.map_eq_some_iff.1 TryinfoIntR
  simp only [Prod.mk.injEq] at hz
  obtain ⟨hz0, hz1, hz2⟩ := hz
  have HT := Lib.hid h
  have c0 := h.cells.cell 0 _ rfl
  have hm : n ≤ 9223372036854775807 := by omega
  clear h
  go_enter Try.func17, Try.ntmps17
  go_wp2_with fail
  clear c0
  go_loopw [3, 10] (fun s3 i wr => ∃ k : Nat, k ≤ n ∧ i = .int .i64 k ∧ Hid (wr.ownsRow w.heap.size 3 1 s3 (elsTo xs k).length (vI (elsTo xs k))) ∧ Hid (Below w.heap.size w wr)) (fun _ i _ => n - (intOf i).toNat)
  case atStart => exact ⟨0, by omega, rfl, Lib.hid (by show World.ownsRow w w.heap.size 3 1 _ 0 []; exact World.ownsRow_nil w w.heap.size 3 1), Lib.hid (Below.refl _ _)⟩
  case round =>
    obtain ⟨k, hk, rfl, HO, HW⟩ := hrel
    by_cases hlt : k < n
    · have fE := isElement_any (HT.out.later HW.out) (k : Int)
      have hkI : (0 : Int) ≤ (k : Int) := by omega
      have hkI3 : (k : Int) < (n : Int) := by omega
      have hal := elsTo_len xs k
      have hd : Hid (elsTo xs (k + 1) = if elemB xs (k : Int) = true then elsTo xs k ++ [k] else elsTo xs k) := Lib.hid (elsTo_succ xs k)
      generalize elemB xs (k : Int) = r1 at *
      cases r1
      · have hst := Lib.hid (show elsTo xs (k + 1) = elsTo xs k from by rw [hd.out]; rfl)
        go_wp2_with (go_at_call 43; (refine fE.mono ?_); rintro e w1 ⟨rfl, hb1⟩)
        go_roundw
        case rel => exact ⟨k + 1, by omega, by go_num, Lib.hid (by rw [hst.out]; exact owns_later HO.out hb1), Lib.hid (HW.out.trans (hb1.mono HW.out.size))⟩
        case measure => simp [intOf]; omega
      · have hst := Lib.hid (show elsTo xs (k + 1) = elsTo xs k ++ [k] from by rw [hd.out]; rfl)
        go_wp2_with (first
          | (go_at_call 43; (refine fE.mono ?_); rintro e w1 ⟨rfl, hb1⟩; have O1 := owns_later HO.out hb1; have hw1 := HW.out.trans (hb1.mono HW.out.size))
          | (at_builtin; refine wpList_append_own _ rfl _ _ 37 rfl w.heap.size 3 i0 (.int .i64 0) 1 8 Try.underlying37 hi hz0 hz1 hz2 rfl (by decide) _ _ _ rfl (O1.alloc _) ⟨w1.heap.size, 0, none⟩ 1 1 [.int .i64 (k : Int)] rfl rfl (cell_one_new _ _ _) (fun x hx => by simp at hx; subst hx; rfl) (by unfold maxLen; omega) (by omega) (by have := hw1.size; simp; omega) ?_; intro v' w2 hown2 hgrow2 _))
        have hb2 := (hw1.alloc hw1.size (.cells #[.int .i64 (k : Int)] 3)).grown hgrow2 (by have := hw1.size; simp; omega) (fun k hk => own_base O1 k hk)
        have hown3 : Hid (w2.ownsRow w.heap.size 3 1 v' (elsTo xs (k + 1)).length (vI (elsTo xs (k + 1)))) := Lib.hid (by rw [hst.out, vI_snoc, List.length_append]; exact hown2)
        have Hb2 := Lib.hid hb2
        clear hb2 hown2 hgrow2
        go_wp2
        go_roundw
        case rel => exact ⟨k + 1, by omega, by go_num, hown3, Hb2⟩
        case measure => simp [intOf]; omega
    · obtain rfl : k = n := by omega
      have hkI2 : ¬ (k : Int) < (k : Int) := by omega
      go_wp2
      go_ret
      exact row_post HO.out rfl HW.out
end

section
open Go.RowKit
set_option linter.unusedVariables false
set_option linter.unusedSimpArgs false

def stateI (xs : List Nd) (p : Int) (s : ByteArray) : Bool := match atI xs p with | some x => decide (x.kind = 1) && memS x.states s | none => false
set_option maxRecDepth 100000 in
set_option maxHeartbeats 4000000 in
theorem state_of {w : World} {B t b r n : Nat} {xs : List Nd} (h : TreeAt w B t b r n xs) (p : Int) (s : ByteArray) : Calls Try.prog 41 #[.pointer (some ⟨t, 0, none⟩), .int .i64 p, .string s] w (Told (.bool (stateI xs p s)) w) := by
  have f0 := isElement_any h p
  have HT := Lib.hid h
  unfold stateI
  unfold elemB at f0
  rcases atI_cases xs p with ⟨k, x, rfl, hx, hk, ha⟩ | ⟨ha, hp⟩
  · rw [ha] at f0 ⊢
    dsimp only at f0 ⊢
    rw [← h.doc.1] at hk
    have HX := Lib.hid hx
    have h1 : (0 : Int) ≤ (k : Int) := by omega
    have h2 : (k : Int) < (n : Int) := by omega
    clear h ha hx
    generalize decide (x.kind = 1) = r1 at *
    cases r1
    · go_enter Try.func41, Try.ntmps41
      go_wp2_with (first | (go_at_call 43; (refine f0.mono ?_); rintro e w1 ⟨rfl, hb1⟩))
      go_ret
      exact ⟨rfl, hb1⟩
    · have hfin := Lib.hid (show (true && memS x.states s) = memS (x.states.take x.states.length) s from by rw [List.take_of_length_le (Nat.le_refl _)]; rfl)
      rw [hfin.out]
      go_enter Try.func41, Try.ntmps41
      go_wp2_with (first
        | (go_at_call 43; (refine f0.mono ?_); rintro e w1 ⟨rfl, hb1⟩; have T1 := HT.out.later hb1; have c0 := T1.cells.cell 0 _ rfl; obtain ⟨_, _, _, _, _, ⟨a2, n2, c2, x5, hS⟩, _⟩ := T1.node HX.out; have fC := contains_any x.states a2 n2 c2 n2 c2 s _ w1 hS (Nat.le_refl _); have HS := Lib.hid hS.1; clear hS T1)
        | (go_at_call 70; (refine fC.mono ?_); rintro e wq ⟨rfl, hwq⟩; replace hwq := hwq.symm; subst hwq))
      go_ret
      exact ⟨by rw [HS.out]; rfl, hb1⟩
  · rw [ha] at f0 ⊢
    dsimp only at f0 ⊢
    clear h ha hp
    go_enter Try.func41, Try.ntmps41
    go_wp2_with (first | (go_at_call 43; (refine f0.mono ?_); rintro e w1 ⟨rfl, hb1⟩))
    go_ret
    exact ⟨rfl, hb1⟩

set_option maxRecDepth 100000 in
set_option maxHeartbeats 4000000 in
theorem rstate_of (xs : List Nd) (a : Option Addr) (n c : Nat) (p : Int) (s : ByteArray) (w : World) (hx : RdN (· < w.heap.size) w a n c xs) : Calls Try.prog 42 #[.slice a n c, .int .i64 p, .string s] w (Told (.bool (stateI xs p s)) w) := by
  have hm : n ≤ 9223372036854775807 := by have := hx.2.1; have := hx.2.2.1.1; unfold maxLen at this; omega
  have f0 := relement_any xs a n c p (· < w.heap.size) w hx
  unfold stateI
  unfold elemB at f0
  rcases atI_cases xs p with ⟨k, x, rfl, hxk, hk, ha⟩ | ⟨ha, hp⟩
  · rw [ha] at f0 ⊢
    dsimp only at f0 ⊢
    rw [← hx.1] at hk
    obtain ⟨b, off, rfl, hb, _, _, _, _, _, ⟨a2, n2, c2, x5, hS⟩, _⟩ := hx.at k x hxk
    have fH := rhas_any x.states a2 n2 c2 s w (RdOf.imp hS (fun _ h => h) (fun _ _ _ _ h => h.1))
    rw [hasR_mem] at fH
    have h1 : (0 : Int) ≤ (k : Int) := by omega
    have h2 : (k : Int) < (n : Int) := by omega
    clear hx ha hxk hS
    generalize decide (x.kind = 1) = r1 at *
    generalize memS x.states s = r2 at *
    cases r1
    · go_enter Try.func42, Try.ntmps42
      go_wp2_with (first | (go_at_call 19; (refine f0.mono ?_); rintro e wq ⟨rfl, hwq⟩; replace hwq := hwq.symm; subst hwq))
      go_ret
      exact ⟨rfl, Below.refl _ _⟩
    · go_enter Try.func42, Try.ntmps42
      go_wp2_with (first
        | (go_at_call 19; (refine f0.mono ?_); rintro e wq ⟨rfl, hwq⟩; replace hwq := hwq.symm; subst hwq)
        | (go_at_call 46; (refine fH.mono ?_); rintro e w1 ⟨rfl, hb1⟩))
      go_ret
      exact ⟨rfl, hb1⟩
  · rw [ha] at f0 ⊢
    dsimp only at f0 ⊢
    clear hx ha hp
    go_enter Try.func42, Try.ntmps42
    go_wp2_with (first | (go_at_call 19; (refine f0.mono ?_); rintro e wq ⟨rfl, hwq⟩; replace hwq := hwq.symm; subst hwq))
    go_ret
    exact ⟨rfl, Below.refl _ _⟩
end

section
open Go.RowKit
set_option linter.unusedVariables false
set_option linter.unusedSimpArgs false

/-- The value of the first attribute of a name, and whether there is one. -/
def hasN (space name : ByteArray) (t : At3) : Bool := decide (t.space = space) && decide (t.name = name)
def valL (l : List At3) (space name : ByteArray) : ByteArray × Bool := match l.find? (hasN space name) with | some t => (t.val, true) | none => (⟨#[]⟩, false)
def valI (xs : List Nd) (p : Int) (space name : ByteArray) : ByteArray × Bool := match atI xs p with | some x => if x.kind = 1 then valL x.attrs space name else (⟨#[]⟩, false) | none => (⟨#[]⟩, false)
def valV (v : ByteArray × Bool) : Value := .tuple #[.string v.1, .bool v.2]
theorem bel_trans3 {w0 w1 w2 : World} (h : Below w0.heap.size w0 w1) (h2 : Below w1.heap.size w1 w2) : Below w0.heap.size w0 w2 := h.trans (h2.mono h.size)
theorem val_hit {l : List At3} {space name : ByteArray} {k : Nat} {t : At3} (h : (l.take k).find? (hasN space name) = none) (ht : l[k]? = some t) (hh : hasN space name t = true) : valL l space name = (t.val, true) := by
  have hl := (List.getElem?_eq_some_iff.1 ht)
  have h1 : l = l.take k ++ (t :: l.drop (k + 1)) := by
    conv => lhs; rw [← List.take_append_drop k l]
    rw [List.drop_eq_getElem_cons hl.1, hl.2]
  unfold valL
  rw [h1, List.find?_append, h, Option.none_or, List.find?_cons_of_pos hh]
theorem find_step {l : List At3} {space name : ByteArray} {k : Nat} {t : At3} (h : (l.take k).find? (hasN space name) = none) (ht : l[k]? = some t) (hh : hasN space name t = false) : (l.take (k + 1)).find? (hasN space name) = none := by
  rw [List.take_add_one, ht, List.find?_append, h, Option.none_or]
  simp [hh]

set_option maxRecDepth 100000 in
set_option maxHeartbeats 4000000 in
theorem value_of {w : World} {B t b r n : Nat} {xs : List Nd} (h : TreeAt w B t b r n xs) (p : Int) (sp nm : ByteArray) : Calls Try.prog 39 #[.pointer (some ⟨t, 0, none⟩), .int .i64 p, .string sp, .string nm] w (Told (valV (valI xs p sp nm)) w) := by
  have f0 := isElement_any h p
  have HT := Lib.hid h
  unfold valI
  unfold elemB at f0
  rcases atI_cases xs p with ⟨k, x, rfl, hx, hk, ha⟩ | ⟨ha, hp⟩
  · rw [ha] at f0 ⊢
    dsimp only at f0 ⊢
    rw [← h.doc.1] at hk
    have HX := Lib.hid hx
    have h1 : (0 : Int) ≤ (k : Int) := by omega
    have h2 : (k : Int) < (n : Int) := by omega
    clear h ha hx
    by_cases hk1 : x.kind = 1
    · rw [decide_eq_true hk1] at f0
      rw [if_pos hk1]
      clear hk1
      go_enter Try.func39, Try.ntmps39
      go_wp2_with (first
        | (go_at_call 43; (refine f0.mono ?_); rintro e w1 ⟨rfl, hb1⟩; have T1 := HT.out.later hb1; have c0 := T1.cells.cell 0 _ rfl; obtain ⟨_, _, _, _, ⟨a2, n2, c2, x5, hA⟩, _⟩ := T1.node HX.out; have HA := Lib.hid hA; have hm2 : n2 ≤ 9223372036854775807 := (by have := hA.2.1; have := hA.2.2.1.1; unfold maxLen at this; omega); clear hA T1))
      have Hb1 := Lib.hid hb1
      clear hb1 f0
      go_loopw [24] (fun i wr => ∃ j : Nat, j ≤ n2 ∧ i = .int .i64 j ∧ Hid ((x.attrs.take j).find? (hasN sp nm) = none) ∧ Hid (Below w1.heap.size w1 wr)) (fun i _ => n2 - (intOf i).toNat)
      case atStart => exact ⟨0, Nat.zero_le _, rfl, Lib.hid rfl, Lib.hid (Below.refl _ _)⟩
      case round =>
        obtain ⟨j, hj, rfl, hq, HW⟩ := hrel
        by_cases hlt : j < n2
        · obtain ⟨u, hu⟩ : ∃ u, x.attrs[j]? = some u := ⟨_, List.getElem?_eq_getElem (by rw [← HA.out.1]; exact hlt)⟩
          obtain ⟨b', off', rfl, hb', u0, u1, u2, _⟩ := HA.out.at j u hu
          rw [← cell_same (HW.out.block b' hb'.2)] at u0 u1 u2
          have hjI : (0 : Int) ≤ (j : Int) := by omega
          have hjI2 : (j : Int) < (n2 : Int) := by omega
          have hb2 := HW.out.alloc HW.out.size (.cells #[.string u.space, .string u.name, .string u.val] 56)
          have HB2 := Lib.hid hb2
          have b0 : (u.space.toList == sp.toList) = decide (u.space = sp) := str_beq _ _
          have b1 : (u.name.toList == nm.toList) = decide (u.name = nm) := str_beq _ _
          have hh : Hid (hasN sp nm u = (decide (u.space = sp) && decide (u.name = nm))) := Lib.hid rfl
          have HU := Lib.hid hu
          clear hu hb2
          generalize decide (u.space = sp) = r1 at *
          generalize decide (u.name = nm) = r2 at *
          cases r1
          · have hst := Lib.hid (find_step hq.out HU.out (by rw [hh.out]; rfl))
            go_wp2
            go_roundw
            case rel => exact ⟨j + 1, by omega, by go_num, hst, HB2⟩
            case measure => simp [intOf]; omega
          · cases r2
            · have hst := Lib.hid (find_step hq.out HU.out (by rw [hh.out]; rfl))
              go_wp2
              go_roundw
              case rel => exact ⟨j + 1, by omega, by go_num, hst, HB2⟩
              case measure => simp [intOf]; omega
            · have hres := Lib.hid (val_hit hq.out HU.out (by rw [hh.out]; rfl))
              go_wp2
              refine bodyPost_ret (v := .tuple #[.string u.val, .bool true]) (by simp [results, Try.results39, go_sem]) rfl ⟨by rw [hres.out]; rfl, bel_trans3 Hb1.out HB2.out⟩
        · obtain rfl : j = n2 := by omega
          have hjI2 : ¬ (j : Int) < (j : Int) := by omega
          have hres : Hid (valL x.attrs sp nm = (⟨#[]⟩, false)) := Lib.hid (by
            have := hq.out
            rw [List.take_of_length_le (by rw [← HA.out.1]; exact Nat.le_refl _)] at this
            unfold valL
            rw [this])
          go_wp2
          refine bodyPost_ret (v := .tuple #[.string ⟨#[]⟩, .bool false]) (by simp [results, Try.results39, go_sem]) rfl ⟨by rw [hres.out]; rfl, bel_trans3 Hb1.out HW.out⟩
    · rw [decide_eq_false hk1] at f0
      rw [if_neg hk1]
      clear hk1
      go_enter Try.func39, Try.ntmps39
      go_wp2_with (first | (go_at_call 43; (refine f0.mono ?_); rintro e w1 ⟨rfl, hb1⟩))
      refine bodyPost_ret (v := .tuple #[.string ⟨#[]⟩, .bool false]) (by simp [results, Try.results39, go_sem]) rfl ⟨rfl, hb1⟩
  · rw [ha] at f0 ⊢
    dsimp only at f0 ⊢
    clear h ha hp
    go_enter Try.func39, Try.ntmps39
    go_wp2_with (first | (go_at_call 43; (refine f0.mono ?_); rintro e w1 ⟨rfl, hb1⟩))
    refine bodyPost_ret (v := .tuple #[.string ⟨#[]⟩, .bool false]) (by simp [results, Try.results39, go_sem]) rfl ⟨rfl, hb1⟩
end

section
open Go.RowKit
set_option linter.unusedVariables false
set_option linter.unusedSimpArgs false

set_option maxRecDepth 100000 in
set_option maxHeartbeats 4000000 in
theorem rvalue_of (xs : List Nd) (a : Option Addr) (n c : Nat) (p : Int) (sp nm : ByteArray) (w : World) (hx : RdN (· < w.heap.size) w a n c xs) : Calls Try.prog 40 #[.slice a n c, .int .i64 p, .string sp, .string nm] w (Told (valV (valI xs p sp nm)) w) := by
  have hm : n ≤ 9223372036854775807 := by have := hx.2.1; have := hx.2.2.1.1; unfold maxLen at this; omega
  have f0 := relement_any xs a n c p (· < w.heap.size) w hx
  have HX := Lib.hid (fun w' (hb : Below w.heap.size w w') => hx.later hb (Nat.le_refl _))
  unfold valI
  unfold elemB at f0
  rcases atI_cases xs p with ⟨k, x, rfl, hxk, hk, ha⟩ | ⟨ha, hp⟩
  · rw [ha] at f0 ⊢
    dsimp only at f0 ⊢
    rw [← hx.1] at hk
    have HXK := Lib.hid hxk
    have h1 : (0 : Int) ≤ (k : Int) := by omega
    have h2 : (k : Int) < (n : Int) := by omega
    by_cases hk1 : x.kind = 1
    · rw [decide_eq_true hk1] at f0
      rw [if_pos hk1]
      obtain ⟨b, off, rfl, hb, _, _, _, _, ⟨a2, n2, c2, x4, hA⟩, _⟩ := hx.at k x hxk
      have HA := Lib.hid hA
      have HC := Lib.hid (And.intro hb x4)
      have hm2 : n2 ≤ 9223372036854775807 := by have := hA.2.1; have := hA.2.2.1.1; unfold maxLen at this; omega
      clear hx ha hxk hk1 hA x4
      go_enter Try.func40, Try.ntmps40
      go_wp2_with (first | (go_at_call 19; (refine f0.mono ?_); rintro e wq ⟨rfl, hwq⟩; replace hwq := hwq.symm; subst hwq))
      clear f0
      go_loopw [10] (fun i wr => ∃ j : Nat, j ≤ n2 ∧ i = .int .i64 j ∧ Hid ((x.attrs.take j).find? (hasN sp nm) = none) ∧ Hid (Below w.heap.size w wr)) (fun i _ => n2 - (intOf i).toNat)
      case atStart => exact ⟨0, Nat.zero_le _, rfl, Lib.hid rfl, Lib.hid (Below.refl _ _)⟩
      case round =>
        obtain ⟨j, hj, rfl, hq, HW⟩ := hrel
        have x4 := (HW.out.cell (p := ⟨b, off + k * 7 + 4, none⟩) HC.out.1).trans HC.out.2
        by_cases hlt : j < n2
        · obtain ⟨u, hu⟩ : ∃ u, x.attrs[j]? = some u := ⟨_, List.getElem?_eq_getElem (by rw [← HA.out.1]; exact hlt)⟩
          obtain ⟨b', off', rfl, hb', u0, u1, u2, _⟩ := HA.out.at j u hu
          rw [← cell_same (HW.out.block b' hb')] at u0 u1 u2
          have hjI : (0 : Int) ≤ (j : Int) := by omega
          have hjI2 : (j : Int) < (n2 : Int) := by omega
          have hb2 := HW.out.alloc HW.out.size (.cells #[.string u.space, .string u.name, .string u.val] 56)
          have HB2 := Lib.hid hb2
          have b0 : (u.space.toList == sp.toList) = decide (u.space = sp) := str_beq _ _
          have b1 : (u.name.toList == nm.toList) = decide (u.name = nm) := str_beq _ _
          have hh : Hid (hasN sp nm u = (decide (u.space = sp) && decide (u.name = nm))) := Lib.hid rfl
          have HU := Lib.hid hu
          clear hu hb2
          generalize decide (u.space = sp) = r1 at *
          generalize decide (u.name = nm) = r2 at *
          cases r1
          · have hst := Lib.hid (find_step hq.out HU.out (by rw [hh.out]; rfl))
            go_wp2
            go_roundw
            case rel => exact ⟨j + 1, by omega, by go_num, hst, HB2⟩
            case measure => simp [intOf]; omega
          · cases r2
            · have hst := Lib.hid (find_step hq.out HU.out (by rw [hh.out]; rfl))
              go_wp2
              go_roundw
              case rel => exact ⟨j + 1, by omega, by go_num, hst, HB2⟩
              case measure => simp [intOf]; omega
            · have hres := Lib.hid (val_hit hq.out HU.out (by rw [hh.out]; rfl))
              go_wp2
              refine bodyPost_ret (v := .tuple #[.string u.val, .bool true]) (by simp [results, Try.results40, go_sem]) rfl ⟨by rw [hres.out]; rfl, HB2.out⟩
        · obtain rfl : j = n2 := by omega
          have hjI2 : ¬ (j : Int) < (j : Int) := by omega
          have hres : Hid (valL x.attrs sp nm = (⟨#[]⟩, false)) := Lib.hid (by
            have := hq.out
            rw [List.take_of_length_le (by rw [← HA.out.1]; exact Nat.le_refl _)] at this
            unfold valL
            rw [this])
          go_wp2
          refine bodyPost_ret (v := .tuple #[.string ⟨#[]⟩, .bool false]) (by simp [results, Try.results40, go_sem]) rfl ⟨by rw [hres.out]; rfl, HW.out⟩
    · rw [decide_eq_false hk1] at f0
      rw [if_neg hk1]
      clear hx hk1 ha
      go_enter Try.func40, Try.ntmps40
      go_wp2_with (first | (go_at_call 19; (refine f0.mono ?_); rintro e wq ⟨rfl, hwq⟩; replace hwq := hwq.symm; subst hwq))
      refine bodyPost_ret (v := .tuple #[.string ⟨#[]⟩, .bool false]) (by simp [results, Try.results40, go_sem]) rfl ⟨rfl, Below.refl _ _⟩
  · rw [ha] at f0 ⊢
    dsimp only at f0 ⊢
    clear hx ha hp
    go_enter Try.func40, Try.ntmps40
    go_wp2_with (first | (go_at_call 19; (refine f0.mono ?_); rintro e wq ⟨rfl, hwq⟩; replace hwq := hwq.symm; subst hwq))
    refine bodyPost_ret (v := .tuple #[.string ⟨#[]⟩, .bool false]) (by simp [results, Try.results40, go_sem]) rfl ⟨rfl, Below.refl _ _⟩
end
end Go.Proofs.Ytfgnepbpfglepaa
