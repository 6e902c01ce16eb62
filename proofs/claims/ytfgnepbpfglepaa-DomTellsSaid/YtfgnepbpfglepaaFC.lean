/- Several texts of mine in one. -/
import Derived.Test.YtfgnepbpfglepaaFA
import Derived.Test.YtfgnepbpfglepaaFB
import Derived.Test.YtfgnepbpfglepaaFE
import Derived.Deep.CutRange
import Derived.Deep.RegionHeld3
import Derived.Deep.RegionWith
import Derived.Test.YtfgnepbpfglepaaDq4Z
import Derived.Test.YtfgnepbpfglepaaDm6
namespace Go.Proofs.Ytfgnepbpfglepaa
section
open Go.RowKit
set_option linter.unusedVariables false
set_option linter.unusedSimpArgs false

theorem bel_tr {w0 w1 w2 : World} (h : Below w0.heap.size w0 w1) (h2 : Below w1.heap.size w1 w2) : Below w0.heap.size w0 w2 := h.trans (h2.mono h.size)
/-- What is told of any place. -/
theorem tell_cases {xs : List Nd} (hR : RightP xs) (p : Int) :
    (elemB xs p = false ∧ rowI xs p = [] ∧ parI xs p = -1 ∧ aheadI xs p = -1) ∨
    (∃ (k : Nat) (x : Nd), p = (k : Int) ∧ xs[k]? = some x ∧ elemB xs p = true ∧ parI xs p = x.par ∧ (x.par = -1 ∨ 0 ≤ x.par) ∧
      ((aheadI xs p = -1 ∧ rowI xs p = [k]) ∨ (∃ (j : Nat) (zs : List Nat), aheadI xs p = (j : Int) ∧ rowI xs p = zs ++ [j] ++ [k] ∧ zs.length + 2 ≤ k + 1))) := by
  cases he : elemB xs p with
  | false =>
    refine .inl ⟨rfl, by unfold rowI; rw [he]; rfl, ?_, by unfold aheadI; rw [he]; rfl⟩
    unfold parI
    unfold elemB at he
    cases ha : atI xs p with
    | none => rfl
    | some x =>
      rw [ha] at he
      simp only
      rw [if_neg (of_decide_eq_false he)]
  | true =>
    have hex : ∃ (k : Nat) (x : Nd), p = (k : Int) ∧ xs[k]? = some x ∧ x.kind = 1 := by
      unfold elemB at he
      rcases atI_cases xs p with ⟨k, x, rfl, hx, hk, ha⟩ | ⟨ha, hp⟩
      · rw [ha] at he
        exact ⟨k, x, rfl, hx, of_decide_eq_true he⟩
      · rw [ha] at he
        cases he
    obtain ⟨k, x, rfl, hx, hk⟩ := hex
    have hRow : rowI xs (k : Int) = (desc xs x.par k).reverse ++ [k] := by
      unfold rowI
      rw [he, if_pos rfl, Int.toNat_natCast]
      unfold rowF
      rw [hx]
      simp only
      rw [if_pos hk, desc_succ, if_pos (hit_of hx hk), List.reverse_cons]
    have hA : aheadI xs (k : Int) = aheadF xs k := by unfold aheadI; rw [he, if_pos rfl, Int.toNat_natCast]
    refine .inr ⟨k, x, rfl, hx, rfl, by unfold parI; rw [atI_nat, hx]; simp only; rw [if_pos hk], ?_, ?_⟩
    · rcases hR.par k x hx with h | h
      · exact .inl h
      · exact .inr h.1
    · rw [hA, hRow]
      rcases ahead_step hR hx hk with ⟨h1, h2⟩ | ⟨j, z, hj, h1, h2, h3, h4, h5⟩
      · exact .inl ⟨h1, by rw [h2]; rfl⟩
      · have hh : hit xs x.par j = true := by rw [← h4]; exact hit_of h2 h3
        refine .inr ⟨j, (desc xs x.par j).reverse, h1, by rw [h5, desc_succ, if_pos hh, List.reverse_cons], ?_⟩
        rw [List.length_reverse]
        have := desc_len xs x.par j
        omega

set_option maxRecDepth 100000 in
set_option maxHeartbeats 8000000 in
theorem tells_any {w : World} {B t b r n : Nat} {xs : List Nd} (h : TreeAt w B t b r n xs) (hR : RightP xs) (hsm : ∀ x ∈ xs, x.attrs.length ≤ 1000000 ∧ x.states.length ≤ 1000000) (a : Option Addr) (c : Nat) (hx : RdN (· < w.heap.size) w a n c xs) (hn : n ≤ 200) (p : Int) (sp nm : ByteArray) :
    Calls Try.prog 15 #[.pointer (some ⟨t, 0, none⟩), .slice a n c, .int .i64 p, .string sp, .string nm] w (Told (.bool true) w) := by
  have HX := Lib.hid (fun w' (hb : Below w.heap.size w w') => hx.later hb (Nat.le_refl _))
  have HT := Lib.hid h
  have HR := Lib.hid hR
  have HN := Lib.hid hx.1
  have hcap := hx.2.1
  have hcm : c ≤ 9223372036854775807 := hx.2.2.1.1
  have fN := node_any h hsm p
  clear h hx hsm hR
  rcases atI_cases xs p with ⟨k, x, rfl, hxk, hk, ha⟩ | ⟨ha, hp⟩
  · rw [← HN.out] at hk
    have h1 : (0 : Int) ≤ (k : Int) := by omega
    have h2 : (k : Int) < (n : Int) := by omega
    have HA := Lib.hid ha
    have HXK0 := Lib.hid hxk
    clear ha hxk
    go_enter Try.func15, Try.ntmps15
    go_wp2_with fail
    refine fN.mono ?_
    rintro e1 w1 (⟨ha, _⟩ | ⟨y, b1, m1, d1, b2, m2, d2, hy, rfl, hA1, hS1, hb1⟩)
    · rw [HA.out] at ha; cases ha
    rw [HA.out] at hy
    cases hy
    obtain ⟨gb, goff, rfl, hgb, x0, x1, x2, x3, ⟨a3, n3, c3, x4, hA3⟩, ⟨a4, n4, c4, x5, hS4⟩, x6, _⟩ := (HX.out w1 hb1).at k x HXK0.out
    obtain ⟨w2, hw2⟩ : ∃ w2, w1.alloc (.cells #[.int .i64 x.par, .int .i64 x.kind, .string x.space, .string x.name, .slice b1 m1 d1, .slice b2 m2 d2, .string x.text] 44) = w2 := ⟨_, rfl⟩
    have hb2 : Below w1.heap.size w1 w2 := by rw [← hw2]; exact (Below.refl _ _).alloc (Nat.le_refl _) _
    have C2 : Blk w2 w1.heap.size (ndCells x.par x.kind x.space x.name (.slice b1 m1 d1) (.slice b2 m2 d2) x.text) 44 := by rw [← hw2]; exact Blk.alloc _ _
    have hb2D := hb2.drew
    have hm2 := fun bl (h : bl < w1.heap.size) => (And.intro h (hb2D.block bl h))
    have fSN := rsameNode_any x.par x.kind x.par x.kind x.space x.name x.text x.space x.name x.text x.attrs x.attrs x.states x.states b1 b2 a3 a4 m1 m2 d1 d2 n3 n4 c3 c4 (· < w1.heap.size) w2.drew (fun b hb => Nat.lt_of_lt_of_le hb hb2D.size) (hA1.move hm2) (hS1.move hm2) (hA3.move hm2) (hS4.move hm2)
    rw [decide_eq_true rfl] at fSN
    have HW2 := Lib.hid hw2
    have HB2 := Lib.hid (bel_tr hb1 hb2D)
    have HT2 := Lib.hid (HT.out.later (bel_tr hb1 hb2D))
    have D2 : Blk w2.drew w1.heap.size (ndCells x.par x.kind x.space x.name (.slice b1 m1 d1) (.slice b2 m2 d2) x.text) 44 := C2
    have i0 := D2.cell 0 _ rfl
    have i1 := D2.cell 1 _ rfl
    have i2 := D2.cell 2 _ rfl
    have i3 := D2.cell 3 _ rfl
    have i4 := D2.cell 4 _ rfl
    have i5 := D2.cell 5 _ rfl
    have i6 := D2.cell 6 _ rfl
    rw [← cell_same (hb2D.block gb hgb)] at x0 x1 x2 x3 x4 x5 x6
    clear hA1 hS1 hA3 hS4 hm2 hb1 hb2 hb2D C2 D2 fN
    go_wp2_with fail
    go_cut [61] from 30 to 61 (fun v wx => v = .bool false ∧ Below w.heap.size w wx)
    case first =>
      refine wp_region_any (by kernel_rfl) ?_
      change wpAny _ _ _ _ _ _ _ (World.drew _)
      refine wpAny_take (i := 0) (v := ?_) rfl (by kernel_rfl) (by kernel_rfl) (by kernel_rfl) (fun _ _ _ h => h) (Or.inl ⟨by kernel_rfl, ?_⟩) ?_
      rotate_left
      · (intro w; go_simp; try with_reducible rfl)
      refine wpAny_take (i := 1) (v := ?_) rfl (by kernel_rfl) (by kernel_rfl) (by kernel_rfl) (fun _ _ _ h => h) (Or.inl ⟨by kernel_rfl, ?_⟩) ?_
      rotate_left
      · (intro w; go_simp; try with_reducible rfl)
      refine wpAny_take (i := 2) (v := ?_) rfl (by kernel_rfl) (by kernel_rfl) (by kernel_rfl) (fun _ _ _ h => h) (Or.inl ⟨by kernel_rfl, ?_⟩) ?_
      rotate_left
      · (intro w; go_simp; try with_reducible rfl)
      refine wpAny_take (i := 3) (v := ?_) rfl (by kernel_rfl) (by kernel_rfl) (by kernel_rfl) (fun _ _ _ h => h) (Or.inl ⟨by kernel_rfl, ?_⟩) ?_
      rotate_left
      · (intro w; go_simp; try with_reducible rfl)
      refine wpAny_take (i := 4) (v := ?_) rfl (by kernel_rfl) (by kernel_rfl) (by kernel_rfl) (fun _ _ _ h => h) (Or.inl ⟨by kernel_rfl, ?_⟩) ?_
      rotate_left
      · (intro w; go_simp; try with_reducible rfl)
      refine wpAny_take (i := 5) (v := ?_) rfl (by kernel_rfl) (by kernel_rfl) (by kernel_rfl) (fun _ _ _ h => h) (Or.inl ⟨by kernel_rfl, ?_⟩) ?_
      rotate_left
      · (intro w; go_simp; try with_reducible rfl)
      refine wpAny_take (i := 6) (v := ?_) rfl (by kernel_rfl) (by kernel_rfl) (by kernel_rfl) (fun _ _ _ h => h) (Or.inl ⟨by kernel_rfl, ?_⟩) ?_
      rotate_left
      · (intro w; go_simp; try with_reducible rfl)
      refine wpAny_take (i := 7) (v := ?_) rfl (by kernel_rfl) (by kernel_rfl) (by kernel_rfl) (fun _ _ _ h => h) (Or.inl ⟨by kernel_rfl, ?_⟩) ?_
      rotate_left
      · (intro w; go_simp; try with_reducible rfl)
      refine wpAny_take (i := 8) (v := ?_) rfl (by kernel_rfl) (by kernel_rfl) (by kernel_rfl) (fun _ _ _ h => h) (Or.inl ⟨by kernel_rfl, ?_⟩) ?_
      rotate_left
      · (intro w; go_simp; try with_reducible rfl)
      refine wpAny_take (i := 9) (v := ?_) rfl (by kernel_rfl) (by kernel_rfl) (by kernel_rfl) (fun _ _ _ h => h) (Or.inl ⟨by kernel_rfl, ?_⟩) ?_
      rotate_left
      · (intro w; go_simp; try with_reducible rfl)
      refine wpAny_take (i := 10) (v := ?_) rfl (by kernel_rfl) (by kernel_rfl) (by kernel_rfl) (fun _ _ _ h => h) (Or.inl ⟨by kernel_rfl, ?_⟩) ?_
      rotate_left
      · (intro w; go_simp; try with_reducible rfl)
      refine wpAny_take (i := 11) (v := ?_) rfl (by kernel_rfl) (by kernel_rfl) (by kernel_rfl) (fun _ _ _ h => h) (Or.inl ⟨by kernel_rfl, ?_⟩) ?_
      rotate_left
      · (intro w; go_simp; try with_reducible rfl)
      refine wpAny_take (i := 12) (v := ?_) rfl (by kernel_rfl) (by kernel_rfl) (by kernel_rfl) (fun _ _ _ h => h) (Or.inl ⟨by kernel_rfl, ?_⟩) ?_
      rotate_left
      · (intro w; go_simp; try with_reducible rfl)
      refine wpAny_take (i := 14) (v := ?_) rfl (by kernel_rfl) (by kernel_rfl) (by kernel_rfl) (fun _ _ _ h => h) (Or.inl ⟨by kernel_rfl, ?_⟩) ?_
      rotate_left
      · (intro w; go_simp; try with_reducible rfl)
      refine wpAny_take (i := 15) (v := ?_) rfl (by kernel_rfl) (by kernel_rfl) (by kernel_rfl) (fun _ _ _ h => h) (Or.inl ⟨by kernel_rfl, ?_⟩) ?_
      rotate_left
      · (intro w; go_simp; try with_reducible rfl)
      refine wpAny_take (i := 16) (v := ?_) rfl (by kernel_rfl) (by kernel_rfl) (by kernel_rfl) (fun _ _ _ h => h) (Or.inl ⟨by kernel_rfl, ?_⟩) ?_
      rotate_left
      · (intro w; go_simp; try with_reducible rfl)
      refine wpAny_ready (rs := [13, 17]) (by kernel_rfl) (by simp) ?_
      refine AllReady.cons rfl (fun K hK => ?_) ?_
      · skip
        go_simp
        refine hK _ _ ?_
        clear hK K
        refine wpAny_ready (rs := [17]) (by kernel_rfl) (by simp) ?_
        refine AllReady.cons rfl (fun K hK => ?_) AllReady.nil
        go_simp
        refine hK _ _ ?_
        clear hK K
        refine wpAny_ready (rs := [18]) (by kernel_rfl) (by simp) ?_
        refine AllReady.cons rfl (fun K hK => ?_) AllReady.nil
        go_simp
        go_wp2_with (go_at_call 32; (with_reducible refine fSN.mono ?_); rintro e w3 ⟨rfl, hb3⟩)
        refine wpAny_take (i := 19) (v := ?_) rfl (by kernel_rfl) (by kernel_rfl) (by kernel_rfl) (fun _ _ _ h => h) (Or.inl ⟨by kernel_rfl, ?_⟩) ?_
        rotate_left
        · (intro w; go_simp; try with_reducible rfl)
        refine wpAny_take (i := 20) (v := ?_) rfl (by kernel_rfl) (by kernel_rfl) (by kernel_rfl) (fun _ _ _ h => h) (Or.inl ⟨by kernel_rfl, ?_⟩) ?_
        rotate_left
        · (intro w; go_simp; try with_reducible rfl)
        refine wpAny_take (i := 21) (v := ?_) rfl (by kernel_rfl) (by kernel_rfl) (by kernel_rfl) (fun _ _ _ h => h) (Or.inl ⟨by kernel_rfl, ?_⟩) ?_
        rotate_left
        · (intro w; go_simp; try with_reducible rfl)
        refine wpAny_take (i := 22) (v := ?_) rfl (by kernel_rfl) (by kernel_rfl) (by kernel_rfl) (fun _ _ _ h => h) (Or.inl ⟨by kernel_rfl, ?_⟩) ?_
        rotate_left
        · (intro w; go_simp; try with_reducible rfl)
        refine wpAny_take (i := 23) (v := ?_) rfl (by kernel_rfl) (by kernel_rfl) (by kernel_rfl) (fun _ _ _ h => h) (Or.inl ⟨by kernel_rfl, ?_⟩) ?_
        rotate_left
        · (intro w; go_simp; try with_reducible rfl)
        refine wpAny_take (i := 24) (v := ?_) rfl (by kernel_rfl) (by kernel_rfl) (by kernel_rfl) (fun _ _ _ h => h) (Or.inl ⟨by kernel_rfl, ?_⟩) ?_
        rotate_left
        · (intro w; go_simp; try with_reducible rfl)
        refine wpAny_take (i := 25) (v := ?_) rfl (by kernel_rfl) (by kernel_rfl) (by kernel_rfl) (fun _ _ _ h => h) (Or.inl ⟨by kernel_rfl, ?_⟩) ?_
        rotate_left
        · (intro w; go_simp; try with_reducible rfl)
        refine wpAny_take (i := 26) (v := undef) rfl (by kernel_rfl) (by kernel_rfl) (by kernel_rfl) (fun _ _ _ h => h) (Or.inr ⟨by kernel_rfl, rfl⟩) ?_
        refine wpAny_take (i := 27) (v := undef) rfl (by kernel_rfl) (by kernel_rfl) (by kernel_rfl) (fun _ _ _ h => h) (Or.inr ⟨by kernel_rfl, rfl⟩) ?_
        refine wpAny_take (i := 28) (v := undef) rfl (by kernel_rfl) (by kernel_rfl) (by kernel_rfl) (fun _ _ _ h => h) (Or.inr ⟨by kernel_rfl, rfl⟩) ?_
        refine wpAny_take (i := 29) (v := undef) rfl (by kernel_rfl) (by kernel_rfl) (by kernel_rfl) (fun _ _ _ h => h) (Or.inr ⟨by kernel_rfl, rfl⟩) ?_
        refine wpAny_take (i := 30) (v := ?_) rfl (by kernel_rfl) (by kernel_rfl) (by kernel_rfl) (fun _ _ _ h => h) (Or.inl ⟨by kernel_rfl, ?_⟩) ?_
        rotate_left
        · (intro w; go_simp; try with_reducible rfl)
        refine wpAny_take (i := 31) (v := ?_) rfl (by kernel_rfl) (by kernel_rfl) (by kernel_rfl) (fun _ _ _ h => h) (Or.inl ⟨by kernel_rfl, ?_⟩) ?_
        rotate_left
        · (intro w; go_simp; try with_reducible rfl)
        refine wpAny_done (by kernel_rfl) ?_ _
        go_simp
        go_wp2_with fail
        go_meet
        exact ⟨rfl, bel_tr HB2.out hb3⟩
      refine AllReady.cons rfl (fun K hK => ?_) AllReady.nil
      go_simp
      refine hK _ _ ?_
      clear hK K
      refine wpAny_ready (rs := [13]) (by kernel_rfl) (by simp) ?_
      refine AllReady.cons rfl (fun K hK => ?_) AllReady.nil
      go_simp
      refine hK _ _ ?_
      clear hK K
      refine wpAny_ready (rs := [18]) (by kernel_rfl) (by simp) ?_
      refine AllReady.cons rfl (fun K hK => ?_) AllReady.nil
      go_simp
      go_wp2_with (go_at_call 32; (with_reducible refine fSN.mono ?_); rintro e w3 ⟨rfl, hb3⟩)
      refine wpAny_take (i := 19) (v := ?_) rfl (by kernel_rfl) (by kernel_rfl) (by kernel_rfl) (fun _ _ _ h => h) (Or.inl ⟨by kernel_rfl, ?_⟩) ?_
      rotate_left
      · (intro w; go_simp; try with_reducible rfl)
      refine wpAny_take (i := 20) (v := ?_) rfl (by kernel_rfl) (by kernel_rfl) (by kernel_rfl) (fun _ _ _ h => h) (Or.inl ⟨by kernel_rfl, ?_⟩) ?_
      rotate_left
      · (intro w; go_simp; try with_reducible rfl)
      refine wpAny_take (i := 21) (v := ?_) rfl (by kernel_rfl) (by kernel_rfl) (by kernel_rfl) (fun _ _ _ h => h) (Or.inl ⟨by kernel_rfl, ?_⟩) ?_
      rotate_left
      · (intro w; go_simp; try with_reducible rfl)
      refine wpAny_take (i := 22) (v := ?_) rfl (by kernel_rfl) (by kernel_rfl) (by kernel_rfl) (fun _ _ _ h => h) (Or.inl ⟨by kernel_rfl, ?_⟩) ?_
      rotate_left
      · (intro w; go_simp; try with_reducible rfl)
      refine wpAny_take (i := 23) (v := ?_) rfl (by kernel_rfl) (by kernel_rfl) (by kernel_rfl) (fun _ _ _ h => h) (Or.inl ⟨by kernel_rfl, ?_⟩) ?_
      rotate_left
      · (intro w; go_simp; try with_reducible rfl)
      refine wpAny_take (i := 24) (v := ?_) rfl (by kernel_rfl) (by kernel_rfl) (by kernel_rfl) (fun _ _ _ h => h) (Or.inl ⟨by kernel_rfl, ?_⟩) ?_
      rotate_left
      · (intro w; go_simp; try with_reducible rfl)
      refine wpAny_take (i := 25) (v := ?_) rfl (by kernel_rfl) (by kernel_rfl) (by kernel_rfl) (fun _ _ _ h => h) (Or.inl ⟨by kernel_rfl, ?_⟩) ?_
      rotate_left
      · (intro w; go_simp; try with_reducible rfl)
      refine wpAny_take (i := 26) (v := undef) rfl (by kernel_rfl) (by kernel_rfl) (by kernel_rfl) (fun _ _ _ h => h) (Or.inr ⟨by kernel_rfl, rfl⟩) ?_
      refine wpAny_take (i := 27) (v := undef) rfl (by kernel_rfl) (by kernel_rfl) (by kernel_rfl) (fun _ _ _ h => h) (Or.inr ⟨by kernel_rfl, rfl⟩) ?_
      refine wpAny_take (i := 28) (v := undef) rfl (by kernel_rfl) (by kernel_rfl) (by kernel_rfl) (fun _ _ _ h => h) (Or.inr ⟨by kernel_rfl, rfl⟩) ?_
      refine wpAny_take (i := 29) (v := undef) rfl (by kernel_rfl) (by kernel_rfl) (by kernel_rfl) (fun _ _ _ h => h) (Or.inr ⟨by kernel_rfl, rfl⟩) ?_
      refine wpAny_take (i := 30) (v := ?_) rfl (by kernel_rfl) (by kernel_rfl) (by kernel_rfl) (fun _ _ _ h => h) (Or.inl ⟨by kernel_rfl, ?_⟩) ?_
      rotate_left
      · (intro w; go_simp; try with_reducible rfl)
      refine wpAny_take (i := 31) (v := ?_) rfl (by kernel_rfl) (by kernel_rfl) (by kernel_rfl) (fun _ _ _ h => h) (Or.inl ⟨by kernel_rfl, ?_⟩) ?_
      rotate_left
      · (intro w; go_simp; try with_reducible rfl)
      refine wpAny_done (by kernel_rfl) ?_ _
      go_simp
      go_wp2_with fail
      go_meet
      exact ⟨rfl, bel_tr HB2.out hb3⟩
    case rest =>
      obtain ⟨rfl, hbc⟩ := hcut
      have HB3 := Lib.hid hbc
      have HT3 := Lib.hid (HT.out.later hbc)
      clear hbc x0 x1 x2 x3 x4 x5 x6 i0 i1 i2 i3 i4 i5 i6 fSN hgb
      rcases tell_cases HR.out (k : Int) with ⟨hE, hRow, hPar, hAh⟩ | ⟨k', x', hkk, hxk, hE, hPar, hpar, hrest⟩
      · skip
        have fR := rrow_any xs (some ⟨gb, goff, none⟩) n c (k : Int) wc (HX.out wc HB3.out) (by omega)
        have fP := fun w' (h : TreeAt w' B t b r n xs) => parent_any h (k : Int)
        have fH := fun w' (h : TreeAt w' B t b r n xs) => ahead_any h (k : Int)
        have fW := fun w' (h : TreeAt w' B t b r n xs) => row_any h HR.out (by omega) (k : Int)
        have fE := fun w' (hb : Below w.heap.size w w') => relement_any xs (some ⟨gb, goff, none⟩) n c (k : Int) (· < w'.heap.size) w' (HX.out w' hb)
        have fV := fun w' (h : TreeAt w' B t b r n xs) => value_of h (k : Int) sp nm
        have fVr := fun w' (hb : Below w.heap.size w w') => rvalue_of xs (some ⟨gb, goff, none⟩) n c (k : Int) sp nm w' (HX.out w' hb)
        have fS := fun w' (h : TreeAt w' B t b r n xs) => state_of h (k : Int) nm
        have fSr := fun w' (hb : Below w.heap.size w w') => rstate_of xs (some ⟨gb, goff, none⟩) n c (k : Int) nm w' (HX.out w' hb)
        rw [hE] at fE
        rw [hRow] at fR fW
        rw [hPar] at fP
        rw [hAh] at fH
        rw [tupV_none] at fP fH
        generalize valI xs (k : Int) sp nm = V at *
        rcases V with ⟨v0, o0⟩
        generalize stateI xs (k : Int) nm = s0 at *
        have qv : (v0.toList == v0.toList) = true := beq_self_eq_true _
        have qo : (o0 == o0) = true := beq_self_eq_true _
        have qs : (s0 == s0) = true := beq_self_eq_true _
        dsimp only [valV] at fV fVr
        clear hE hPar hAh hRow 
        go_wp2_with fail
        refine fR.mono ?_
        rintro e4 w4 ⟨ar, cr, rfl, hrr, hb4⟩
        have HT4 := Lib.hid (HT3.out.later hb4)
        have HB4 := Lib.hid (bel_tr HB3.out hb4)
        have HRR := Lib.hid hrr
        have hcr : cr ≤ 9223372036854775807 := hrr.2.1
        clear fR hb4 hrr
        go_wp2_with fail
        refine (fP _ HT4.out).mono ?_
        rintro e5 w5 ⟨rfl, hb5⟩
        have HT5 := Lib.hid (HT4.out.later hb5)
        have HB5 := Lib.hid (bel_tr HB4.out hb5)
        have HR5 := Lib.hid (HRR.out.later hb5)
        clear fP hb5
        go_wp2_with fail
        refine (fH _ HT5.out).mono ?_
        rintro e6 w6 ⟨rfl, hb6⟩
        have HT6 := Lib.hid (HT5.out.later hb6)
        have HB6 := Lib.hid (bel_tr HB5.out hb6)
        have HR6 := Lib.hid (HR5.out.later hb6)
        clear fH hb6
        have fE6 := fE _ HB6.out
        have fW6 := fW _ HT6.out
        go_wp2_with (first
          | (go_at_call 19; (refine fE6.mono ?_); rintro e wq ⟨rfl, hwq⟩; replace hwq := hwq.symm; subst hwq)
          | (go_at_call 22; (refine fW6.mono ?_); rintro e7 w7 ⟨ar7, cr7, rfl, hrr7, hb7⟩; have hb67 := bel_tr HB6.out hb7; have HT7 := HT6.out.later hb7; have HR7 := HR6.out.later hb7; have fSm := same_any _ _ _ _ (([] : List Nat).map fun j : Nat => (j : Int)) (([] : List Nat).map fun j : Nat => (j : Int)) w7 hrr7 HR7; rw [decide_eq_true rfl] at fSm; skip)
          | (go_at_call 16; (refine fSm.mono ?_); rintro e8 w8 ⟨rfl, hb8⟩; have hb68 := bel_tr hb67 hb8; have HT8 := HT7.later hb8; have fV8 := fV _ HT8)
          | (go_at_call 39; (refine fV8.mono ?_); rintro e9 w9 ⟨rfl, hb9⟩; have hb69 := bel_tr hb68 hb9; have HT9 := HT8.later hb9; have fVr9 := fVr _ hb69)
          | (go_at_call 40; (refine fVr9.mono ?_); rintro e10 w10 ⟨rfl, hb10⟩; have hb610 := bel_tr hb69 hb10; have HT10 := HT9.later hb10; have fS10 := fS _ HT10)
          | (go_at_call 41; (refine fS10.mono ?_); rintro e11 w11 ⟨rfl, hb11⟩; have hb611 := bel_tr hb610 hb11; have fSr11 := fSr _ hb611)
          | (go_at_call 42; (refine fSr11.mono ?_); rintro e12 w12 ⟨rfl, hb12⟩; have hb612 := bel_tr hb611 hb12))
        go_ret
        exact ⟨rfl, hb612⟩
      obtain rfl : k = k' := by omega
      clear hkk
      have hxx : x' = x := by have := HXK0.out; rw [hxk] at this; exact Option.some.inj this
      subst hxx
      rcases hpar with hneg | hpos
      · rcases hrest with ⟨hAh, hRow⟩ | ⟨j, zs, hAh, hRow, hLe⟩
        · skip
          have fR := rrow_any xs (some ⟨gb, goff, none⟩) n c (k : Int) wc (HX.out wc HB3.out) (by omega)
          have fP := fun w' (h : TreeAt w' B t b r n xs) => parent_any h (k : Int)
          have fH := fun w' (h : TreeAt w' B t b r n xs) => ahead_any h (k : Int)
          have fW := fun w' (h : TreeAt w' B t b r n xs) => row_any h HR.out (by omega) (k : Int)
          have fE := fun w' (hb : Below w.heap.size w w') => relement_any xs (some ⟨gb, goff, none⟩) n c (k : Int) (· < w'.heap.size) w' (HX.out w' hb)
          have fV := fun w' (h : TreeAt w' B t b r n xs) => value_of h (k : Int) sp nm
          have fVr := fun w' (hb : Below w.heap.size w w') => rvalue_of xs (some ⟨gb, goff, none⟩) n c (k : Int) sp nm w' (HX.out w' hb)
          have fS := fun w' (h : TreeAt w' B t b r n xs) => state_of h (k : Int) nm
          have fSr := fun w' (hb : Below w.heap.size w w') => rstate_of xs (some ⟨gb, goff, none⟩) n c (k : Int) nm w' (HX.out w' hb)
          rw [hE] at fE
          rw [hPar] at fP
          unfold tupV at fP
          rw [if_pos hneg] at fP
          rw [hAh] at fH
          rw [hRow] at fR fW
          rw [tupV_none] at fH
          generalize valI xs (k : Int) sp nm = V at *
          rcases V with ⟨v0, o0⟩
          generalize stateI xs (k : Int) nm = s0 at *
          have qv : (v0.toList == v0.toList) = true := beq_self_eq_true _
          have qo : (o0 == o0) = true := beq_self_eq_true _
          have qs : (s0 == s0) = true := beq_self_eq_true _
          dsimp only [valV] at fV fVr
          have HXK := Lib.hid hxk
          have hkI : (0 : Int) ≤ (k : Int) := by omega
          have hkI2 : (k : Int) < (n : Int) := by omega
          clear hE hPar hAh hRow hxk
          go_wp2_with fail
          refine fR.mono ?_
          rintro e4 w4 ⟨ar, cr, rfl, hrr, hb4⟩
          have HT4 := Lib.hid (HT3.out.later hb4)
          have HB4 := Lib.hid (bel_tr HB3.out hb4)
          have HRR := Lib.hid hrr
          have hcr : cr ≤ 9223372036854775807 := hrr.2.1
          clear fR hb4 hrr
          go_wp2_with fail
          refine (fP _ HT4.out).mono ?_
          rintro e5 w5 ⟨rfl, hb5⟩
          have HT5 := Lib.hid (HT4.out.later hb5)
          have HB5 := Lib.hid (bel_tr HB4.out hb5)
          have HR5 := Lib.hid (HRR.out.later hb5)
          clear fP hb5
          go_wp2_with fail
          refine (fH _ HT5.out).mono ?_
          rintro e6 w6 ⟨rfl, hb6⟩
          have HT6 := Lib.hid (HT5.out.later hb6)
          have HB6 := Lib.hid (bel_tr HB5.out hb6)
          have HR6 := Lib.hid (HR5.out.later hb6)
          clear fH hb6
          have fE6 := fE _ HB6.out
          obtain ⟨gb', goff', hge, hgb', x0, _⟩ := (HX.out w6 HB6.out).at k x' HXK.out
          cases hge
          have fW6 := fW _ HT6.out
          go_wp2_with (first
            | (go_at_call 19; (refine fE6.mono ?_); rintro e wq ⟨rfl, hwq⟩; replace hwq := hwq.symm; subst hwq)
            | (go_at_call 22; (refine fW6.mono ?_); rintro e7 w7 ⟨ar7, cr7, rfl, hrr7, hb7⟩; have hb67 := bel_tr HB6.out hb7; have HT7 := HT6.out.later hb7; have HR7 := HR6.out.later hb7; have fSm := same_any _ _ _ _ ([k].map fun j : Nat => (j : Int)) ([k].map fun j : Nat => (j : Int)) w7 hrr7 HR7; rw [decide_eq_true rfl] at fSm; skip)
            | (go_at_call 16; (refine fSm.mono ?_); rintro e8 w8 ⟨rfl, hb8⟩; have hb68 := bel_tr hb67 hb8; have HT8 := HT7.later hb8; have fV8 := fV _ HT8)
            | (go_at_call 39; (refine fV8.mono ?_); rintro e9 w9 ⟨rfl, hb9⟩; have hb69 := bel_tr hb68 hb9; have HT9 := HT8.later hb9; have fVr9 := fVr _ hb69)
            | (go_at_call 40; (refine fVr9.mono ?_); rintro e10 w10 ⟨rfl, hb10⟩; have hb610 := bel_tr hb69 hb10; have HT10 := HT9.later hb10; have fS10 := fS _ HT10)
            | (go_at_call 41; (refine fS10.mono ?_); rintro e11 w11 ⟨rfl, hb11⟩; have hb611 := bel_tr hb610 hb11; have fSr11 := fSr _ hb611)
            | (go_at_call 42; (refine fSr11.mono ?_); rintro e12 w12 ⟨rfl, hb12⟩; have hb612 := bel_tr hb611 hb12))
          go_ret
          exact ⟨rfl, hb612⟩
        · skip
          have fR := rrow_any xs (some ⟨gb, goff, none⟩) n c (k : Int) wc (HX.out wc HB3.out) (by omega)
          have fP := fun w' (h : TreeAt w' B t b r n xs) => parent_any h (k : Int)
          have fH := fun w' (h : TreeAt w' B t b r n xs) => ahead_any h (k : Int)
          have fW := fun w' (h : TreeAt w' B t b r n xs) => row_any h HR.out (by omega) (k : Int)
          have fE := fun w' (hb : Below w.heap.size w w') => relement_any xs (some ⟨gb, goff, none⟩) n c (k : Int) (· < w'.heap.size) w' (HX.out w' hb)
          have fV := fun w' (h : TreeAt w' B t b r n xs) => value_of h (k : Int) sp nm
          have fVr := fun w' (hb : Below w.heap.size w w') => rvalue_of xs (some ⟨gb, goff, none⟩) n c (k : Int) sp nm w' (HX.out w' hb)
          have fS := fun w' (h : TreeAt w' B t b r n xs) => state_of h (k : Int) nm
          have fSr := fun w' (hb : Below w.heap.size w w') => rstate_of xs (some ⟨gb, goff, none⟩) n c (k : Int) nm w' (HX.out w' hb)
          rw [hE] at fE
          rw [hPar] at fP
          unfold tupV at fP
          rw [if_pos hneg] at fP
          rw [hAh] at fH
          rw [hRow] at fR fW
          unfold tupV at fH
          rw [if_neg (by omega)] at fH
          obtain ⟨m, hm⟩ : ∃ m, m = zs.length := ⟨_, rfl⟩
          have hl2 : (zs ++ [j] ++ [k]).length = m + 2 := by simp [hm]
          have HM := Lib.hid hm
          have HL2 := Lib.hid hl2
          unfold RowP at fR fW
          rw [hl2] at fR fW
          have hmn : m + 2 ≤ 1000000 := by omega
          clear hl2 hm hLe
          have q3 : decide ((1 : Int) < (m : Int) + 2) = true := decide_eq_true (by omega)
          have q4 : (1 : Int) < (m : Int) + 2 := by omega
          have wm : IntKind.i64.wrap (m : Int) = m := by rw [IntWalk.i64_in _ (by omega)]
          have wm2 : IntKind.i64.wrap ((m : Int) + 2 - 2) = m := by rw [IntWalk.i64_in _ (by omega)]; omega
          have qd : (0 : Int) ≤ (m : Int) := by omega
          have qe : (m : Int) < (m : Int) + 2 := by omega
          have qc : (0 : Int) ≤ (m : Int) ∧ (m : Int) < (m : Int) + 2 := by omega
          generalize valI xs (k : Int) sp nm = V at *
          rcases V with ⟨v0, o0⟩
          generalize stateI xs (k : Int) nm = s0 at *
          have qv : (v0.toList == v0.toList) = true := beq_self_eq_true _
          have qo : (o0 == o0) = true := beq_self_eq_true _
          have qs : (s0 == s0) = true := beq_self_eq_true _
          dsimp only [valV] at fV fVr
          have HXK := Lib.hid hxk
          have hkI : (0 : Int) ≤ (k : Int) := by omega
          have hkI2 : (k : Int) < (n : Int) := by omega
          clear hE hPar hAh hRow hxk
          go_wp2_with fail
          refine fR.mono ?_
          rintro e4 w4 ⟨ar, cr, rfl, hrr, hb4⟩
          have HT4 := Lib.hid (HT3.out.later hb4)
          have HB4 := Lib.hid (bel_tr HB3.out hb4)
          have HRR := Lib.hid hrr
          have hcr : cr ≤ 9223372036854775807 := hrr.2.1
          clear fR hb4 hrr
          go_wp2_with fail
          refine (fP _ HT4.out).mono ?_
          rintro e5 w5 ⟨rfl, hb5⟩
          have HT5 := Lib.hid (HT4.out.later hb5)
          have HB5 := Lib.hid (bel_tr HB4.out hb5)
          have HR5 := Lib.hid (HRR.out.later hb5)
          clear fP hb5
          go_wp2_with fail
          refine (fH _ HT5.out).mono ?_
          rintro e6 w6 ⟨rfl, hb6⟩
          have HT6 := Lib.hid (HT5.out.later hb6)
          have HB6 := Lib.hid (bel_tr HB5.out hb6)
          have HR6 := Lib.hid (HR5.out.later hb6)
          clear fH hb6
          have fE6 := fE _ HB6.out
          obtain ⟨gb', goff', hge, hgb', x0, _⟩ := (HX.out w6 HB6.out).at k x' HXK.out
          cases hge
          obtain ⟨hc1, hc2, hrow⟩ := HR6.out
          obtain ⟨gr, offr, rfl, hat⟩ := hrow.resolve_left (by simp)
          have r2 := hat.2 m (by simp; rw [← HM.out]; omega)
          have e2 : ((zs ++ [j] ++ [k]).map fun j : Nat => (j : Int))[m]?.getD 0 = (j : Int) := by rw [HM.out]; simp
          rw [e2] at r2
          clear hc1 hc2 hrow e2 hat
          have fW6 := fW _ HT6.out
          go_wp2_with (first
            | (go_at_call 19; (refine fE6.mono ?_); rintro e wq ⟨rfl, hwq⟩; replace hwq := hwq.symm; subst hwq)
            | (go_at_call 22; (refine fW6.mono ?_); rintro e7 w7 ⟨ar7, cr7, rfl, hrr7, hb7⟩; have hb67 := bel_tr HB6.out hb7; have HT7 := HT6.out.later hb7; have HR7 := HR6.out.later hb7; have fSm := same_any _ _ _ _ ((zs ++ [j] ++ [k]).map fun j : Nat => (j : Int)) ((zs ++ [j] ++ [k]).map fun j : Nat => (j : Int)) w7 hrr7 HR7; rw [decide_eq_true rfl] at fSm; simp only [List.length_map] at fSm; rw [HL2.out] at fSm; skip)
            | (go_at_call 16; (refine fSm.mono ?_); rintro e8 w8 ⟨rfl, hb8⟩; have hb68 := bel_tr hb67 hb8; have HT8 := HT7.later hb8; have fV8 := fV _ HT8)
            | (go_at_call 39; (refine fV8.mono ?_); rintro e9 w9 ⟨rfl, hb9⟩; have hb69 := bel_tr hb68 hb9; have HT9 := HT8.later hb9; have fVr9 := fVr _ hb69)
            | (go_at_call 40; (refine fVr9.mono ?_); rintro e10 w10 ⟨rfl, hb10⟩; have hb610 := bel_tr hb69 hb10; have HT10 := HT9.later hb10; have fS10 := fS _ HT10)
            | (go_at_call 41; (refine fS10.mono ?_); rintro e11 w11 ⟨rfl, hb11⟩; have hb611 := bel_tr hb610 hb11; have fSr11 := fSr _ hb611)
            | (go_at_call 42; (refine fSr11.mono ?_); rintro e12 w12 ⟨rfl, hb12⟩; have hb612 := bel_tr hb611 hb12))
          go_ret
          exact ⟨rfl, hb612⟩
      · rcases hrest with ⟨hAh, hRow⟩ | ⟨j, zs, hAh, hRow, hLe⟩
        · skip
          have fR := rrow_any xs (some ⟨gb, goff, none⟩) n c (k : Int) wc (HX.out wc HB3.out) (by omega)
          have fP := fun w' (h : TreeAt w' B t b r n xs) => parent_any h (k : Int)
          have fH := fun w' (h : TreeAt w' B t b r n xs) => ahead_any h (k : Int)
          have fW := fun w' (h : TreeAt w' B t b r n xs) => row_any h HR.out (by omega) (k : Int)
          have fE := fun w' (hb : Below w.heap.size w w') => relement_any xs (some ⟨gb, goff, none⟩) n c (k : Int) (· < w'.heap.size) w' (HX.out w' hb)
          have fV := fun w' (h : TreeAt w' B t b r n xs) => value_of h (k : Int) sp nm
          have fVr := fun w' (hb : Below w.heap.size w w') => rvalue_of xs (some ⟨gb, goff, none⟩) n c (k : Int) sp nm w' (HX.out w' hb)
          have fS := fun w' (h : TreeAt w' B t b r n xs) => state_of h (k : Int) nm
          have fSr := fun w' (hb : Below w.heap.size w w') => rstate_of xs (some ⟨gb, goff, none⟩) n c (k : Int) nm w' (HX.out w' hb)
          rw [hE] at fE
          rw [hPar] at fP
          unfold tupV at fP
          rw [if_neg (by omega)] at fP
          rw [hAh] at fH
          rw [hRow] at fR fW
          rw [tupV_none] at fH
          generalize valI xs (k : Int) sp nm = V at *
          rcases V with ⟨v0, o0⟩
          generalize stateI xs (k : Int) nm = s0 at *
          have qv : (v0.toList == v0.toList) = true := beq_self_eq_true _
          have qo : (o0 == o0) = true := beq_self_eq_true _
          have qs : (s0 == s0) = true := beq_self_eq_true _
          dsimp only [valV] at fV fVr
          have HXK := Lib.hid hxk
          have hkI : (0 : Int) ≤ (k : Int) := by omega
          have hkI2 : (k : Int) < (n : Int) := by omega
          clear hE hPar hAh hRow hxk
          go_wp2_with fail
          refine fR.mono ?_
          rintro e4 w4 ⟨ar, cr, rfl, hrr, hb4⟩
          have HT4 := Lib.hid (HT3.out.later hb4)
          have HB4 := Lib.hid (bel_tr HB3.out hb4)
          have HRR := Lib.hid hrr
          have hcr : cr ≤ 9223372036854775807 := hrr.2.1
          clear fR hb4 hrr
          go_wp2_with fail
          refine (fP _ HT4.out).mono ?_
          rintro e5 w5 ⟨rfl, hb5⟩
          have HT5 := Lib.hid (HT4.out.later hb5)
          have HB5 := Lib.hid (bel_tr HB4.out hb5)
          have HR5 := Lib.hid (HRR.out.later hb5)
          clear fP hb5
          go_wp2_with fail
          refine (fH _ HT5.out).mono ?_
          rintro e6 w6 ⟨rfl, hb6⟩
          have HT6 := Lib.hid (HT5.out.later hb6)
          have HB6 := Lib.hid (bel_tr HB5.out hb6)
          have HR6 := Lib.hid (HR5.out.later hb6)
          clear fH hb6
          have fE6 := fE _ HB6.out
          obtain ⟨gb', goff', hge, hgb', x0, _⟩ := (HX.out w6 HB6.out).at k x' HXK.out
          cases hge
          have fW6 := fW _ HT6.out
          go_wp2_with (first
            | (go_at_call 19; (refine fE6.mono ?_); rintro e wq ⟨rfl, hwq⟩; replace hwq := hwq.symm; subst hwq)
            | (go_at_call 22; (refine fW6.mono ?_); rintro e7 w7 ⟨ar7, cr7, rfl, hrr7, hb7⟩; have hb67 := bel_tr HB6.out hb7; have HT7 := HT6.out.later hb7; have HR7 := HR6.out.later hb7; have fSm := same_any _ _ _ _ ([k].map fun j : Nat => (j : Int)) ([k].map fun j : Nat => (j : Int)) w7 hrr7 HR7; rw [decide_eq_true rfl] at fSm; skip)
            | (go_at_call 16; (refine fSm.mono ?_); rintro e8 w8 ⟨rfl, hb8⟩; have hb68 := bel_tr hb67 hb8; have HT8 := HT7.later hb8; have fV8 := fV _ HT8)
            | (go_at_call 39; (refine fV8.mono ?_); rintro e9 w9 ⟨rfl, hb9⟩; have hb69 := bel_tr hb68 hb9; have HT9 := HT8.later hb9; have fVr9 := fVr _ hb69)
            | (go_at_call 40; (refine fVr9.mono ?_); rintro e10 w10 ⟨rfl, hb10⟩; have hb610 := bel_tr hb69 hb10; have HT10 := HT9.later hb10; have fS10 := fS _ HT10)
            | (go_at_call 41; (refine fS10.mono ?_); rintro e11 w11 ⟨rfl, hb11⟩; have hb611 := bel_tr hb610 hb11; have fSr11 := fSr _ hb611)
            | (go_at_call 42; (refine fSr11.mono ?_); rintro e12 w12 ⟨rfl, hb12⟩; have hb612 := bel_tr hb611 hb12))
          go_ret
          exact ⟨rfl, hb612⟩
        · skip
          have fR := rrow_any xs (some ⟨gb, goff, none⟩) n c (k : Int) wc (HX.out wc HB3.out) (by omega)
          have fP := fun w' (h : TreeAt w' B t b r n xs) => parent_any h (k : Int)
          have fH := fun w' (h : TreeAt w' B t b r n xs) => ahead_any h (k : Int)
          have fW := fun w' (h : TreeAt w' B t b r n xs) => row_any h HR.out (by omega) (k : Int)
          have fE := fun w' (hb : Below w.heap.size w w') => relement_any xs (some ⟨gb, goff, none⟩) n c (k : Int) (· < w'.heap.size) w' (HX.out w' hb)
          have fV := fun w' (h : TreeAt w' B t b r n xs) => value_of h (k : Int) sp nm
          have fVr := fun w' (hb : Below w.heap.size w w') => rvalue_of xs (some ⟨gb, goff, none⟩) n c (k : Int) sp nm w' (HX.out w' hb)
          have fS := fun w' (h : TreeAt w' B t b r n xs) => state_of h (k : Int) nm
          have fSr := fun w' (hb : Below w.heap.size w w') => rstate_of xs (some ⟨gb, goff, none⟩) n c (k : Int) nm w' (HX.out w' hb)
          rw [hE] at fE
          rw [hPar] at fP
          unfold tupV at fP
          rw [if_neg (by omega)] at fP
          rw [hAh] at fH
          rw [hRow] at fR fW
          unfold tupV at fH
          rw [if_neg (by omega)] at fH
          obtain ⟨m, hm⟩ : ∃ m, m = zs.length := ⟨_, rfl⟩
          have hl2 : (zs ++ [j] ++ [k]).length = m + 2 := by simp [hm]
          have HM := Lib.hid hm
          have HL2 := Lib.hid hl2
          unfold RowP at fR fW
          rw [hl2] at fR fW
          have hmn : m + 2 ≤ 1000000 := by omega
          clear hl2 hm hLe
          have q3 : decide ((1 : Int) < (m : Int) + 2) = true := decide_eq_true (by omega)
          have q4 : (1 : Int) < (m : Int) + 2 := by omega
          have wm : IntKind.i64.wrap (m : Int) = m := by rw [IntWalk.i64_in _ (by omega)]
          have wm2 : IntKind.i64.wrap ((m : Int) + 2 - 2) = m := by rw [IntWalk.i64_in _ (by omega)]; omega
          have qd : (0 : Int) ≤ (m : Int) := by omega
          have qe : (m : Int) < (m : Int) + 2 := by omega
          have qc : (0 : Int) ≤ (m : Int) ∧ (m : Int) < (m : Int) + 2 := by omega
          generalize valI xs (k : Int) sp nm = V at *
          rcases V with ⟨v0, o0⟩
          generalize stateI xs (k : Int) nm = s0 at *
          have qv : (v0.toList == v0.toList) = true := beq_self_eq_true _
          have qo : (o0 == o0) = true := beq_self_eq_true _
          have qs : (s0 == s0) = true := beq_self_eq_true _
          dsimp only [valV] at fV fVr
          have HXK := Lib.hid hxk
          have hkI : (0 : Int) ≤ (k : Int) := by omega
          have hkI2 : (k : Int) < (n : Int) := by omega
          clear hE hPar hAh hRow hxk
          go_wp2_with fail
          refine fR.mono ?_
          rintro e4 w4 ⟨ar, cr, rfl, hrr, hb4⟩
          have HT4 := Lib.hid (HT3.out.later hb4)
          have HB4 := Lib.hid (bel_tr HB3.out hb4)
          have HRR := Lib.hid hrr
          have hcr : cr ≤ 9223372036854775807 := hrr.2.1
          clear fR hb4 hrr
          go_wp2_with fail
          refine (fP _ HT4.out).mono ?_
          rintro e5 w5 ⟨rfl, hb5⟩
          have HT5 := Lib.hid (HT4.out.later hb5)
          have HB5 := Lib.hid (bel_tr HB4.out hb5)
          have HR5 := Lib.hid (HRR.out.later hb5)
          clear fP hb5
          go_wp2_with fail
          refine (fH _ HT5.out).mono ?_
          rintro e6 w6 ⟨rfl, hb6⟩
          have HT6 := Lib.hid (HT5.out.later hb6)
          have HB6 := Lib.hid (bel_tr HB5.out hb6)
          have HR6 := Lib.hid (HR5.out.later hb6)
          clear fH hb6
          have fE6 := fE _ HB6.out
          obtain ⟨gb', goff', hge, hgb', x0, _⟩ := (HX.out w6 HB6.out).at k x' HXK.out
          cases hge
          obtain ⟨hc1, hc2, hrow⟩ := HR6.out
          obtain ⟨gr, offr, rfl, hat⟩ := hrow.resolve_left (by simp)
          have r2 := hat.2 m (by simp; rw [← HM.out]; omega)
          have e2 : ((zs ++ [j] ++ [k]).map fun j : Nat => (j : Int))[m]?.getD 0 = (j : Int) := by rw [HM.out]; simp
          rw [e2] at r2
          clear hc1 hc2 hrow e2 hat
          have fW6 := fW _ HT6.out
          go_wp2_with (first
            | (go_at_call 19; (refine fE6.mono ?_); rintro e wq ⟨rfl, hwq⟩; replace hwq := hwq.symm; subst hwq)
            | (go_at_call 22; (refine fW6.mono ?_); rintro e7 w7 ⟨ar7, cr7, rfl, hrr7, hb7⟩; have hb67 := bel_tr HB6.out hb7; have HT7 := HT6.out.later hb7; have HR7 := HR6.out.later hb7; have fSm := same_any _ _ _ _ ((zs ++ [j] ++ [k]).map fun j : Nat => (j : Int)) ((zs ++ [j] ++ [k]).map fun j : Nat => (j : Int)) w7 hrr7 HR7; rw [decide_eq_true rfl] at fSm; simp only [List.length_map] at fSm; rw [HL2.out] at fSm; skip)
            | (go_at_call 16; (refine fSm.mono ?_); rintro e8 w8 ⟨rfl, hb8⟩; have hb68 := bel_tr hb67 hb8; have HT8 := HT7.later hb8; have fV8 := fV _ HT8)
            | (go_at_call 39; (refine fV8.mono ?_); rintro e9 w9 ⟨rfl, hb9⟩; have hb69 := bel_tr hb68 hb9; have HT9 := HT8.later hb9; have fVr9 := fVr _ hb69)
            | (go_at_call 40; (refine fVr9.mono ?_); rintro e10 w10 ⟨rfl, hb10⟩; have hb610 := bel_tr hb69 hb10; have HT10 := HT9.later hb10; have fS10 := fS _ HT10)
            | (go_at_call 41; (refine fS10.mono ?_); rintro e11 w11 ⟨rfl, hb11⟩; have hb611 := bel_tr hb610 hb11; have fSr11 := fSr _ hb611)
            | (go_at_call 42; (refine fSr11.mono ?_); rintro e12 w12 ⟨rfl, hb12⟩; have hb612 := bel_tr hb611 hb12))
          go_ret
          exact ⟨rfl, hb612⟩
  · have HA := Lib.hid ha
    rw [← HN.out] at hp
    have hE : elemB xs p = false := by unfold elemB; rw [ha]
    clear ha
    rcases tell_cases HR.out p with ⟨_, hRow, hPar, hAh⟩ | ⟨k', x', hkk, hxk, hE2, _⟩
    rotate_left
    · rw [hE] at hE2; cases hE2
    by_cases hp0 : 0 ≤ p
    · have hpn : ¬ p < (n : Int) := by omega
      clear hp
      go_enter Try.func15, Try.ntmps15
      go_wp2_with fail
      refine fN.mono ?_
      rintro e1 w1 (⟨_, rfl, hb1⟩ | ⟨y, b1, m1, d1, b2, m2, d2, hy, _⟩)
      rotate_left
      · rw [HA.out] at hy; cases hy
      obtain ⟨w2, hw2⟩ : ∃ w2, w1.alloc (.cells #[.int .i64 0, .int .i64 0, .string ⟨#[]⟩, .string ⟨#[]⟩, .slice none 0 0, .slice none 0 0, .string ⟨#[]⟩] 44) = w2 := ⟨_, rfl⟩
      have hb2 : Below w1.heap.size w1 w2 := by rw [← hw2]; exact (Below.refl _ _).alloc (Nat.le_refl _) _
      have C2 : Blk w2 w1.heap.size (ndCells 0 0 ⟨#[]⟩ ⟨#[]⟩ (.slice none 0 0) (.slice none 0 0) ⟨#[]⟩) 44 := by rw [← hw2]; exact Blk.alloc _ _
      have hb2D := hb2.drew
      have fSN := rsameNode_any 0 0 0 0 ⟨#[]⟩ ⟨#[]⟩ ⟨#[]⟩ ⟨#[]⟩ ⟨#[]⟩ ⟨#[]⟩ [] [] [] [] none none none none 0 0 0 0 0 0 0 0 (· < w1.heap.size) w2.drew (fun b hb => Nat.lt_of_lt_of_le hb hb2D.size) (RdOf.nil _ _ _ _ _ (by unfold maxLen; omega) (fun _ => rfl)) (RdOf.nil _ _ _ _ _ (by unfold maxLen; omega) (fun _ => rfl)) (RdOf.nil _ _ _ _ _ (by unfold maxLen; omega) (fun _ => rfl)) (RdOf.nil _ _ _ _ _ (by unfold maxLen; omega) (fun _ => rfl))
      rw [decide_eq_true rfl] at fSN
      have HW2 := Lib.hid hw2
      have HB2 := Lib.hid (bel_tr hb1 hb2D)
      have D2 : Blk w2.drew w1.heap.size (ndCells 0 0 ⟨#[]⟩ ⟨#[]⟩ (.slice none 0 0) (.slice none 0 0) ⟨#[]⟩) 44 := C2
      have i0 := D2.cell 0 _ rfl
      have i1 := D2.cell 1 _ rfl
      have i2 := D2.cell 2 _ rfl
      have i3 := D2.cell 3 _ rfl
      have i4 := D2.cell 4 _ rfl
      have i5 := D2.cell 5 _ rfl
      have i6 := D2.cell 6 _ rfl
      clear hb1 hb2 hb2D C2 D2 fN hw2
      go_wp2_with fail
      rw [HW2.out]
      go_cut [61] from 30 to 61 (fun v wx => v = .bool false ∧ Below w.heap.size w wx)
      case first =>
        refine wp_region_any (by kernel_rfl) ?_
        change wpAny _ _ _ _ _ _ _ (World.drew _)
        refine wpAny_take (i := 0) (v := ?_) rfl (by kernel_rfl) (by kernel_rfl) (by kernel_rfl) (fun _ _ _ h => h) (Or.inl ⟨by kernel_rfl, ?_⟩) ?_
        rotate_left
        · (intro w; go_simp; try with_reducible rfl)
        refine wpAny_take (i := 1) (v := ?_) rfl (by kernel_rfl) (by kernel_rfl) (by kernel_rfl) (fun _ _ _ h => h) (Or.inl ⟨by kernel_rfl, ?_⟩) ?_
        rotate_left
        · (intro w; go_simp; try with_reducible rfl)
        refine wpAny_take (i := 2) (v := .bool true) rfl (by kernel_rfl) (by kernel_rfl) (by kernel_rfl) (fun _ _ _ h => h) (Or.inl ⟨by kernel_rfl, ?_⟩) ?_
        · (intro w; go_simp; try simp [*])
        refine wpAny_take (i := 3) (v := ?_) rfl (by kernel_rfl) (by kernel_rfl) (by kernel_rfl) (fun _ _ _ h => h) (Or.inl ⟨by kernel_rfl, ?_⟩) ?_
        rotate_left
        · (intro w; go_simp; try with_reducible rfl)
        refine wpAny_take (i := 4) (v := ?_) rfl (by kernel_rfl) (by kernel_rfl) (by kernel_rfl) (fun _ _ _ h => h) (Or.inl ⟨by kernel_rfl, ?_⟩) ?_
        rotate_left
        · (intro w; go_simp; try with_reducible rfl)
        refine wpAny_take (i := 5) (v := ?_) rfl (by kernel_rfl) (by kernel_rfl) (by kernel_rfl) (fun _ _ _ h => h) (Or.inl ⟨by kernel_rfl, ?_⟩) ?_
        rotate_left
        · (intro w; go_simp; try with_reducible rfl)
        refine wpAny_take (i := 6) (v := ?_) rfl (by kernel_rfl) (by kernel_rfl) (by kernel_rfl) (fun _ _ _ h => h) (Or.inl ⟨by kernel_rfl, ?_⟩) ?_
        rotate_left
        · (intro w; go_simp; try with_reducible rfl)
        refine wpAny_take (i := 7) (v := .bool false) rfl (by kernel_rfl) (by kernel_rfl) (by kernel_rfl) (fun _ _ _ h => h) (Or.inl ⟨by kernel_rfl, ?_⟩) ?_
        · (intro w; go_simp; try simp [*])
        refine wpAny_take (i := 8) (v := ?_) rfl (by kernel_rfl) (by kernel_rfl) (by kernel_rfl) (fun _ _ _ h => h) (Or.inl ⟨by kernel_rfl, ?_⟩) ?_
        rotate_left
        · (intro w; go_simp; try with_reducible rfl)
        refine wpAny_take (i := 9) (v := ?_) rfl (by kernel_rfl) (by kernel_rfl) (by kernel_rfl) (fun _ _ _ h => h) (Or.inl ⟨by kernel_rfl, ?_⟩) ?_
        rotate_left
        · (intro w; go_simp; try with_reducible rfl)
        refine wpAny_take (i := 10) (v := ?_) rfl (by kernel_rfl) (by kernel_rfl) (by kernel_rfl) (fun _ _ _ h => h) (Or.inl ⟨by kernel_rfl, ?_⟩) ?_
        rotate_left
        · (intro w; go_simp; try with_reducible rfl)
        refine wpAny_take (i := 11) (v := ?_) rfl (by kernel_rfl) (by kernel_rfl) (by kernel_rfl) (fun _ _ _ h => h) (Or.inl ⟨by kernel_rfl, ?_⟩) ?_
        rotate_left
        · (intro w; go_simp; try with_reducible rfl)
        refine wpAny_take (i := 12) (v := ?_) rfl (by kernel_rfl) (by kernel_rfl) (by kernel_rfl) (fun _ _ _ h => h) (Or.inl ⟨by kernel_rfl, ?_⟩) ?_
        rotate_left
        · (intro w; go_simp; try with_reducible rfl)
        refine wpAny_take (i := 13) (v := undef) rfl (by kernel_rfl) (by kernel_rfl) (by kernel_rfl) (fun _ _ _ h => h) (Or.inr ⟨by kernel_rfl, rfl⟩) ?_
        refine wpAny_take (i := 14) (v := undef) rfl (by kernel_rfl) (by kernel_rfl) (by kernel_rfl) (fun _ _ _ h => h) (Or.inr ⟨by kernel_rfl, rfl⟩) ?_
        refine wpAny_take (i := 15) (v := undef) rfl (by kernel_rfl) (by kernel_rfl) (by kernel_rfl) (fun _ _ _ h => h) (Or.inr ⟨by kernel_rfl, rfl⟩) ?_
        refine wpAny_take (i := 16) (v := undef) rfl (by kernel_rfl) (by kernel_rfl) (by kernel_rfl) (fun _ _ _ h => h) (Or.inr ⟨by kernel_rfl, rfl⟩) ?_
        refine wpAny_take (i := 17) (v := undef) rfl (by kernel_rfl) (by kernel_rfl) (by kernel_rfl) (fun _ _ _ h => h) (Or.inr ⟨by kernel_rfl, rfl⟩) ?_
        refine wpAny_take (i := 18) (v := undef) rfl (by kernel_rfl) (by kernel_rfl) (by kernel_rfl) (fun _ _ _ h => h) (Or.inr ⟨by kernel_rfl, rfl⟩) ?_
        refine wpAny_take (i := 19) (v := undef) rfl (by kernel_rfl) (by kernel_rfl) (by kernel_rfl) (fun _ _ _ h => h) (Or.inr ⟨by kernel_rfl, rfl⟩) ?_
        refine wpAny_take (i := 20) (v := ?_) rfl (by kernel_rfl) (by kernel_rfl) (by kernel_rfl) (fun _ _ _ h => h) (Or.inl ⟨by kernel_rfl, ?_⟩) ?_
        rotate_left
        · (intro w; go_simp; try with_reducible rfl)
        refine wpAny_take (i := 21) (v := ?_) rfl (by kernel_rfl) (by kernel_rfl) (by kernel_rfl) (fun _ _ _ h => h) (Or.inl ⟨by kernel_rfl, ?_⟩) ?_
        rotate_left
        · (intro w; go_simp; try with_reducible rfl)
        refine wpAny_take (i := 22) (v := ?_) rfl (by kernel_rfl) (by kernel_rfl) (by kernel_rfl) (fun _ _ _ h => h) (Or.inl ⟨by kernel_rfl, ?_⟩) ?_
        rotate_left
        · (intro w; go_simp; try with_reducible rfl)
        refine wpAny_take (i := 23) (v := ?_) rfl (by kernel_rfl) (by kernel_rfl) (by kernel_rfl) (fun _ _ _ h => h) (Or.inl ⟨by kernel_rfl, ?_⟩) ?_
        rotate_left
        · (intro w; go_simp; try with_reducible rfl)
        refine wpAny_take (i := 24) (v := ?_) rfl (by kernel_rfl) (by kernel_rfl) (by kernel_rfl) (fun _ _ _ h => h) (Or.inl ⟨by kernel_rfl, ?_⟩) ?_
        rotate_left
        · (intro w; go_simp; try with_reducible rfl)
        refine wpAny_take (i := 25) (v := ?_) rfl (by kernel_rfl) (by kernel_rfl) (by kernel_rfl) (fun _ _ _ h => h) (Or.inl ⟨by kernel_rfl, ?_⟩) ?_
        rotate_left
        · (intro w; go_simp; try with_reducible rfl)
        refine wpAny_take (i := 27) (v := ?_) rfl (by kernel_rfl) (by kernel_rfl) (by kernel_rfl) (fun _ _ _ h => h) (Or.inl ⟨by kernel_rfl, ?_⟩) ?_
        rotate_left
        · (intro w; go_simp; try with_reducible rfl)
        refine wpAny_ready (rs := [26]) (by kernel_rfl) (by simp) ?_
        refine AllReady.cons rfl (fun K hK => ?_) AllReady.nil
        go_simp
        refine hK _ _ ?_
        clear hK K
        refine wpAny_ready (rs := [28]) (by kernel_rfl) (by simp) ?_
        refine AllReady.cons rfl (fun K hK => ?_) AllReady.nil
        go_simp
        go_wp2_with (go_at_call 32; (with_reducible refine fSN.mono ?_); rintro e w3 ⟨rfl, hb3⟩)
        refine wpAny_take (i := 29) (v := ?_) rfl (by kernel_rfl) (by kernel_rfl) (by kernel_rfl) (fun _ _ _ h => h) (Or.inl ⟨by kernel_rfl, ?_⟩) ?_
        rotate_left
        · (intro w; go_simp; try with_reducible rfl)
        refine wpAny_take (i := 30) (v := ?_) rfl (by kernel_rfl) (by kernel_rfl) (by kernel_rfl) (fun _ _ _ h => h) (Or.inl ⟨by kernel_rfl, ?_⟩) ?_
        rotate_left
        · (intro w; go_simp; try with_reducible rfl)
        refine wpAny_take (i := 31) (v := ?_) rfl (by kernel_rfl) (by kernel_rfl) (by kernel_rfl) (fun _ _ _ h => h) (Or.inl ⟨by kernel_rfl, ?_⟩) ?_
        rotate_left
        · (intro w; go_simp; try with_reducible rfl)
        refine wpAny_done (by kernel_rfl) ?_ _
        go_simp
        go_wp2_with fail
        go_meet
        exact ⟨rfl, bel_tr HB2.out hb3⟩
      case rest =>
        obtain ⟨rfl, hbc⟩ := hcut
        have HB3 := Lib.hid hbc
        have HT3 := Lib.hid (HT.out.later hbc)
        clear hbc i0 i1 i2 i3 i4 i5 i6 fSN
        have fR := rrow_any xs a n c p wc (HX.out wc HB3.out) (by omega)
        have fP := fun w' (h : TreeAt w' B t b r n xs) => parent_any h p
        have fH := fun w' (h : TreeAt w' B t b r n xs) => ahead_any h p
        have fW := fun w' (h : TreeAt w' B t b r n xs) => row_any h HR.out (by omega) p
        have fE := fun w' (hb : Below w.heap.size w w') => relement_any xs a n c p (· < w'.heap.size) w' (HX.out w' hb)
        have fV := fun w' (h : TreeAt w' B t b r n xs) => value_of h p sp nm
        have fVr := fun w' (hb : Below w.heap.size w w') => rvalue_of xs a n c p sp nm w' (HX.out w' hb)
        have fS := fun w' (h : TreeAt w' B t b r n xs) => state_of h p nm
        have fSr := fun w' (hb : Below w.heap.size w w') => rstate_of xs a n c p nm w' (HX.out w' hb)
        rw [hE] at fE
        rw [hRow] at fR fW
        rw [hPar] at fP
        rw [hAh] at fH
        rw [tupV_none] at fP fH
        generalize valI xs p sp nm = V at *
        rcases V with ⟨v0, o0⟩
        generalize stateI xs p nm = s0 at *
        have qv : (v0.toList == v0.toList) = true := beq_self_eq_true _
        have qo : (o0 == o0) = true := beq_self_eq_true _
        have qs : (s0 == s0) = true := beq_self_eq_true _
        dsimp only [valV] at fV fVr
        clear hE hPar hAh hRow 
        go_wp2_with fail
        refine fR.mono ?_
        rintro e4 w4 ⟨ar, cr, rfl, hrr, hb4⟩
        have HT4 := Lib.hid (HT3.out.later hb4)
        have HB4 := Lib.hid (bel_tr HB3.out hb4)
        have HRR := Lib.hid hrr
        have hcr : cr ≤ 9223372036854775807 := hrr.2.1
        clear fR hb4 hrr
        go_wp2_with fail
        refine (fP _ HT4.out).mono ?_
        rintro e5 w5 ⟨rfl, hb5⟩
        have HT5 := Lib.hid (HT4.out.later hb5)
        have HB5 := Lib.hid (bel_tr HB4.out hb5)
        have HR5 := Lib.hid (HRR.out.later hb5)
        clear fP hb5
        go_wp2_with fail
        refine (fH _ HT5.out).mono ?_
        rintro e6 w6 ⟨rfl, hb6⟩
        have HT6 := Lib.hid (HT5.out.later hb6)
        have HB6 := Lib.hid (bel_tr HB5.out hb6)
        have HR6 := Lib.hid (HR5.out.later hb6)
        clear fH hb6
        have fE6 := fE _ HB6.out
        have fW6 := fW _ HT6.out
        go_wp2_with (first
          | (go_at_call 19; (refine fE6.mono ?_); rintro e wq ⟨rfl, hwq⟩; replace hwq := hwq.symm; subst hwq)
          | (go_at_call 22; (refine fW6.mono ?_); rintro e7 w7 ⟨ar7, cr7, rfl, hrr7, hb7⟩; have hb67 := bel_tr HB6.out hb7; have HT7 := HT6.out.later hb7; have HR7 := HR6.out.later hb7; have fSm := same_any _ _ _ _ (([] : List Nat).map fun j : Nat => (j : Int)) (([] : List Nat).map fun j : Nat => (j : Int)) w7 hrr7 HR7; rw [decide_eq_true rfl] at fSm; skip)
          | (go_at_call 16; (refine fSm.mono ?_); rintro e8 w8 ⟨rfl, hb8⟩; have hb68 := bel_tr hb67 hb8; have HT8 := HT7.later hb8; have fV8 := fV _ HT8)
          | (go_at_call 39; (refine fV8.mono ?_); rintro e9 w9 ⟨rfl, hb9⟩; have hb69 := bel_tr hb68 hb9; have HT9 := HT8.later hb9; have fVr9 := fVr _ hb69)
          | (go_at_call 40; (refine fVr9.mono ?_); rintro e10 w10 ⟨rfl, hb10⟩; have hb610 := bel_tr hb69 hb10; have HT10 := HT9.later hb10; have fS10 := fS _ HT10)
          | (go_at_call 41; (refine fS10.mono ?_); rintro e11 w11 ⟨rfl, hb11⟩; have hb611 := bel_tr hb610 hb11; have fSr11 := fSr _ hb611)
          | (go_at_call 42; (refine fSr11.mono ?_); rintro e12 w12 ⟨rfl, hb12⟩; have hb612 := bel_tr hb611 hb12))
        go_ret
        exact ⟨rfl, hb612⟩
    · clear hp
      go_enter Try.func15, Try.ntmps15
      go_wp2_with fail
      refine fN.mono ?_
      rintro e1 w1 (⟨_, rfl, hb1⟩ | ⟨y, b1, m1, d1, b2, m2, d2, hy, _⟩)
      rotate_left
      · rw [HA.out] at hy; cases hy
      obtain ⟨w2, hw2⟩ : ∃ w2, w1.alloc (.cells #[.int .i64 0, .int .i64 0, .string ⟨#[]⟩, .string ⟨#[]⟩, .slice none 0 0, .slice none 0 0, .string ⟨#[]⟩] 44) = w2 := ⟨_, rfl⟩
      have hb2 : Below w1.heap.size w1 w2 := by rw [← hw2]; exact (Below.refl _ _).alloc (Nat.le_refl _) _
      have C2 : Blk w2 w1.heap.size (ndCells 0 0 ⟨#[]⟩ ⟨#[]⟩ (.slice none 0 0) (.slice none 0 0) ⟨#[]⟩) 44 := by rw [← hw2]; exact Blk.alloc _ _
      have hb2D := hb2.drew
      have fSN := rsameNode_any 0 0 0 0 ⟨#[]⟩ ⟨#[]⟩ ⟨#[]⟩ ⟨#[]⟩ ⟨#[]⟩ ⟨#[]⟩ [] [] [] [] none none none none 0 0 0 0 0 0 0 0 (· < w1.heap.size) w2.drew (fun b hb => Nat.lt_of_lt_of_le hb hb2D.size) (RdOf.nil _ _ _ _ _ (by unfold maxLen; omega) (fun _ => rfl)) (RdOf.nil _ _ _ _ _ (by unfold maxLen; omega) (fun _ => rfl)) (RdOf.nil _ _ _ _ _ (by unfold maxLen; omega) (fun _ => rfl)) (RdOf.nil _ _ _ _ _ (by unfold maxLen; omega) (fun _ => rfl))
      rw [decide_eq_true rfl] at fSN
      have HW2 := Lib.hid hw2
      have HB2 := Lib.hid (bel_tr hb1 hb2D)
      have D2 : Blk w2.drew w1.heap.size (ndCells 0 0 ⟨#[]⟩ ⟨#[]⟩ (.slice none 0 0) (.slice none 0 0) ⟨#[]⟩) 44 := C2
      have i0 := D2.cell 0 _ rfl
      have i1 := D2.cell 1 _ rfl
      have i2 := D2.cell 2 _ rfl
      have i3 := D2.cell 3 _ rfl
      have i4 := D2.cell 4 _ rfl
      have i5 := D2.cell 5 _ rfl
      have i6 := D2.cell 6 _ rfl
      clear hb1 hb2 hb2D C2 D2 fN hw2
      go_wp2_with fail
      rw [HW2.out]
      go_cut [61] from 30 to 61 (fun v wx => v = .bool false ∧ Below w.heap.size w wx)
      case first =>
        refine wp_region_any (by kernel_rfl) ?_
        change wpAny _ _ _ _ _ _ _ (World.drew _)
        refine wpAny_take (i := 0) (v := ?_) rfl (by kernel_rfl) (by kernel_rfl) (by kernel_rfl) (fun _ _ _ h => h) (Or.inl ⟨by kernel_rfl, ?_⟩) ?_
        rotate_left
        · (intro w; go_simp; try with_reducible rfl)
        refine wpAny_take (i := 1) (v := ?_) rfl (by kernel_rfl) (by kernel_rfl) (by kernel_rfl) (fun _ _ _ h => h) (Or.inl ⟨by kernel_rfl, ?_⟩) ?_
        rotate_left
        · (intro w; go_simp; try with_reducible rfl)
        refine wpAny_take (i := 2) (v := .bool false) rfl (by kernel_rfl) (by kernel_rfl) (by kernel_rfl) (fun _ _ _ h => h) (Or.inl ⟨by kernel_rfl, ?_⟩) ?_
        · (intro w; go_simp; try simp [*])
        refine wpAny_take (i := 3) (v := ?_) rfl (by kernel_rfl) (by kernel_rfl) (by kernel_rfl) (fun _ _ _ h => h) (Or.inl ⟨by kernel_rfl, ?_⟩) ?_
        rotate_left
        · (intro w; go_simp; try with_reducible rfl)
        refine wpAny_take (i := 4) (v := undef) rfl (by kernel_rfl) (by kernel_rfl) (by kernel_rfl) (fun _ _ _ h => h) (Or.inr ⟨by kernel_rfl, rfl⟩) ?_
        refine wpAny_take (i := 5) (v := undef) rfl (by kernel_rfl) (by kernel_rfl) (by kernel_rfl) (fun _ _ _ h => h) (Or.inr ⟨by kernel_rfl, rfl⟩) ?_
        refine wpAny_take (i := 6) (v := undef) rfl (by kernel_rfl) (by kernel_rfl) (by kernel_rfl) (fun _ _ _ h => h) (Or.inr ⟨by kernel_rfl, rfl⟩) ?_
        refine wpAny_take (i := 7) (v := undef) rfl (by kernel_rfl) (by kernel_rfl) (by kernel_rfl) (fun _ _ _ h => h) (Or.inr ⟨by kernel_rfl, rfl⟩) ?_
        refine wpAny_take (i := 8) (v := ?_) rfl (by kernel_rfl) (by kernel_rfl) (by kernel_rfl) (fun _ _ _ h => h) (Or.inl ⟨by kernel_rfl, ?_⟩) ?_
        rotate_left
        · (intro w; go_simp; try with_reducible rfl)
        refine wpAny_take (i := 9) (v := ?_) rfl (by kernel_rfl) (by kernel_rfl) (by kernel_rfl) (fun _ _ _ h => h) (Or.inl ⟨by kernel_rfl, ?_⟩) ?_
        rotate_left
        · (intro w; go_simp; try with_reducible rfl)
        refine wpAny_take (i := 10) (v := ?_) rfl (by kernel_rfl) (by kernel_rfl) (by kernel_rfl) (fun _ _ _ h => h) (Or.inl ⟨by kernel_rfl, ?_⟩) ?_
        rotate_left
        · (intro w; go_simp; try with_reducible rfl)
        refine wpAny_take (i := 11) (v := ?_) rfl (by kernel_rfl) (by kernel_rfl) (by kernel_rfl) (fun _ _ _ h => h) (Or.inl ⟨by kernel_rfl, ?_⟩) ?_
        rotate_left
        · (intro w; go_simp; try with_reducible rfl)
        refine wpAny_take (i := 12) (v := ?_) rfl (by kernel_rfl) (by kernel_rfl) (by kernel_rfl) (fun _ _ _ h => h) (Or.inl ⟨by kernel_rfl, ?_⟩) ?_
        rotate_left
        · (intro w; go_simp; try with_reducible rfl)
        refine wpAny_take (i := 13) (v := undef) rfl (by kernel_rfl) (by kernel_rfl) (by kernel_rfl) (fun _ _ _ h => h) (Or.inr ⟨by kernel_rfl, rfl⟩) ?_
        refine wpAny_take (i := 14) (v := undef) rfl (by kernel_rfl) (by kernel_rfl) (by kernel_rfl) (fun _ _ _ h => h) (Or.inr ⟨by kernel_rfl, rfl⟩) ?_
        refine wpAny_take (i := 15) (v := undef) rfl (by kernel_rfl) (by kernel_rfl) (by kernel_rfl) (fun _ _ _ h => h) (Or.inr ⟨by kernel_rfl, rfl⟩) ?_
        refine wpAny_take (i := 16) (v := undef) rfl (by kernel_rfl) (by kernel_rfl) (by kernel_rfl) (fun _ _ _ h => h) (Or.inr ⟨by kernel_rfl, rfl⟩) ?_
        refine wpAny_take (i := 17) (v := undef) rfl (by kernel_rfl) (by kernel_rfl) (by kernel_rfl) (fun _ _ _ h => h) (Or.inr ⟨by kernel_rfl, rfl⟩) ?_
        refine wpAny_take (i := 18) (v := undef) rfl (by kernel_rfl) (by kernel_rfl) (by kernel_rfl) (fun _ _ _ h => h) (Or.inr ⟨by kernel_rfl, rfl⟩) ?_
        refine wpAny_take (i := 19) (v := undef) rfl (by kernel_rfl) (by kernel_rfl) (by kernel_rfl) (fun _ _ _ h => h) (Or.inr ⟨by kernel_rfl, rfl⟩) ?_
        refine wpAny_take (i := 20) (v := ?_) rfl (by kernel_rfl) (by kernel_rfl) (by kernel_rfl) (fun _ _ _ h => h) (Or.inl ⟨by kernel_rfl, ?_⟩) ?_
        rotate_left
        · (intro w; go_simp; try with_reducible rfl)
        refine wpAny_take (i := 21) (v := ?_) rfl (by kernel_rfl) (by kernel_rfl) (by kernel_rfl) (fun _ _ _ h => h) (Or.inl ⟨by kernel_rfl, ?_⟩) ?_
        rotate_left
        · (intro w; go_simp; try with_reducible rfl)
        refine wpAny_take (i := 22) (v := ?_) rfl (by kernel_rfl) (by kernel_rfl) (by kernel_rfl) (fun _ _ _ h => h) (Or.inl ⟨by kernel_rfl, ?_⟩) ?_
        rotate_left
        · (intro w; go_simp; try with_reducible rfl)
        refine wpAny_take (i := 23) (v := ?_) rfl (by kernel_rfl) (by kernel_rfl) (by kernel_rfl) (fun _ _ _ h => h) (Or.inl ⟨by kernel_rfl, ?_⟩) ?_
        rotate_left
        · (intro w; go_simp; try with_reducible rfl)
        refine wpAny_take (i := 24) (v := ?_) rfl (by kernel_rfl) (by kernel_rfl) (by kernel_rfl) (fun _ _ _ h => h) (Or.inl ⟨by kernel_rfl, ?_⟩) ?_
        rotate_left
        · (intro w; go_simp; try with_reducible rfl)
        refine wpAny_take (i := 25) (v := ?_) rfl (by kernel_rfl) (by kernel_rfl) (by kernel_rfl) (fun _ _ _ h => h) (Or.inl ⟨by kernel_rfl, ?_⟩) ?_
        rotate_left
        · (intro w; go_simp; try with_reducible rfl)
        refine wpAny_take (i := 27) (v := ?_) rfl (by kernel_rfl) (by kernel_rfl) (by kernel_rfl) (fun _ _ _ h => h) (Or.inl ⟨by kernel_rfl, ?_⟩) ?_
        rotate_left
        · (intro w; go_simp; try with_reducible rfl)
        refine wpAny_ready (rs := [26]) (by kernel_rfl) (by simp) ?_
        refine AllReady.cons rfl (fun K hK => ?_) AllReady.nil
        go_simp
        refine hK _ _ ?_
        clear hK K
        refine wpAny_ready (rs := [28]) (by kernel_rfl) (by simp) ?_
        refine AllReady.cons rfl (fun K hK => ?_) AllReady.nil
        go_simp
        go_wp2_with (go_at_call 32; (with_reducible refine fSN.mono ?_); rintro e w3 ⟨rfl, hb3⟩)
        refine wpAny_take (i := 29) (v := ?_) rfl (by kernel_rfl) (by kernel_rfl) (by kernel_rfl) (fun _ _ _ h => h) (Or.inl ⟨by kernel_rfl, ?_⟩) ?_
        rotate_left
        · (intro w; go_simp; try with_reducible rfl)
        refine wpAny_take (i := 30) (v := ?_) rfl (by kernel_rfl) (by kernel_rfl) (by kernel_rfl) (fun _ _ _ h => h) (Or.inl ⟨by kernel_rfl, ?_⟩) ?_
        rotate_left
        · (intro w; go_simp; try with_reducible rfl)
        refine wpAny_take (i := 31) (v := ?_) rfl (by kernel_rfl) (by kernel_rfl) (by kernel_rfl) (fun _ _ _ h => h) (Or.inl ⟨by kernel_rfl, ?_⟩) ?_
        rotate_left
        · (intro w; go_simp; try with_reducible rfl)
        refine wpAny_done (by kernel_rfl) ?_ _
        go_simp
        go_wp2_with fail
        go_meet
        exact ⟨rfl, bel_tr HB2.out hb3⟩
      case rest =>
        obtain ⟨rfl, hbc⟩ := hcut
        have HB3 := Lib.hid hbc
        have HT3 := Lib.hid (HT.out.later hbc)
        clear hbc i0 i1 i2 i3 i4 i5 i6 fSN
        have fR := rrow_any xs a n c p wc (HX.out wc HB3.out) (by omega)
        have fP := fun w' (h : TreeAt w' B t b r n xs) => parent_any h p
        have fH := fun w' (h : TreeAt w' B t b r n xs) => ahead_any h p
        have fW := fun w' (h : TreeAt w' B t b r n xs) => row_any h HR.out (by omega) p
        have fE := fun w' (hb : Below w.heap.size w w') => relement_any xs a n c p (· < w'.heap.size) w' (HX.out w' hb)
        have fV := fun w' (h : TreeAt w' B t b r n xs) => value_of h p sp nm
        have fVr := fun w' (hb : Below w.heap.size w w') => rvalue_of xs a n c p sp nm w' (HX.out w' hb)
        have fS := fun w' (h : TreeAt w' B t b r n xs) => state_of h p nm
        have fSr := fun w' (hb : Below w.heap.size w w') => rstate_of xs a n c p nm w' (HX.out w' hb)
        rw [hE] at fE
        rw [hRow] at fR fW
        rw [hPar] at fP
        rw [hAh] at fH
        rw [tupV_none] at fP fH
        generalize valI xs p sp nm = V at *
        rcases V with ⟨v0, o0⟩
        generalize stateI xs p nm = s0 at *
        have qv : (v0.toList == v0.toList) = true := beq_self_eq_true _
        have qo : (o0 == o0) = true := beq_self_eq_true _
        have qs : (s0 == s0) = true := beq_self_eq_true _
        dsimp only [valV] at fV fVr
        clear hE hPar hAh hRow 
        go_wp2_with fail
        refine fR.mono ?_
        rintro e4 w4 ⟨ar, cr, rfl, hrr, hb4⟩
        have HT4 := Lib.hid (HT3.out.later hb4)
        have HB4 := Lib.hid (bel_tr HB3.out hb4)
        have HRR := Lib.hid hrr
        have hcr : cr ≤ 9223372036854775807 := hrr.2.1
        clear fR hb4 hrr
        go_wp2_with fail
        refine (fP _ HT4.out).mono ?_
        rintro e5 w5 ⟨rfl, hb5⟩
        have HT5 := Lib.hid (HT4.out.later hb5)
        have HB5 := Lib.hid (bel_tr HB4.out hb5)
        have HR5 := Lib.hid (HRR.out.later hb5)
        clear fP hb5
        go_wp2_with fail
        refine (fH _ HT5.out).mono ?_
        rintro e6 w6 ⟨rfl, hb6⟩
        have HT6 := Lib.hid (HT5.out.later hb6)
        have HB6 := Lib.hid (bel_tr HB5.out hb6)
        have HR6 := Lib.hid (HR5.out.later hb6)
        clear fH hb6
        have fE6 := fE _ HB6.out
        have fW6 := fW _ HT6.out
        go_wp2_with (first
          | (go_at_call 19; (refine fE6.mono ?_); rintro e wq ⟨rfl, hwq⟩; replace hwq := hwq.symm; subst hwq)
          | (go_at_call 22; (refine fW6.mono ?_); rintro e7 w7 ⟨ar7, cr7, rfl, hrr7, hb7⟩; have hb67 := bel_tr HB6.out hb7; have HT7 := HT6.out.later hb7; have HR7 := HR6.out.later hb7; have fSm := same_any _ _ _ _ (([] : List Nat).map fun j : Nat => (j : Int)) (([] : List Nat).map fun j : Nat => (j : Int)) w7 hrr7 HR7; rw [decide_eq_true rfl] at fSm; skip)
          | (go_at_call 16; (refine fSm.mono ?_); rintro e8 w8 ⟨rfl, hb8⟩; have hb68 := bel_tr hb67 hb8; have HT8 := HT7.later hb8; have fV8 := fV _ HT8)
          | (go_at_call 39; (refine fV8.mono ?_); rintro e9 w9 ⟨rfl, hb9⟩; have hb69 := bel_tr hb68 hb9; have HT9 := HT8.later hb9; have fVr9 := fVr _ hb69)
          | (go_at_call 40; (refine fVr9.mono ?_); rintro e10 w10 ⟨rfl, hb10⟩; have hb610 := bel_tr hb69 hb10; have HT10 := HT9.later hb10; have fS10 := fS _ HT10)
          | (go_at_call 41; (refine fS10.mono ?_); rintro e11 w11 ⟨rfl, hb11⟩; have hb611 := bel_tr hb610 hb11; have fSr11 := fSr _ hb611)
          | (go_at_call 42; (refine fSr11.mono ?_); rintro e12 w12 ⟨rfl, hb12⟩; have hb612 := bel_tr hb611 hb12))
        go_ret
        exact ⟨rfl, hb612⟩
end

section
open Go.RowKit
set_option linter.unusedVariables false
set_option linter.unusedSimpArgs false

theorem mil_of_smT {x : Nd} (h : SmN x) : MilN x := by
  obtain ⟨h1, h2, h3, h4, h5, h6⟩ := h
  exact ⟨by omega, by omega, by omega, fun t ht => by obtain ⟨a, b, c⟩ := h6 t ht; exact ⟨by omega, by omega, by omega⟩, by omega, by omega⟩
theorem right_pos {xs : List Nd} (h : RightD xs) : 0 < xs.length := by
  rcases Nat.eq_zero_or_pos xs.length with h0 | h0
  · have := h.2
    rw [h0] at this
    cases this
  · exact h0
theorem TreeAt.keep {w w' : World} {B t b r n : Nat} {xs : List Nd} (h : TreeAt w B t b r n xs) (hs : w.heap.size ≤ w'.heap.size) (hm : ∀ bl, B ≤ bl → bl < w.heap.size → w'.heap[bl]? = w.heap[bl]?) : TreeAt w' B t b r n xs :=
  ⟨(hm t h.ht h.cells.lt).trans h.cells, h.doc.move (fun bl hl => ⟨⟨hl.1, Nat.lt_of_lt_of_le hl.2 hs⟩, hm bl hl.1 hl.2⟩), fun k hk => (cell_same (hm r h.hr.1 h.hr.2) k).trans (h.row k hk), h.ht, h.hr.1, Nat.lt_of_lt_of_le h.hr.2 hs⟩
/-- The copy reads as the document. -/
theorem copyQ_rd {w' : World} {lo g n cap : Nat} {cs : List Value} {xs : List Nd} (hB : Blk w' g cs 44) (hn : n = xs.length) (hn2 : n ≤ 200) (hc : n ≤ cap) (hc2 : cap ≤ maxLen) (hN : ∀ i x, xs[i]? = some x → NdC (NewB lo g w') w' cs (i * 7) x) : RdN (· < w'.heap.size) w' (some ⟨g, 0, none⟩) n cap xs :=
  ⟨hn, hc, ⟨hc2, by omega, fun h => by cases h⟩, .inr ⟨g, 0, rfl, hB.lt, fun i x hx => by
    rw [Nat.zero_add]
    exact ((hN i x hx).move (ok' := (· < w'.heap.size)) (fun b hb => ⟨hb.2.1, rfl⟩)).at hB⟩⟩

set_option maxRecDepth 100000 in
set_option maxHeartbeats 8000000 in
theorem lawTells_any (xs : List Nd) (a : Option Addr) (n c : Nat) (p : Int) (sp nm : ByteArray) (w : World) (hx : RdN (· < w.heap.size) w a n c xs) :
    Calls Try.prog 4 #[.slice a n c, .int .i64 p, .string sp, .string nm] w (Told (.bool true) w) := by
  have HX := Lib.hid (fun w' (hb : Below w.heap.size w w') => hx.later hb (Nat.le_refl _))
  have HN := Lib.hid hx.1
  clear hx
  go_enter Try.func4, Try.ntmps4
  go_wp2_with fail
  refine (speaks11 _).mono ?_
  rintro e1 w1 ⟨rfl, hb1⟩
  go_wp2_with fail
  refine (rcheck_any xs a n c w1 (HX.out w1 hb1)).mono ?_
  rintro e2 w2 ⟨k, at', rfl, hb2, hk⟩
  have hb02 := bel_tr hb1 hb2
  have HK := Lib.hid hk
  have fG := rgreat_any xs 200 (by omega) a n c w2 (HX.out w2 hb02)
  have HB2 := Lib.hid hb02
  clear hk hb1 hb2 hb02
  by_cases hsz : (200 : Int) < (sp.size : Int)
  · go_wp2_with (go_at_call 8; (refine fG.mono ?_); rintro e w3 ⟨v1, rfl, hb3, _⟩; cases v1)
    all_goals
      go_ret
      exact ⟨rfl, bel_tr HB2.out hb3⟩
  by_cases hnz : (200 : Int) < (nm.size : Int)
  · go_wp2_with (go_at_call 8; (refine fG.mono ?_); rintro e w3 ⟨v1, rfl, hb3, _⟩; cases v1)
    all_goals
      go_ret
      exact ⟨rfl, bel_tr HB2.out hb3⟩
  by_cases hk0 : k = 0
  rotate_left
  · have q : (k != 0) = true := by rw [bne, beq_eq_false_iff_ne.2 hk0]; rfl
    clear hk0
    go_wp2_with (go_at_call 8; (refine fG.mono ?_); rintro e w3 ⟨v1, rfl, hb3, _⟩; cases v1)
    all_goals
      go_ret
      exact ⟨rfl, bel_tr HB2.out hb3⟩
  subst hk0
  have HD : Hid (RightD xs) := Lib.hid (by
    rcases HK.out with h | h | h
    · exact h.2.2
    · cases h.1
    · cases h.1)
  have q0 : ((0 : Int) != 0) = false := rfl
  go_wp2_with (go_at_call 8; (refine fG.mono ?_); rintro e w3 ⟨v1, rfl, hb3, hv1⟩; cases v1)
  all_goals have HB3 := Lib.hid (bel_tr HB2.out hb3)
  rotate_left
  · go_ret
    exact ⟨rfl, HB3.out⟩
  have HV1 := Lib.hid (hv1 (by simp))
  have HP := Lib.hid (right_pos HD.out)
  have hn200 : n ≤ 200 := by rw [HN.out]; exact HV1.out.1
  have hnp : 0 < n := by rw [HN.out]; exact HP.out
  have HR := Lib.hid (rightP_of HD.out)
  have HSM := Lib.hid (fun x (hx : x ∈ xs) => (show x.attrs.length ≤ 1000000 ∧ x.states.length ≤ 1000000 from by have := HV1.out.2 x hx; exact ⟨by have := this.1; omega, by have := this.2.1; omega⟩))
  have fC := copied2_any xs a n c w3 (HX.out w3 HB3.out) hn200 hnp (fun x hx => ⟨(HV1.out.2 x hx).1, (HV1.out.2 x hx).2.1⟩)
  clear hv1 hb3 fG q0
  go_wp2_with fail
  refine fC.mono ?_
  rintro e4 w4 ⟨g, cap, cs, rfl, hg, hB, hc1, hc2, hcl, hNd, hb4⟩
  have HB4 := Lib.hid (bel_tr HB3.out hb4)
  have hrd := copyQ_rd hB HN.out hn200 hc1 hc2 hNd
  have hcap2 : cap ≤ 9223372036854775807 := hc2
  have fN := new_any xs (some ⟨g, 0, none⟩) n cap w4 hrd (by omega) HSM.out (fun k x hx _ => by
    have hk := (List.getElem?_eq_some_iff.1 hx).1
    rcases HR.out.par k x hx with h | h
    · exact .inl h
    · exact .inr ⟨h.1, by rw [← HN.out] at hk; omega⟩) (check_any xs (some ⟨g, 0, none⟩) n cap w4 hrd (fun x hx => mil_of_smT (HV1.out.2 x hx)) (by omega) HD.out)
  have HQ := Lib.hid (And.intro hg (And.intro hB (And.intro hc2 (And.intro hcl hNd))))
  have Hb4 := Lib.hid hb4
  clear fC hg hB hc2 hcl hNd hb4 hrd
  go_wp2_with fail
  refine fN.mono ?_
  rintro e5 w5 ⟨t, b, r, rfl, hT, hb5⟩
  have HB5 := Lib.hid (bel_tr HB4.out hb5)
  have HT5 := Lib.hid hT
  have hmv : ∀ bl, NewB w3.heap.size g w4 bl → NewH w3.heap.size w4.heap.size g w5 bl ∧ w5.heap[bl]? = w4.heap[bl]? := fun bl h => ⟨⟨h.1, h.2.1, h.2.2.1, h.2.2.2.move (hb5.block bl h.2.1)⟩, hb5.block bl h.2.1⟩
  have fSp := spoil_any xs g n cap w3.heap.size w4.heap.size cs w5 ⟨HQ.out.1, HQ.out.2.1.lt⟩ (HQ.out.2.1.later hb5 HQ.out.2.1.lt) HN.out hc1 HQ.out.2.2.1 HQ.out.2.2.2.1 (fun i x hx => (HQ.out.2.2.2.2 i x hx).move hmv)
  have Hb5 := Lib.hid hb5
  clear fN hT hb5 hmv
  go_wp2_with fail
  refine fSp.mono ?_
  rintro e6 w6 ⟨rfl, hfr, hold⟩
  have HB6 := Lib.hid (show Below w.heap.size w w6 from HB5.out.trans ⟨hfr.os, hfr.tape, hfr.output, hfr.size, fun b hb => hfr.block b (Nat.lt_of_lt_of_le hb HB3.out.size)⟩)
  have HT6 := Lib.hid (HT5.out.keep hfr.size (fun bl h1 h2 => hold bl h1 h2))
  have hmn : n ≤ 9223372036854775807 := by omega
  clear fSp hfr hold
  go_wp2_with fail
  go_loopw [55] (fun i wr => ∃ k : Nat, k ≤ n ∧ i = .int .i64 k ∧ Hid (Below w.heap.size w wr) ∧ Hid (TreeAt wr w4.heap.size t b r n xs)) (fun i _ => n - (intOf i).toNat)
  case atStart => exact ⟨0, Nat.zero_le _, rfl, HB6, HT6⟩
  case round =>
    obtain ⟨k, hk, rfl, HB, HTr⟩ := hrel
    by_cases hlt : k < n
    · have hkI : (0 : Int) ≤ (k : Int) := by omega
      have hkI2 : (k : Int) < (n : Int) := by omega
      have fT := tells_any HTr.out HR.out HSM.out a c (HX.out wr HB.out) hn200 (k : Int) sp nm
      go_wp2_with fail
      refine fT.mono ?_
      rintro e7 w7 ⟨rfl, hb7⟩
      have HB7 := Lib.hid (bel_tr HB.out hb7)
      have HT7 := Lib.hid (HTr.out.later hb7)
      clear fT hb7
      go_wp2
      go_roundw
      case rel => exact ⟨k + 1, by omega, by go_num, HB7, HT7⟩
      case measure => simp [intOf]; omega
    · have hkI2 : ¬ (k : Int) < (n : Int) := by omega
      have fT := tells_any HTr.out HR.out HSM.out a c (HX.out wr HB.out) hn200 p sp nm
      have fE := fun w' (h : TreeAt w' w4.heap.size t b r n xs) => elements_any h (by omega)
      have fR := fun w' (hb : Below w.heap.size w w') => relements_any xs a n c w' (HX.out w' hb) (by omega)
      go_wp2_with (first
        | (go_at_call 15; (refine fT.mono ?_); rintro e7 w7 ⟨rfl, hb7⟩; have HB7 := bel_tr HB.out hb7; have HT7 := HTr.out.later hb7; have fE7 := fE _ HT7)
        | (go_at_call 17; (refine fE7.mono ?_); rintro e8 w8 ⟨a8, c8, rfl, hr8, hb8⟩; have HB8 := bel_tr HB7 hb8; have fR8 := fR _ HB8)
        | (go_at_call 18; (refine fR8.mono ?_); rintro e9 w9 ⟨a9, c9, rfl, hr9, hb9⟩; have HB9 := bel_tr HB8 hb9; have fSm := same_any _ _ _ _ ((elsTo xs n).map fun j : Nat => (j : Int)) ((elsTo xs n).map fun j : Nat => (j : Int)) w9 (hr8.later hb9) hr9; rw [decide_eq_true rfl, List.length_map] at fSm)
        | (go_at_call 16; (refine fSm.mono ?_); rintro e10 w10 ⟨rfl, hb10⟩; have HB10 := bel_tr HB9 hb10))
      go_ret
      exact ⟨rfl, HB10⟩
end
end Go.Proofs.Ytfgnepbpfglepaa
