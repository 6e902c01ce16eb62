/- DomChecks: the law's walk. -/
import Derived.Test.YtknggcbhfkbelaaDoorDc1Z
import Derived.Test.YtknggcbhfkbelaaDoorDq4Z
import Derived.Test.YtknggcbhfkbelaaDoorDo9Z
import Derived.Test.YtknggcbhfkbelaaDoorDm6
import Derived.Test.YtknggcbhfkbelaaDoorDr0Z
namespace Go.Proofs.YtknggcbhfkbelaaDoor
open Go.RowKit
set_option linter.unusedVariables false
set_option linter.unusedSimpArgs false

theorem kind_nilD (w : World) : Calls Tryd.prog 9 #[.nilIface] w (Tells (.int .i64 0) w) := by
  go_enter Tryd.func9, Tryd.ntmps9
  go_wp2
  go_ret
  exact ⟨rfl, rfl⟩
theorem mil_of_sm {x : Nd} (h : SmN x) : MilN x := by
  obtain ⟨h1, h2, h3, h4, h5, h6⟩ := h
  exact ⟨by omega, by omega, by omega, fun t ht => by obtain ⟨a, b, c⟩ := h6 t ht; exact ⟨by omega, by omega, by omega⟩, by omega, by omega⟩
theorem bel_tr {w0 w1 w2 : World} (h : Below w0.heap.size w0 w1) (h2 : Below w1.heap.size w1 w2) : Below w0.heap.size w0 w2 := h.trans (h2.mono h.size)

set_option maxRecDepth 100000 in
set_option maxHeartbeats 4000000 in
theorem lawChecks_any (xs : List Nd) (a : Option Addr) (n c : Nat) (w : World) (hx : RdN (· < w.heap.size) w a n c xs) (hg : HasET w) :
    Calls Tryd.prog 3 #[.slice a n c] w (Told (.bool true) w) := by
  have hgl := World.block_lt_of_cell? w _ hg
  have HG := Lib.hid (fun w' (hb : Below w.heap.size w w') => hg.below hb hgl)
  have HX := Lib.hid (fun w' (hb : Below w.heap.size w w') => hx.later hb (Nat.le_refl _))
  have HN := Lib.hid hx.1
  clear hx hg
  go_enter Tryd.func3, Tryd.ntmps3
  go_wp2_with fail
  refine (speaks11 _).mono ?_
  rintro e1 w1 ⟨rfl, hb1⟩
  go_wp2_with fail
  refine (rgreat_any xs 200 (by omega) a n c w1 (HX.out w1 hb1)).mono ?_
  rintro e2 w2 ⟨v, rfl, hb2, hv⟩
  have hb12 := bel_tr hb1 hb2
  cases v with
  | true =>
    clear hv
    go_wp2
    go_ret
    exact ⟨rfl, hb12⟩
  | false =>
    have HV := Lib.hid (hv rfl)
    have hn : n ≤ 1000000 := by have := HV.out.1; rw [HN.out]; omega
    have HM : Hid (∀ x ∈ xs, MilN x) := Lib.hid (fun x hx => mil_of_sm (HV.out.2 x hx))
    have HB2 := Lib.hid hb12
    clear hv hb1 hb2 hb12
    by_cases hR : RightD xs
    · have HR := Lib.hid hR
      have cC := fun w' (hb : Below w.heap.size w w') => check_any xs a n c w' (HX.out w' hb) HM.out hn HR.out
      have HC := Lib.hid cC
      have c1 := cC w2 HB2.out
      clear cC hR
      go_wp2_with fail
      refine c1.mono ?_
      rintro e3 w3 ⟨rfl, hb3⟩
      have hb3' := bel_tr HB2.out hb3
      have HB3 := Lib.hid hb3'
      have c2 := new_any xs a n c w3 (HX.out w3 hb3') hn (fun x hx => by have := HM.out x hx; exact ⟨this.2.2.2.2.1, this.2.2.2.2.2⟩) (fun k x hx _ => by
        have hk := (List.getElem?_eq_some_iff.1 hx).1
        rcases (rightP_of HR.out).par k x hx with h | h
        · exact .inl h
        · exact .inr ⟨h.1, by rw [HN.out]; omega⟩) (HC.out w3 hb3')
      clear c1 hb3 hb3'
      go_wp2_with fail
      refine c2.mono ?_
      rintro e4 w4 ⟨t, b, r, rfl, hT, hb4⟩
      have hb4' := bel_tr HB3.out hb4
      have HB4 := Lib.hid hb4'
      have c3 := rcheck_any xs a n c w4 (HX.out w4 hb4')
      clear c2 hT hb4 hb4'
      go_wp2_with fail
      refine c3.mono ?_
      rintro e5 w5 ⟨k, at', rfl, hb5, hk⟩
      have hk0 : k = 0 := by
        rcases hk with h | ⟨_, j, hj, _, h, _⟩ | ⟨_, _, _, h⟩
        · exact h.1
        · have := HR.out.1 j (by rw [← HN.out]; exact hj); rw [h] at this; cases this
        · exact absurd HR.out.2 (by rw [← HN.out]; exact h)
      subst hk0
      have HB5 := Lib.hid (bel_tr HB4.out hb5)
      clear hk hb5 c3
      go_wp2_with (go_at_call 9; (refine (kind_nilD _).mono ?_); rintro e wq ⟨rfl, hwq⟩; replace hwq := hwq.symm; subst hwq)
      go_ret
      exact ⟨rfl, HB5.out⟩
    · have HR := Lib.hid hR
      have HC := Lib.hid (fun w' (hb : Below w.heap.size w w') => checkB_any xs a n c w' (HX.out w' hb) HM.out hn HR.out)
      have c1 := HC.out w2 HB2.out
      clear hR
      go_wp2_with fail
      refine c1.mono ?_
      rintro e3 w3 ⟨b1, rfl, hb3, k1, at1, hB1, hd1⟩
      have hb3' := bel_tr HB2.out hb3
      have HB3 := Lib.hid hb3'
      have H1 := Lib.hid (And.intro hB1 hd1)
      have c2 := newE_any (ErrP xs n w3) a n c w3 (HC.out w3 hb3')
      clear c1 hb3 hb3' hB1 hd1
      go_wp2_with fail
      refine c2.mono ?_
      rintro e4 w4 ⟨b2, rfl, hb4, k2, at2, hB2, hd2⟩
      have hb4' := bel_tr HB3.out hb4
      have HB4 := Lib.hid hb4'
      have H2 := Lib.hid (And.intro hB2 hd2)
      have H1' := Lib.hid (H1.out.1.later hb4 H1.out.1.lt)
      have c3 := rcheck_any xs a n c w4 (HX.out w4 hb4')
      clear c2 hb4 hb4' hB2 hd2
      unfold fltV
      go_wp2_with fail
      refine c3.mono ?_
      rintro e5 w5 ⟨k, at', rfl, hb5, hk⟩
      have hbad : BadD xs n k at' := by
        rcases hk with ⟨_, _, h⟩ | h | h
        · exact absurd h HR.out
        · exact .inl h
        · exact .inr h
      obtain ⟨rfl, rfl⟩ := bad_unique hbad H1.out.2
      obtain ⟨rfl, rfl⟩ := bad_unique hbad H2.out.2
      have HB5 := Lib.hid (bel_tr HB4.out hb5)
      have P1 := Lib.hid (fun w' (hb : Below w5.heap.size w5 w') => (H1'.out.later hb5 H1'.out.lt).later hb (Nat.lt_of_lt_of_le H1'.out.lt hb5.size))
      have P2 := Lib.hid (fun w' (hb : Below w5.heap.size w5 w') => (H2.out.1.later hb5 H2.out.1.lt).later hb (Nat.lt_of_lt_of_le H2.out.1.lt hb5.size))
      have K1 := fun w' (hb : Below w5.heap.size w5 w') => kind_hit b1 k at' .nilIface w' (P1.out w' hb) (HG.out w' (bel_tr HB5.out hb))
      have K2 := fun w' (hb : Below w5.heap.size w5 w') => kind_hit b2 k at' .nilIface w' (P2.out w' hb) (HG.out w' (bel_tr HB5.out hb))
      have A1 := fun w' (hb : Below w5.heap.size w5 w') => at_hit b1 k at' .nilIface w' (P1.out w' hb) (HG.out w' (bel_tr HB5.out hb))
      have A2 := fun w' (hb : Below w5.heap.size w5 w') => at_hit b2 k at' .nilIface w' (P2.out w' hb) (HG.out w' (bel_tr HB5.out hb))
      unfold fltV at K1 K2 A1 A2
      have hk0 : (k == 0) = false := by rcases hbad with h | h <;> rw [h.1] <;> rfl
      have hkk : (k != k) = false := by simp
      have haa : (at' != at') = false := by simp
      have k1 := K1 w5 (Below.refl _ _)
      clear hk hb5 c3 hbad
      go_wp2_with (first
        | (go_at_call 9; (with_reducible refine k1.mono ?_); rintro e w6 ⟨rfl, h6⟩; have k2 := K2 w6 h6)
        | (go_at_call 9; (with_reducible refine k2.mono ?_); rintro e w7 ⟨rfl, h7'⟩; have h7 := bel_tr h6 h7'; have a1 := A1 w7 h7)
        | (go_at_call 10; (with_reducible refine a1.mono ?_); rintro e w8 ⟨rfl, h8'⟩; have h8 := bel_tr h7 h8'; have a2 := A2 w8 h8)
        | (go_at_call 10; (with_reducible refine a2.mono ?_); rintro e w9 ⟨rfl, h9'⟩; have h9 := bel_tr h8 h9'))
      go_ret
      exact ⟨rfl, bel_tr HB5.out h9⟩
end Go.Proofs.YtknggcbhfkbelaaDoor
