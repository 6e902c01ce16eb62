/- NthSpan: what a span says of each An+B. -/
import Derived.Test.YtcfcoojnjdoeeaaNthRs
namespace Go.Proofs.Ytcfcoojnjdoeeaa
open Go.RowKit

theorem mulF_sat (b : Nat) (hb : 1 ≤ b) : mulF 4611686018427387904 b = 4611686018427387904 := by
  refine Nat.le_antisymm (mulF_le _ _ hb) ?_
  unfold mulF
  split
  · exact Nat.le_refl _
  · have hg : Nat.gcd 4611686018427387904 b ≤ b := Nat.le_of_dvd hb (Nat.gcd_dvd_right _ _)
    have := Nat.div_mul_cancel (Nat.gcd_dvd_left 4611686018427387904 b)
    calc 4611686018427387904 = 4611686018427387904 / Nat.gcd 4611686018427387904 b * Nat.gcd 4611686018427387904 b := this.symm
      _ ≤ _ := Nat.mul_le_mul_left _ hg
theorem mulF_dvd (p b : Nat) : mulF p b = 4611686018427387904 ∨ (p ∣ mulF p b ∧ b ∣ mulF p b) := by
  unfold mulF
  split
  · exact .inl rfl
  · right
    have e : p / Nat.gcd p b * b = p * (b / Nat.gcd p b) := by
      rw [← Nat.mul_div_right_comm (Nat.gcd_dvd_left p b), Nat.mul_div_assoc _ (Nat.gcd_dvd_right p b)]
    exact ⟨by rw [e]; exact Nat.dvd_mul_right _ _, Nat.dvd_mul_left _ _⟩
theorem spanR_ge (a : Int) : 1 ≤ spanR a := by unfold spanR; omega
theorem spanFold_inv : ∀ (ys : List (Int × Int)) (s : Nat × Nat), s.1 ≤ (ys.foldl spanStep s).1 ∧ ((ys.foldl spanStep s).2 = 4611686018427387904 ∨ s.2 ∣ (ys.foldl spanStep s).2) ∧
    (s.2 = 4611686018427387904 → (ys.foldl spanStep s).2 = 4611686018427387904) ∧
    ∀ y ∈ ys, spanH y.1 y.2 ≤ (ys.foldl spanStep s).1 ∧ ((ys.foldl spanStep s).2 = 4611686018427387904 ∨ spanR y.1 ∣ (ys.foldl spanStep s).2)
  | [], s => ⟨Nat.le_refl _, .inr (Nat.dvd_refl _), id, by simp⟩
  | x :: ys, s => by
    obtain ⟨h1, h2, h3, h4⟩ := spanFold_inv ys (spanStep s x)
    have e1 : (spanStep s x).1 = max s.1 (spanH x.1 x.2) := rfl
    have e2 : (spanStep s x).2 = mulF s.2 (spanR x.1) := rfl
    rw [List.foldl_cons]
    rw [e1] at h1
    rw [e2] at h2 h3
    refine ⟨by omega, ?_, fun hs => h3 (by rw [hs]; exact mulF_sat _ (spanR_ge _)), fun y hy => ?_⟩
    · rcases mulF_dvd s.2 (spanR x.1) with hm | ⟨hm, _⟩
      · exact .inl (h3 hm)
      · rcases h2 with h2 | h2
        · exact .inl h2
        · exact .inr (Nat.dvd_trans hm h2)
    · rcases List.mem_cons.1 hy with rfl | hy
      · refine ⟨by omega, ?_⟩
        rcases mulF_dvd s.2 (spanR y.1) with hm | ⟨_, hm⟩
        · exact .inl (h3 hm)
        · rcases h2 with h2 | h2
          · exact .inl h2
          · exact .inr (Nat.dvd_trans hm h2)
      · exact h4 y hy

theorem span_fold (xs : List (Int × Int)) (x : Int × Int) (hx : x ∈ xs) (n : Nat) (hn : n ≤ 1099511627776) : hasN x.1 x.2 (foldN (spanF xs).1 (spanF xs).2 n) = hasN x.1 x.2 n := by
  obtain ⟨h1, h2⟩ := (spanFold_inv xs (0, 1)).2.2.2 x hx
  have L := least_of x.1 x.2
  change spanH x.1 x.2 ≤ (spanF xs).1 at h1
  change (spanF xs).2 = 4611686018427387904 ∨ spanR x.1 ∣ (spanF xs).2 at h2
  generalize (spanF xs).1 = h at *
  generalize (spanF xs).2 = p at *
  have hh : headF x.1 x.2 ≤ h := by
    unfold headF; unfold spanH at h1
    split at h1 <;> rename_i c
    · rw [if_pos c]; omega
    · rw [if_neg c]; exact h1
  rcases h2 with h2 | h2
  · have : foldN h p n = n := by
      unfold foldN
      split
      · rfl
      · rw [Nat.mod_eq_of_lt (by omega)]; omega
    rw [this]
  · refine foldN_of (h := h) (p := p) (fun m hm => ?_) n
    have hd : roundF x.1 ∣ p := by
      refine Nat.dvd_trans ?_ h2
      unfold roundF spanR
      split
      · exact ⟨1, by omega⟩
      · exact Nat.one_dvd _
    obtain ⟨q, rfl⟩ := hd
    exact per_mul L.per m q (by omega)

theorem foldN_le_or (h p n : Nat) (hp : 1 ≤ p) : foldN h p n ≤ h ∨ foldN h p n ≤ h + p := by
  unfold foldN
  split
  · exact .inl (by omega)
  · have := Nat.mod_lt (n - h - 1) hp
    exact .inr (by omega)
theorem foldN_le (h p n : Nat) : foldN h p n ≤ n := by
  unfold foldN
  split
  · omega
  · have := Nat.mod_le (n - h - 1) p
    omega

/-- An An+B whose numbers are at most so great. -/
def smallB (a b m : Int) : Bool := decide (-m ≤ a ∧ a ≤ m ∧ -m ≤ b ∧ b ≤ m)
set_option maxRecDepth 100000 in
set_option maxHeartbeats 1000000 in
theorem small_any (a b m : Int) (w : World) (hm : 0 ≤ m ∧ m ≤ 1099511627776) :
    Calls Try.prog 8 #[.agg #[.int .i64 a, .int .i64 b], .int .i64 m] w (ToldB (.bool (smallB a b m)) w) := by
  obtain ⟨m1, m2⟩ := hm
  have hS : smallB a b m = decide (-m ≤ a ∧ a ≤ m ∧ -m ≤ b ∧ b ≤ m) := rfl
  by_cases h1 : -m ≤ a
  · by_cases h2 : a ≤ m
    · by_cases h3 : -m ≤ b
      · by_cases h4 : b ≤ m
        · rw [hS, decide_eq_true ⟨h1, h2, h3, h4⟩]
          clear hS
          go_enter Try.func8, Try.ntmps8
          go_wp2
          go_ret
          exact ⟨rfl, (Below.refl _ w).alloc (Nat.le_refl _) _⟩
        · rw [hS, decide_eq_false (fun h => h4 h.2.2.2)]
          clear hS
          go_enter Try.func8, Try.ntmps8
          go_wp2
          go_ret
          exact ⟨rfl, (Below.refl _ w).alloc (Nat.le_refl _) _⟩
      · rw [hS, decide_eq_false (fun h => h3 h.2.2.1)]
        clear hS
        go_enter Try.func8, Try.ntmps8
        go_wp2
        go_ret
        exact ⟨rfl, (Below.refl _ w).alloc (Nat.le_refl _) _⟩
    · rw [hS, decide_eq_false (fun h => h2 h.2.1)]
      clear hS
      go_enter Try.func8, Try.ntmps8
      go_wp2
      go_ret
      exact ⟨rfl, (Below.refl _ w).alloc (Nat.le_refl _) _⟩
  · rw [hS, decide_eq_false (fun h => h1 h.1)]
    clear hS
    go_enter Try.func8, Try.ntmps8
    go_wp2
    go_ret
    exact ⟨rfl, (Below.refl _ w).alloc (Nat.le_refl _) _⟩

theorem smallB_yes {a b m : Int} (h : smallB a b m = true) : (-m ≤ a ∧ a ≤ m) ∧ (-m ≤ b ∧ b ≤ m) := by
  have := of_decide_eq_true h
  exact ⟨⟨this.1, this.2.1⟩, this.2.2⟩

set_option maxRecDepth 100000 in
set_option maxHeartbeats 4000000 in
theorem lawSpan_any (a : Option Addr) (n cap : Nat) (xs : List (Int × Int)) (hn : xs.length = n) (t : Int) (ht : -9223372036854775808 ≤ t ∧ t ≤ 9223372036854775807) (w : World) (hr : RdP w a xs) :
    Calls Try.prog 5 #[.slice a n cap, .int .i64 t] w (ToldB (.bool true) w) := by
  have HN := Lib.hid hn
  have HR := Lib.hid hr
  obtain ⟨t1, t2⟩ := ht
  clear hn hr
  by_cases h3 : 3 < n
  · have h3' : (3 : Int) < (n : Int) := by omega
    go_enter Try.func5, Try.ntmps5
    go_wp2_with (go_at_call 7; refine (speaks5_any _).mono ?_; rintro e w1 ⟨rfl, hb1⟩)
    go_ret
    exact ⟨rfl, hb1⟩
  · by_cases h4 : t < 0
    · go_enter Try.func5, Try.ntmps5
      go_wp2_with (go_at_call 7; refine (speaks5_any _).mono ?_; rintro e w1 ⟨rfl, hb1⟩)
      go_ret
      exact ⟨rfl, hb1⟩
    · by_cases h5 : 1099511627776 < t
      · go_enter Try.func5, Try.ntmps5
        go_wp2_with (go_at_call 7; refine (speaks5_any _).mono ?_; rintro e w1 ⟨rfl, hb1⟩)
        go_ret
        exact ⟨rfl, hb1⟩
      · obtain ⟨m, rfl⟩ : ∃ m : Nat, t = m := ⟨t.toNat, by omega⟩
        have hm : m ≤ 1099511627776 := by omega
        clear h4 h5 t1 t2
        go_enter Try.func5, Try.ntmps5
        go_wp2_with (go_at_call 7; refine (speaks5_any _).mono ?_; rintro e w1 ⟨rfl, hb1⟩)
        go_loopw [6, 29] (fun _ i wr => ∃ k : Nat, k ≤ n ∧ i = .int .i64 k ∧ Hid (Fits (xs.take k)) ∧ Below w.heap.size w wr) (fun _ i _ => n - (intOf i).toNat)
        case atStart => exact ⟨0, by omega, rfl, Lib.hid (fun x hx => by simp at hx), hb1⟩
        case round =>
          obtain ⟨k, hk, rfl, hfit, hbl⟩ := hrel
          clear hb1
          by_cases hlt : k < n
          · obtain ⟨x, hxk⟩ : ∃ x, xs[k]? = some x := ⟨_, List.getElem?_eq_getElem (by rw [HN.out]; exact hlt)⟩
            rcases HR.out.later hbl with h0 | ⟨b, off, rfl, hlt2, hc⟩
            · rw [h0] at hxk; cases hxk
            obtain ⟨c0, c1⟩ := hc k x hxk
            clear hc
            have hkI : (0 : Int) ≤ (k : Int) := by omega
            have hkI2 : (k : Int) < (n : Int) := by omega
            have cS := fun w => small_any x.1 x.2 1099511627776 w (by omega)
            have hFS := Lib.hid (fun (hs : smallB x.1 x.2 1099511627776 = true) => show Fits (xs.take (k + 1)) by
              rw [take_snocP hxk]
              intro y hy
              rcases List.mem_append.1 hy with hy | hy
              · exact hfit.out y hy
              · obtain rfl := List.mem_singleton.1 hy
                exact smallB_yes hs)
            obtain ⟨x1, x2⟩ := x
            simp only at c0 c1 cS hFS
            generalize hsb : smallB x1 x2 1099511627776 = sb at *
            clear hsb
            cases sb
            · go_wp2_with (go_at_call 8; refine (cS _).mono ?_; rintro e w2 ⟨rfl, hb2⟩)
              go_ret
              exact ⟨rfl, (hbl.alloc hbl.size _).trans (hb2.mono (by simp; have := hbl.size; omega))⟩
            · go_wp2_with (go_at_call 8; refine (cS _).mono ?_; rintro e w2 ⟨rfl, hb2⟩)
              go_roundw
              case rel => exact ⟨k + 1, by omega, by go_num, Lib.hid (hFS.out (by trivial)), (hbl.alloc hbl.size _).trans (hb2.mono (by simp; have := hbl.size; omega))⟩
              case measure => simp [intOf]; omega
          · obtain rfl : k = n := by omega
            have hX := hfit.out
            rw [List.take_of_length_le (by rw [HN.out]; omega)] at hX
            have HX := Lib.hid hX
            clear hX hfit
            obtain ⟨bd1, bd2, bd3⟩ := spanF_bd xs HX.out
            have cF := fun w => fold_any ((spanF xs).1 : Nat) ((spanF xs).2 : Nat) m w ⟨by omega, by omega⟩ ⟨by omega, by omega⟩ ⟨by omega, by omega⟩
            rw [foldI_nat] at cF
            have cRF := fun w => rfold_any (spanF xs).1 (spanF xs).2 m w bd1 ⟨bd2, bd3⟩ hm
            have cS1 := fun w' (hb : Below wr.heap.size wr w') => span_any a k cap xs HN.out (by omega) w' ((HR.out.later hbl).later hb) HX.out
            have cS2 := fun w' (hb : Below wr.heap.size wr w') => rspan_any a k cap xs HN.out (by omega) w' ((HR.out.later hbl).later hb) HX.out
            have HFO := Lib.hid (fun x hx => span_fold xs x hx m hm)
            have hK1 := foldN_le_or (spanF xs).1 (spanF xs).2 m bd2
            have hK2 := foldN_le (spanF xs).1 (spanF xs).2 m
            generalize foldN (spanF xs).1 (spanF xs).2 m = K at *
            generalize (spanF xs).1 = h at *
            generalize (spanF xs).2 = p at *
            have nK : ((K : Int) == (K : Int)) = true := beq_self_eq_true _
            have nh : ((h : Int) == (h : Int)) = true := beq_self_eq_true _
            have np : ((p : Int) == (p : Int)) = true := beq_self_eq_true _
            have hKI : ¬ ((h : Int) < (K : Int) ∧ (p : Int) < (K : Int) - (h : Int)) := by omega
            by_cases hKh : (h : Int) < (K : Int)
            all_goals
              go_wp2_with (first
                | (go_at_call 16; refine (cS1 _ (Below.refl _ _)).mono ?_; rintro e w2 ⟨rfl, hb2⟩)
                | (go_at_call 17; refine (cS2 _ hb2).mono ?_; rintro e w3 ⟨rfl, hb3⟩; have hb3' := hb2.trans (hb3.mono hb2.size))
                | (go_at_call 18; refine (cF _).mono ?_; rintro e w4 ⟨rfl, hw4⟩; replace hw4 := hw4.symm; subst hw4)
                | (go_at_call 19; refine (cRF _).mono ?_; rintro e w5 ⟨rfl, hb5⟩; have hb5' := hb3'.trans (hb5.mono hb3'.size)))
              have HB := Lib.hid (hbl.trans (hb5'.mono hbl.size))
              have HB2 := Lib.hid hb5'
              clear hb2 hb3 hb5 hb3' hb5' cS1 cS2 cF cRF hbl
              go_loopw [13, 81] (fun _ i wx => ∃ j : Nat, j ≤ k ∧ i = .int .i64 j ∧ Below w.heap.size w wx) (fun _ i _ => k - (intOf i).toNat)
              case atStart => exact ⟨0, by omega, rfl, HB.out⟩
              case round =>
                obtain ⟨j, hj, rfl, hbx⟩ := hrel
                by_cases hlt : j < k
                · obtain ⟨x, hxk⟩ : ∃ x, xs[j]? = some x := ⟨_, List.getElem?_eq_getElem (by rw [HN.out]; exact hlt)⟩
                  rcases HR.out.later hbx with h0 | ⟨b, off, rfl, hlt2, hc⟩
                  · rw [h0] at hxk; cases hxk
                  obtain ⟨c0, c1⟩ := hc j x hxk
                  have hfx := HX.out x (List.mem_of_getElem? hxk)
                  have hfo := HFO.out x (List.mem_of_getElem? hxk)
                  clear hc
                  have hkI : (0 : Int) ≤ (j : Int) := by omega
                  have hkI2 : (j : Int) < (k : Int) := by omega
                  obtain ⟨x1, x2⟩ := x
                  simp only at c0 c1 hfx hfo
                  have cH1 := fun w => rhas_any x1 x2 (m : Nat) w hfx.1 hfx.2 ⟨by omega, by omega⟩
                  have cH2 := fun w => rhas_any x1 x2 (K : Nat) w hfx.1 hfx.2 ⟨by omega, by omega⟩
                  have e1 : hasF x1 x2 (m : Nat) = hasN x1 x2 m := rfl
                  have e2 : hasF x1 x2 (K : Nat) = hasN x1 x2 m := hfo
                  rw [e1] at cH1
                  rw [e2] at cH2
                  clear e1 e2 hfo hfx
                  generalize hasN x1 x2 m = r at *
                  by_cases hm0 : 0 < m
                  · have hm1 : decide (0 < (m : Int)) = true := decide_eq_true (by omega)
                    have hm2 : (0 : Int) < (m : Int) := by omega
                    have nr : (r != r) = false := by simp
                    go_wp2_with fail
                    go_quiet ((go_at_call 20; first | with_reducible exact Calls.quiet_of_same (cH1 _) | with_reducible exact Calls.quiet_of_same (cH2 _)))
                    go_wp2
                    go_roundw
                    case rel => exact ⟨j + 1, by omega, by go_num, below_drewN (hbx.alloc hbx.size _) _⟩
                    case measure => simp [intOf]; omega
                  · have hm1 : decide (0 < (m : Int)) = false := decide_eq_false (by omega)
                    have hm2 : ¬ (0 : Int) < (m : Int) := by omega
                    first
                    | (exfalso; omega)
                    | (go_wp2_with fail
                       go_quiet (fail)
                       go_wp2
                       go_roundw
                       case rel => exact ⟨j + 1, by omega, by go_num, below_drewN (hbx.alloc hbx.size _) _⟩
                       case measure => simp [intOf]; omega)
                · obtain rfl : j = k := by omega
                  go_wp2
                  go_ret
                  exact ⟨rfl, hbx⟩
end Go.Proofs.Ytcfcoojnjdoeeaa
