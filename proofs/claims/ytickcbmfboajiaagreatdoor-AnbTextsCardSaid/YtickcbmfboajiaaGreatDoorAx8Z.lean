/- AnbTexts: the law's walk. -/
import Derived.Test.YtickcbmfboajiaaGreatDoorAx7Z
namespace Go.Proofs.YtickcbmfboajiaaGreatDoor
open Go.RowKit Go.Shelf
set_option linter.unusedVariables false
set_option linter.unusedSimpArgs false

theorem text_ok {a b : Int} (ha : -2147483647 ≤ a ∧ a ≤ 2147483647) (hb : -2147483647 ≤ b ∧ b ≤ 2147483647) : parseK (findP (toksF (ascI (textP a b)))) = ((a, b, (toksF (ascI (textP a b))).length - 1), 0) := by
  obtain ⟨A, B, hA, vA, hB, vB, hF⟩ := text_find a b
  rw [hF]
  exact parseK_of (wholeK_ok hA vA ha) (wholeK_ok hB vB hb)
theorem text_over {a b : Int} (h : ¬ (-2147483647 ≤ a ∧ a ≤ 2147483647) ∨ ¬ (-2147483647 ≤ b ∧ b ≤ 2147483647)) : parseK (findP (toksF (ascI (textP a b)))) = ((0, 0, 0), 3) := by
  obtain ⟨A, B, hA, vA, hB, vB, hF⟩ := text_find a b
  rw [hF]
  unfold parseK
  rw [if_neg (by simp), if_pos]
  rcases h with h | h
  · left; show (wholeK A).2 ≠ 0; rw [wholeK_over hA vA h]; decide
  · right; show (wholeK B).2 ≠ 0; rw [wholeK_over hB vB h]; decide
theorem text_size (a b : Int) (ha : -1099511627776 ≤ a ∧ a ≤ 1099511627776) (hb : -1099511627776 ≤ b ∧ b ≤ 1099511627776) : (textP a b).size ≤ 100 := by
  have za := itS_size (n := a) (by omega) (by omega)
  have zb := itS_size (n := b) (by omega) (by omega)
  have hh : (headP a).size ≤ 22 := by
    unfold headP
    split
    · decide
    · split
      · decide
      · rw [ByteArray.size_append]; show (itS a).size + 1 ≤ 22; omega
  unfold textP
  split
  · omega
  · split
    · rw [ByteArray.size_append, ByteArray.size_append]; show (headP a).size + 1 + (itS b).size ≤ 100; omega
    · split
      · rw [ByteArray.size_append]; omega
      · omega

set_option maxRecDepth 100000 in
set_option maxHeartbeats 8000000 in
theorem lawAnbTexts_any (a b : Int) (w : World) (hE : HasERv w) (hT : HasET w) (hp : PwW w) (ha : -9223372036854775808 ≤ a ∧ a ≤ 9223372036854775807) (hb : -9223372036854775808 ≤ b ∧ b ≤ 9223372036854775807) :
    Calls Tryz.prog 5 #[.int .i64 a, .int .i64 b] w (Told (.bool true) w) := by
  have hER : HasER w := by obtain ⟨p, _, hc⟩ := hE; exact ⟨_, p, hc⟩
  have hltT : 1 < w.heap.size := World.block_lt_of_cell? w _ hT
  have hS := speaks4_any w hER
  have HEV : Hid (∀ w' : World, Below w.heap.size w w' → HasERv w') := Lib.hid (fun w' hb => hE.later hb)
  have HTV : Hid (∀ w' : World, Below w.heap.size w w' → HasET w') := Lib.hid (fun w' hb => hT.below hb hltT)
  have HPV : Hid (∀ w' : World, Below w.heap.size w w' → PwW w') := Lib.hid (fun w' hb => hp.later hb)
  clear hE hT hp hER
  obtain ⟨ha0, ha1⟩ := ha
  obtain ⟨hb0, hb1⟩ := hb
  by_cases h1 : a < -1099511627776
  · go_enter Tryz.func5, Tryz.ntmps5
    go_wp2_with fail
    refine hS.mono ?_
    rintro e w1 ⟨rfl, hb1⟩
    go_wp2
    go_ret
    exact ⟨rfl, hb1⟩
  by_cases h2 : 1099511627776 < a
  · go_enter Tryz.func5, Tryz.ntmps5
    go_wp2_with fail
    refine hS.mono ?_
    rintro e w1 ⟨rfl, hb1⟩
    go_wp2
    go_ret
    exact ⟨rfl, hb1⟩
  by_cases h3 : b < -1099511627776
  · go_enter Tryz.func5, Tryz.ntmps5
    go_wp2_with fail
    refine hS.mono ?_
    rintro e w1 ⟨rfl, hb1⟩
    go_wp2
    go_ret
    exact ⟨rfl, hb1⟩
  by_cases h4 : 1099511627776 < b
  · go_enter Tryz.func5, Tryz.ntmps5
    go_wp2_with fail
    refine hS.mono ?_
    rintro e w1 ⟨rfl, hb1⟩
    go_wp2
    go_ret
    exact ⟨rfl, hb1⟩
  have fT := fun w' hb => anbText_any a b w' ⟨by omega, by omega⟩ ⟨by omega, by omega⟩ (HPV.out w' hb)
  have fR := fun w' => ranbText_any a b w' ⟨by omega, by omega⟩ ⟨by omega, by omega⟩
  have hz := text_size a b ⟨by omega, by omega⟩ ⟨by omega, by omega⟩
  have HOK := Lib.hid (fun ha hb => text_ok (a := a) (b := b) ha hb)
  have HOV := Lib.hid (fun h => text_over (a := a) (b := b) h)
  generalize textP a b = R at *
  have qR : (R.toList != R.toList) = false := by simp
  rcases (show ((-2147483647 ≤ a ∧ a ≤ 2147483647) ∧ (-2147483647 ≤ b ∧ b ≤ 2147483647)) ∨ ¬ (-2147483647 ≤ a ∧ a ≤ 2147483647) ∨ ((-2147483647 ≤ a ∧ a ≤ 2147483647) ∧ ¬ (-2147483647 ≤ b ∧ b ≤ 2147483647)) by omega) with ⟨c1, c2⟩ | c1 | ⟨c1, c2⟩
  · have hK := HOK.out c1 c2
    have m1 : ¬ (2147483647 : Int) < max a (-a) := by omega
    have m2 : ¬ (2147483647 : Int) < max b (-b) := by omega
    clear HOK HOV c1 c2 HTV
    go_enter Tryz.func5, Tryz.ntmps5
    go_wp2_with fail
    refine hS.mono ?_
    rintro e w1 ⟨rfl, hb1⟩
    go_wp2_with fail
    refine (fT w1 hb1).mono ?_
    rintro e w2 ⟨rfl, hb2⟩
    have hb12 := below_trans hb1 hb2
    go_wp2_with fail
    refine (fR w2).mono ?_
    rintro e w3 ⟨rfl, hb3⟩
    have hb13 := below_trans hb12 hb3
    obtain ⟨cap1, w4, hcv1, hb4, hr4, hl4⟩ := conv_readsX R w3 (by omega)
    have hb14 := below_trans hb13 hb4
    obtain ⟨hsh, hgd, hle, hrd⟩ := hu_ascI R w4 _ cap1 hr4 (by omega)
    have hpos : 1 ≤ (toksF (ascI R)).length := by
      have := chain_toks (ascI R)
      match toksF (ascI R), this with
      | t :: ts, _ => simp
    have HK := Lib.hid hK
    clear hK hr4 hl4 hb1 hb2 hb3 hb4 hb12 hb13 fT fR
    generalize toksF (ascI R) = ts at *
    generalize R.size = nr at hcv1 hrd
    obtain ⟨n, hn⟩ : ∃ n, ts.length = n + 1 := ⟨ts.length - 1, by omega⟩
    have hpa := fun a5 d5 w5 hr5 hb => Parse_any ts (n + 1) d5 a5 w5 hr5 hn (by omega) hsh (HEV.out w5 hb)
    rw [HK.out] at hpa
    have e1 : ts.length - 1 = n := by omega
    have hnb : n ≤ 1000000 := by omega
    rw [e1] at hpa
    rw [hn] at hrd
    have HN := Lib.hid hn
    clear hn e1 hpos hle
    go_wp2_with fail
    refine hrd.mono ?_
    rintro e w5 ⟨a5, d5, rfl, hr5, hb5⟩
    have hb15 := below_trans hb14 hb5
    go_wp2_with fail
    refine (hpa a5 d5 w5 hr5 hb15).mono ?_
    rintro q2 w6 ⟨hb6, ⟨_, rfl⟩ | ⟨_, hk0, _⟩⟩
    rotate_left
    · exact absurd rfl hk0
    have hb16 := below_trans hb15 hb6
    dsimp only
    clear hr5 hb5 hb6 hb14 hb15 hrd hcv1 hpa
    have e2 : ((n : Int) == ((n + 1 : Nat) : Int) - 1) = true := beq_iff_eq.2 (by omega)
    go_wp2
    go_ret
    exact ⟨by first | rfl | (simp; unfold wrap64; omega), hb16⟩
  all_goals
    have hK := HOV.out (by first | exact .inl c1 | exact .inr c2)
    have m1 : ((2147483647 : Int) < max a (-a)) ∨ (¬ (2147483647 : Int) < max a (-a) ∧ (2147483647 : Int) < max b (-b)) := by omega
    clear HOK HOV
    try clear c2
    clear c1
    rcases m1 with m1 | ⟨m1, m2⟩
    all_goals
      go_enter Tryz.func5, Tryz.ntmps5
      go_wp2_with fail
      refine hS.mono ?_
      rintro e w1 ⟨rfl, hb1⟩
      go_wp2_with fail
      refine (fT w1 hb1).mono ?_
      rintro e w2 ⟨rfl, hb2⟩
      have hb12 := below_trans hb1 hb2
      go_wp2_with fail
      refine (fR w2).mono ?_
      rintro e w3 ⟨rfl, hb3⟩
      have hb13 := below_trans hb12 hb3
      obtain ⟨cap1, w4, hcv1, hb4, hr4, hl4⟩ := conv_readsX R w3 (by omega)
      have hb14 := below_trans hb13 hb4
      obtain ⟨hsh, hgd, hle, hrd⟩ := hu_ascI R w4 _ cap1 hr4 (by omega)
      have HK := Lib.hid hK
      clear hK hr4 hl4 hb1 hb2 hb3 hb4 hb12 hb13 fT fR
      generalize toksF (ascI R) = ts at *
      generalize R.size = nr at hcv1 hrd
      have hpa := fun a5 d5 w5 hr5 hb => Parse_any ts ts.length d5 a5 w5 hr5 rfl (by omega) hsh (HEV.out w5 hb)
      rw [HK.out] at hpa
      go_wp2_with fail
      refine hrd.mono ?_
      rintro e w5 ⟨a5, d5, rfl, hr5, hb5⟩
      have hb15 := below_trans hb14 hb5
      go_wp2_with fail
      refine (hpa a5 d5 w5 hr5 hb15).mono ?_
      rintro q2 w6 ⟨hb6, ⟨hk0, _⟩ | ⟨_, _, ee, hee, rfl, hB⟩⟩
      · exact absurd (show (3 : Int) = 0 from hk0) (by decide)
      have hb16 := below_trans hb15 hb6
      have hB : Blk w6 ee [.int .i64 3, .int .i64 0, .nilIface] 69 := hB
      have kh := kind_hit ee 3 0 .nilIface w6 hB (HTV.out w6 hb16)
      unfold fltV at *
      clear hr5 hb5 hb6 hb14 hb15 hrd hcv1 hpa
      go_wp2_with (go_at_call 17; refine kh.mono ?_; rintro q w7 ⟨rfl, hb7⟩)
      go_ret
      exact ⟨rfl, below_trans hb16 hb7⟩
end Go.Proofs.YtickcbmfboajiaaGreatDoor
