/- AnbCases: the law's walk. -/
import Derived.Test.YtickcbmfboajiaaGreatDoorFU
import Derived.Test.YtickcbmfboajiaaGreatDoorAq8Z
namespace Go.Proofs.YtickcbmfboajiaaGreatDoor
open Go.RowKit Go.Shelf
set_option linter.unusedVariables false
set_option linter.unusedSimpArgs false

/-- A text's bytes in new memory. -/
theorem conv_readsX (s : ByteArray) (w : World) (hs : s.size ≤ 1000000) : ∃ cap w', (convert 9 22 (.string s)).run Tryz.prog w = .ok (.slice (some ⟨w.heap.size, 0, none⟩) s.size cap) w' ∧ Below w.heap.size w w' ∧ Reads w' .u8 (some ⟨w.heap.size, 0, none⟩) cap (ascI s) ∧ (ascI s).length = s.size := by
  have hl : (ascI s).length = s.size := ascI_len s
  have hh := heap_alloc_new w.drew (.cells (bytesRow s (grownCap w s.size 0 5)) 5 ((bytesRow s (grownCap w s.size 0 5)).size, (bytesRow s (grownCap w s.size 0 5)).size + 1))
  refine ⟨_, _, run_bytes_of_string w 9 22 5 s Tryz.underlying9 Tryz.underlying22 Tryz.underlying5, ((Below.refl _ w).drew).alloc (Nat.le_refl _) _, ⟨by rw [hl]; exact grownCap_ge _ _ _ _, grownCap_le_maxLen _ _ _ _ (by unfold maxLen; omega), .inr ⟨_, _, rfl, by simp, fun j hj => ?_⟩⟩, hl⟩
  rw [hl] at hj
  rw [Nat.zero_add]
  have hjs : j < s.data.size := hj
  have hv : (bytesRow s (grownCap w s.size 0 5))[j]? = some (Value.int .u8 ((ascI s)[j]?.getD 0)) := by
    unfold bytesRow
    rw [Array.getElem?_append_left (by simpa using hjs), Array.getElem?_map, Array.getElem?_eq_getElem hjs]
    have : (ascI s)[j]? = some (((s.data[j]'hjs).toNat : Nat) : Int) := by
      unfold ascI
      rw [List.getElem?_map]
      have : (strB s)[j]? = some (s.data[j]'hjs) := by unfold strB; rw [List.getElem?_eq_getElem (by simpa using hjs)]; simp
      rw [this]; rfl
    rw [this]; rfl
  show World.cell? _ ⟨w.drew.heap.size, j, none⟩ = _
  simp only [World.cell?, hh]
  simpa using hv

/-- What is known of the tokens of a text in memory. -/
theorem hu_ascI (s : ByteArray) (w : World) (a : Option Addr) (cap : Nat) (hr : Reads w .u8 a cap (ascI s)) (hs : s.size ≤ 1000) :
    ShortT (toksF (ascI s)) ∧ (∀ k, GoodT (tkAt (toksF (ascI s)) k)) ∧ (toksF (ascI s)).length ≤ 1000000 ∧
    Calls Tryz.prog 10 #[.slice a s.size cap] w (fun e w' => ∃ a3 d3, e = .returned (.slice a3 (toksF (ascI s)).length d3) ∧ ReadsT w' a3 d3 (toksF (ascI s)) ∧ Below w.heap.size w w') := by
  have hl := ascI_len s
  have htl := toks_len (ascI s)
  exact ⟨fun k => toks_short _ (by omega) k, fun k => toks_good _ k, by omega, rread_any a s.size cap (ascI s) w hl hr (u8_ascI s) (by omega)⟩

theorem and7 (x : Int) (h : 0 ≤ x ∧ x ≤ 255) : ∃ r : Nat, r ≤ 7 ∧ bits .and .u8 x 7 = (r : Int) := by
  have key : ∀ k : Fin 256, bits .and .u8 ((k.val : Nat) : Int) 7 = ((k.val % 8 : Nat) : Int) := by decide +kernel
  have := key ⟨x.toNat, by omega⟩
  rw [show ((x.toNat : Nat) : Int) = x by omega] at this
  exact ⟨x.toNat % 8, by omega, this⟩
theorem pad_bl : ∀ r : Nat, r ≤ 7 → BlP (({ data := #[32, 9, 10, 32, 9, 10, 32] } : ByteArray).extract 0 r) ∧ (({ data := #[32, 9, 10, 32, 9, 10, 32] } : ByteArray).extract 0 r).size ≤ 7 := fun r hr => by
  have key : ∀ u ∈ ascI ({ data := #[32, 9, 10, 32, 9, 10, 32] } : ByteArray), spaceB u = true ∧ PlC u := by unfold PlC; decide +kernel
  refine ⟨fun u hu => key u ?_, ?_⟩
  · unfold ascI at hu ⊢
    obtain ⟨b, hb, rfl⟩ := List.mem_map.1 hu
    refine List.mem_map.2 ⟨b, ?_, rfl⟩
    have e : strB (({ data := #[32, 9, 10, 32, 9, 10, 32] } : ByteArray).extract 0 r) = (strB ({ data := #[32, 9, 10, 32, 9, 10, 32] } : ByteArray)).take r := by
      unfold strB
      rw [ByteArray.data_extract, Array.toList_extract]
      simp [List.extract]
    rw [e] at hb
    exact List.mem_of_mem_take hb
  · rw [ByteArray.size_extract]
    show min r 7 - 0 ≤ 7
    omega

set_option maxRecDepth 100000 in
set_option maxHeartbeats 8000000 in
theorem lawAnbCases_any (a b k : Int) (mi : Bool) (w : World) (hE : HasERv w) (ha : 0 ≤ a ∧ a ≤ 65535) (hb : 0 ≤ b ∧ b ≤ 65535) (hk : 0 ≤ k ∧ k ≤ 255) :
    Calls Tryz.prog 6 #[.int .u16 a, .int .u16 b, .bool mi, .int .u8 k] w (Told (.bool true) w) := by
  have hER : HasER w := by obtain ⟨p, _, hc⟩ := hE; exact ⟨_, p, hc⟩
  have hS := speaks4_any w hER
  have HEV : Hid (∀ w' : World, Below w.heap.size w w' → HasERv w') := Lib.hid (fun w' hb => hE.later hb)
  obtain ⟨a, rfl⟩ := Int.eq_ofNat_of_zero_le ha.1
  obtain ⟨b, rfl⟩ := Int.eq_ofNat_of_zero_le hb.1
  have hDa := fun w => digits_any a w (by omega)
  have hDb := fun w => digits_any b w (by omega)
  obtain ⟨r, hr7, hrb⟩ := and7 k hk
  obtain ⟨hbl, hps⟩ := pad_bl r hr7
  have HBL := Lib.hid hbl
  have HPS := Lib.hid hps
  have HA := Lib.hid ha
  have HB := Lib.hid hb
  have hwa : wrap64 (a : Int) = a := by unfold wrap64; omega
  have hwb : wrap64 (b : Int) = b := by unfold wrap64; omega
  clear hE hER hbl hps
  cases mi
  · go_enter Tryz.func6, Tryz.ntmps6
    go_wp2_with fail
    refine hS.mono ?_
    rintro e w1 ⟨rfl, hb1⟩
    go_wp2_with fail
    refine (hDa _).mono ?_
    rintro e w2 ⟨⟨D1, rfl, hd1⟩, hb2⟩
    have hb12 := below_trans hb1 hb2
    have s1 := hd1.2.1
    generalize hP : ({ data := #[32, 9, 10, 32, 9, 10, 32] } : ByteArray).extract 0 r = P at *
    have hps := HPS.out
    clear hP
    have z1 : (D1 ++ (⟨#[78]⟩ : ByteArray)).size = D1.size + 1 := ByteArray.size_append
    have z2 : ((D1 ++ (⟨#[78]⟩ : ByteArray)) ++ P).size = D1.size + 1 + P.size := by rw [ByteArray.size_append, z1]
    have z3 : (((D1 ++ (⟨#[78]⟩ : ByteArray)) ++ P) ++ (⟨#[43]⟩ : ByteArray)).size = D1.size + 1 + P.size + 1 := by rw [ByteArray.size_append, z2]; rfl
    have z4 : ((((D1 ++ (⟨#[78]⟩ : ByteArray)) ++ P) ++ (⟨#[43]⟩ : ByteArray)) ++ P).size = D1.size + 1 + P.size + 1 + P.size := by rw [ByteArray.size_append, z3]
    have y1 : ¬ 9223372036854775807 < D1.size + 1 := by omega
    have y2 : ¬ 9223372036854775807 < D1.size + 1 + P.size := by omega
    have y3 : ¬ 9223372036854775807 < D1.size + 1 + P.size + 1 := by omega
    have y4 : ¬ 9223372036854775807 < D1.size + 1 + P.size + 1 + P.size := by omega
    go_wp2_with fail
    refine (hDb _).mono ?_
    rintro e w3 ⟨⟨D2, rfl, hd2⟩, hb3⟩
    have hb13 := below_trans hb12 hb3
    have s2 := hd2.2.1
    have z5 : (((((D1 ++ (⟨#[78]⟩ : ByteArray)) ++ P) ++ (⟨#[43]⟩ : ByteArray)) ++ P) ++ D2).size = D1.size + 1 + P.size + 1 + P.size + D2.size := by rw [ByteArray.size_append, z4]
    have y5 : ¬ 9223372036854775807 < D1.size + 1 + P.size + 1 + P.size + D2.size := by omega
    obtain ⟨ux, hux⟩ := cases_x hd1 hd2 HBL.out (c := 43) (.inl rfl) HA.out HB.out
    obtain ⟨cap1, w4, hcv1, hb4, hr4, hl4⟩ := conv_readsX (((((D1 ++ (⟨#[78]⟩ : ByteArray)) ++ P) ++ (⟨#[43]⟩ : ByteArray)) ++ P) ++ D2) w3 (by omega)
    have hb14 := below_trans hb13 hb4
    have hux2 := hu_ascI (((((D1 ++ (⟨#[78]⟩ : ByteArray)) ++ P) ++ (⟨#[43]⟩ : ByteArray)) ++ P) ++ D2) w4 _ cap1 hr4 (by omega)
    obtain ⟨hsh1, hgd1, hle1, hrd1⟩ := hux2
    have HUX := Lib.hid hux
    clear hux z1 z2 z3 z4 hr4 hl4 hd1 hd2 hb1 hb2 hb3 hb12 hb13 hb4
    generalize toksF (ascI (((((D1 ++ (⟨#[78]⟩ : ByteArray)) ++ P) ++ (⟨#[43]⟩ : ByteArray)) ++ P) ++ D2)) = ts1 at *
    generalize (((((D1 ++ (⟨#[78]⟩ : ByteArray)) ++ P) ++ (⟨#[43]⟩ : ByteArray)) ++ P) ++ D2).size = nx at hcv1 hrd1
    clear z5
    go_wp2_with fail
    refine hrd1.mono ?_
    rintro e w5 ⟨a5, d5, rfl, hr5, hb5⟩
    have hb15 := below_trans hb14 hb5
    go_wp2_with fail
    refine (Parse_any ts1 ts1.length d5 a5 w5 hr5 rfl hle1 hsh1 (HEV.out w5 hb15)).mono ?_
    rintro q2 w6 ⟨hb6, hq⟩
    have hb16 := below_trans hb15 hb6
    rw [HUX.out] at hq
    rcases hq with ⟨_, rfl⟩ | ⟨_, hk0, _⟩
    rotate_left
    · exact absurd rfl hk0
    dsimp only
    clear hr5 hb5 hb6 hb14 hb15 hrd1 hcv1
    go_wp2_with fail
    refine (hDa _).mono ?_
    rintro e w7 ⟨⟨D3, rfl, hd3⟩, hb7⟩
    have hb17 := below_trans hb16 hb7
    have s3 := hd3.2.1
    have x1 : (P ++ D3).size = P.size + D3.size := ByteArray.size_append
    have x2 : ((P ++ D3) ++ (⟨#[110]⟩ : ByteArray)).size = P.size + D3.size + 1 := by rw [ByteArray.size_append, x1]; rfl
    have x3 : (((P ++ D3) ++ (⟨#[110]⟩ : ByteArray)) ++ (⟨#[43]⟩ : ByteArray)).size = P.size + D3.size + 1 + 1 := by rw [ByteArray.size_append, x2]; rfl
    have v1 : ¬ 9223372036854775807 < P.size + D3.size := by omega
    have v2 : ¬ 9223372036854775807 < P.size + D3.size + 1 := by omega
    have v3 : ¬ 9223372036854775807 < P.size + D3.size + 1 + 1 := by omega
    go_wp2_with fail
    refine (hDb _).mono ?_
    rintro e w8 ⟨⟨D4, rfl, hd4⟩, hb8⟩
    have hb18 := below_trans hb17 hb8
    have s4 := hd4.2.1
    have x4 : ((((P ++ D3) ++ (⟨#[110]⟩ : ByteArray)) ++ (⟨#[43]⟩ : ByteArray)) ++ D4).size = P.size + D3.size + 1 + 1 + D4.size := by rw [ByteArray.size_append, x3]
    have v4 : ¬ 9223372036854775807 < P.size + D3.size + 1 + 1 + D4.size := by omega
    obtain ⟨uy, huy⟩ := cases_y hd3 hd4 HBL.out (c := 43) (.inl rfl) HA.out HB.out
    obtain ⟨cap2, w9, hcv2, hb9, hr9, hl9⟩ := conv_readsX ((((P ++ D3) ++ (⟨#[110]⟩ : ByteArray)) ++ (⟨#[43]⟩ : ByteArray)) ++ D4) w8 (by omega)
    have hb19 := below_trans hb18 hb9
    have huy2 := hu_ascI ((((P ++ D3) ++ (⟨#[110]⟩ : ByteArray)) ++ (⟨#[43]⟩ : ByteArray)) ++ D4) w9 _ cap2 hr9 (by omega)
    obtain ⟨hsh2, hgd2, hle2, hrd2⟩ := huy2
    have HUY := Lib.hid huy
    clear huy x1 x2 x3 hr9 hl9 hd3 hd4 hb7 hb8 hb9 hb17 hb18
    generalize toksF (ascI ((((P ++ D3) ++ (⟨#[110]⟩ : ByteArray)) ++ (⟨#[43]⟩ : ByteArray)) ++ D4)) = ts2 at *
    generalize ((((P ++ D3) ++ (⟨#[110]⟩ : ByteArray)) ++ (⟨#[43]⟩ : ByteArray)) ++ D4).size = ny at hcv2 hrd2
    clear x4
    go_wp2_with fail
    refine hrd2.mono ?_
    rintro e wa ⟨a6, d6, rfl, hra, hba⟩
    have hb1a := below_trans hb19 hba
    go_wp2_with fail
    refine (Parse_any ts2 ts2.length d6 a6 wa hra rfl hle2 hsh2 (HEV.out wa hb1a)).mono ?_
    rintro q3 wb ⟨hbb, hq⟩
    have hb1b := below_trans hb1a hbb
    rw [HUY.out] at hq
    rcases hq with ⟨_, rfl⟩ | ⟨_, hk0, _⟩
    rotate_left
    · exact absurd rfl hk0
    dsimp only
    clear hra hba hbb hb19 hb1a hrd2 hcv2
    rw [if_neg (by decide)]
    go_wp2
    go_ret
    exact ⟨rfl, hb1b⟩
  · go_enter Tryz.func6, Tryz.ntmps6
    go_wp2_with fail
    refine hS.mono ?_
    rintro e w1 ⟨rfl, hb1⟩
    go_wp2_with fail
    refine (hDa _).mono ?_
    rintro e w2 ⟨⟨D1, rfl, hd1⟩, hb2⟩
    have hb12 := below_trans hb1 hb2
    have s1 := hd1.2.1
    generalize hP : ({ data := #[32, 9, 10, 32, 9, 10, 32] } : ByteArray).extract 0 r = P at *
    have hps := HPS.out
    clear hP
    have z1 : (D1 ++ (⟨#[78]⟩ : ByteArray)).size = D1.size + 1 := ByteArray.size_append
    have z2 : ((D1 ++ (⟨#[78]⟩ : ByteArray)) ++ P).size = D1.size + 1 + P.size := by rw [ByteArray.size_append, z1]
    have z3 : (((D1 ++ (⟨#[78]⟩ : ByteArray)) ++ P) ++ (⟨#[45]⟩ : ByteArray)).size = D1.size + 1 + P.size + 1 := by rw [ByteArray.size_append, z2]; rfl
    have z4 : ((((D1 ++ (⟨#[78]⟩ : ByteArray)) ++ P) ++ (⟨#[45]⟩ : ByteArray)) ++ P).size = D1.size + 1 + P.size + 1 + P.size := by rw [ByteArray.size_append, z3]
    have y1 : ¬ 9223372036854775807 < D1.size + 1 := by omega
    have y2 : ¬ 9223372036854775807 < D1.size + 1 + P.size := by omega
    have y3 : ¬ 9223372036854775807 < D1.size + 1 + P.size + 1 := by omega
    have y4 : ¬ 9223372036854775807 < D1.size + 1 + P.size + 1 + P.size := by omega
    go_wp2_with fail
    refine (hDb _).mono ?_
    rintro e w3 ⟨⟨D2, rfl, hd2⟩, hb3⟩
    have hb13 := below_trans hb12 hb3
    have s2 := hd2.2.1
    have z5 : (((((D1 ++ (⟨#[78]⟩ : ByteArray)) ++ P) ++ (⟨#[45]⟩ : ByteArray)) ++ P) ++ D2).size = D1.size + 1 + P.size + 1 + P.size + D2.size := by rw [ByteArray.size_append, z4]
    have y5 : ¬ 9223372036854775807 < D1.size + 1 + P.size + 1 + P.size + D2.size := by omega
    obtain ⟨ux, hux⟩ := cases_x hd1 hd2 HBL.out (c := 45) (.inr rfl) HA.out HB.out
    obtain ⟨cap1, w4, hcv1, hb4, hr4, hl4⟩ := conv_readsX (((((D1 ++ (⟨#[78]⟩ : ByteArray)) ++ P) ++ (⟨#[45]⟩ : ByteArray)) ++ P) ++ D2) w3 (by omega)
    have hb14 := below_trans hb13 hb4
    have hux2 := hu_ascI (((((D1 ++ (⟨#[78]⟩ : ByteArray)) ++ P) ++ (⟨#[45]⟩ : ByteArray)) ++ P) ++ D2) w4 _ cap1 hr4 (by omega)
    obtain ⟨hsh1, hgd1, hle1, hrd1⟩ := hux2
    have HUX := Lib.hid hux
    clear hux z1 z2 z3 z4 hr4 hl4 hd1 hd2 hb1 hb2 hb3 hb12 hb13 hb4
    generalize toksF (ascI (((((D1 ++ (⟨#[78]⟩ : ByteArray)) ++ P) ++ (⟨#[45]⟩ : ByteArray)) ++ P) ++ D2)) = ts1 at *
    generalize (((((D1 ++ (⟨#[78]⟩ : ByteArray)) ++ P) ++ (⟨#[45]⟩ : ByteArray)) ++ P) ++ D2).size = nx at hcv1 hrd1
    clear z5
    go_wp2_with fail
    refine hrd1.mono ?_
    rintro e w5 ⟨a5, d5, rfl, hr5, hb5⟩
    have hb15 := below_trans hb14 hb5
    go_wp2_with fail
    refine (Parse_any ts1 ts1.length d5 a5 w5 hr5 rfl hle1 hsh1 (HEV.out w5 hb15)).mono ?_
    rintro q2 w6 ⟨hb6, hq⟩
    have hb16 := below_trans hb15 hb6
    rw [HUX.out] at hq
    rcases hq with ⟨_, rfl⟩ | ⟨_, hk0, _⟩
    rotate_left
    · exact absurd rfl hk0
    dsimp only
    clear hr5 hb5 hb6 hb14 hb15 hrd1 hcv1
    go_wp2_with fail
    refine (hDa _).mono ?_
    rintro e w7 ⟨⟨D3, rfl, hd3⟩, hb7⟩
    have hb17 := below_trans hb16 hb7
    have s3 := hd3.2.1
    have x1 : (P ++ D3).size = P.size + D3.size := ByteArray.size_append
    have x2 : ((P ++ D3) ++ (⟨#[110]⟩ : ByteArray)).size = P.size + D3.size + 1 := by rw [ByteArray.size_append, x1]; rfl
    have x3 : (((P ++ D3) ++ (⟨#[110]⟩ : ByteArray)) ++ (⟨#[45]⟩ : ByteArray)).size = P.size + D3.size + 1 + 1 := by rw [ByteArray.size_append, x2]; rfl
    have v1 : ¬ 9223372036854775807 < P.size + D3.size := by omega
    have v2 : ¬ 9223372036854775807 < P.size + D3.size + 1 := by omega
    have v3 : ¬ 9223372036854775807 < P.size + D3.size + 1 + 1 := by omega
    go_wp2_with fail
    refine (hDb _).mono ?_
    rintro e w8 ⟨⟨D4, rfl, hd4⟩, hb8⟩
    have hb18 := below_trans hb17 hb8
    have s4 := hd4.2.1
    have x4 : ((((P ++ D3) ++ (⟨#[110]⟩ : ByteArray)) ++ (⟨#[45]⟩ : ByteArray)) ++ D4).size = P.size + D3.size + 1 + 1 + D4.size := by rw [ByteArray.size_append, x3]
    have v4 : ¬ 9223372036854775807 < P.size + D3.size + 1 + 1 + D4.size := by omega
    obtain ⟨uy, huy⟩ := cases_y hd3 hd4 HBL.out (c := 45) (.inr rfl) HA.out HB.out
    obtain ⟨cap2, w9, hcv2, hb9, hr9, hl9⟩ := conv_readsX ((((P ++ D3) ++ (⟨#[110]⟩ : ByteArray)) ++ (⟨#[45]⟩ : ByteArray)) ++ D4) w8 (by omega)
    have hb19 := below_trans hb18 hb9
    have huy2 := hu_ascI ((((P ++ D3) ++ (⟨#[110]⟩ : ByteArray)) ++ (⟨#[45]⟩ : ByteArray)) ++ D4) w9 _ cap2 hr9 (by omega)
    obtain ⟨hsh2, hgd2, hle2, hrd2⟩ := huy2
    have HUY := Lib.hid huy
    clear huy x1 x2 x3 hr9 hl9 hd3 hd4 hb7 hb8 hb9 hb17 hb18
    generalize toksF (ascI ((((P ++ D3) ++ (⟨#[110]⟩ : ByteArray)) ++ (⟨#[45]⟩ : ByteArray)) ++ D4)) = ts2 at *
    generalize ((((P ++ D3) ++ (⟨#[110]⟩ : ByteArray)) ++ (⟨#[45]⟩ : ByteArray)) ++ D4).size = ny at hcv2 hrd2
    clear x4
    go_wp2_with fail
    refine hrd2.mono ?_
    rintro e wa ⟨a6, d6, rfl, hra, hba⟩
    have hb1a := below_trans hb19 hba
    go_wp2_with fail
    refine (Parse_any ts2 ts2.length d6 a6 wa hra rfl hle2 hsh2 (HEV.out wa hb1a)).mono ?_
    rintro q3 wb ⟨hbb, hq⟩
    have hb1b := below_trans hb1a hbb
    rw [HUY.out] at hq
    rcases hq with ⟨_, rfl⟩ | ⟨_, hk0, _⟩
    rotate_left
    · exact absurd rfl hk0
    dsimp only
    clear hra hba hbb hb19 hb1a hrd2 hcv2
    go_wp2
    go_ret
    exact ⟨rfl, hb1b⟩
end Go.Proofs.YtickcbmfboajiaaGreatDoor
