/- Texts of mine in one: Bl0. -/
import Derived.Test.YtelbjnanpmdnnaaQ29
import Derived.Test.YtelbjnanpmdnnaaQ26
import Derived.Test.YtelbjnanpmdnnaaQ49
import Derived.Test.YtelbjnanpmdnnaaQ35
import Derived.Test.YtelbjnanpmdnnaaQ14
namespace Go.Proofs.Ytelbjnanpmdnnaa
section
open Go.RowKit
set_option linter.unusedVariables false
set_option linter.unusedSimpArgs false
theorem txa_short (zs : List Int) (h : zs.length ≤ 100000) (j : Nat) : (txA (toksF zs) j).size ≤ 1000000 := by
  rcases Nat.lt_or_ge j (toksF zs).length with h1 | h1
  · have h2 := (toks_short zs h j).1
    rw [txA_at h1]
    unfold tkAt at h2
    rw [List.getElem?_eq_getElem h1, Option.getD_some] at h2
    omega
  · unfold txA
    rw [List.getElem?_eq_none h1]
    decide
def lA : List Int := [97, 123, 120, 58, 49, 125, 32, 64, 109, 32, 121, 123, 125, 32, 98, 123, 32, 125]
def lB : List Int := [120, 32, 58, 32, 49, 32, 50, 32, 33, 32, 73, 109, 112, 111, 114, 116, 97, 110, 116, 32, 59, 32, 121, 58]
theorem lenA : (toksF lA).length = 18 := by kernel_rfl
theorem lenB : (toksF lB).length = 17 := by kernel_rfl
theorem rulesA : rulesF (toksF lA) (endF (toksF lA) 18 0) true 0 = [⟨false, ⟨#[]⟩, 0, 1, true, 2, 5⟩, ⟨true, ⟨#[109]⟩, 8, 10, true, 11, 11⟩, ⟨false, ⟨#[]⟩, 13, 14, true, 15, 16⟩] := by kernel_rfl
theorem declsB : declsF (toksF lB) (endF (toksF lB) 17 0) 0 = [⟨⟨#[120]⟩, 4, 7, true⟩, ⟨⟨#[121]⟩, 16, 16, false⟩] := by kernel_rfl
theorem bytesA (w : World) : Reads (w.alloc (.cells #[.int .u8 97, .int .u8 123, .int .u8 120, .int .u8 58, .int .u8 49, .int .u8 125, .int .u8 32, .int .u8 64, .int .u8 109, .int .u8 32, .int .u8 121, .int .u8 123, .int .u8 125, .int .u8 32, .int .u8 98, .int .u8 123, .int .u8 32, .int .u8 125] 5 (18, 19))) .u8 (some ⟨w.heap.size, 0, none⟩) 18 lA :=
  reads_marked w .u8 [97, 123, 120, 58, 49, 125, 32, 64, 109, 32, 121, 123, 125, 32, 98, 123, 32, 125] 5 (18, 19) 18 rfl (by unfold maxLen; decide)
theorem bytesB (w : World) : Reads (w.alloc (.cells #[.int .u8 120, .int .u8 32, .int .u8 58, .int .u8 32, .int .u8 49, .int .u8 32, .int .u8 50, .int .u8 32, .int .u8 33, .int .u8 32, .int .u8 73, .int .u8 109, .int .u8 112, .int .u8 111, .int .u8 114, .int .u8 116, .int .u8 97, .int .u8 110, .int .u8 116, .int .u8 32, .int .u8 59, .int .u8 32, .int .u8 121, .int .u8 58] 5 (24, 25))) .u8 (some ⟨w.heap.size, 0, none⟩) 24 lB :=
  reads_marked w .u8 [120, 32, 58, 32, 49, 32, 50, 32, 33, 32, 73, 109, 112, 111, 114, 116, 97, 110, 116, 32, 59, 32, 121, 58] 5 (24, 25) 24 rfl (by unfold maxLen; decide)
set_option maxRecDepth 100000 in
set_option maxHeartbeats 16000000 in
theorem speaks19_any (w : World) : Calls Try.prog 7 #[] w (Told (.bool true) w) := by
  have rA := fun w => rread_any (some ⟨w.heap.size, 0, none⟩) 18 18 lA _ rfl (bytesA w) (show ∀ z ∈ lA, 0 ≤ z ∧ z ≤ 255 by decide) (by decide)
  have rB := fun w => rread_any (some ⟨w.heap.size, 0, none⟩) 24 24 lB _ rfl (bytesB w) (show ∀ z ∈ lB, 0 ≤ z ∧ z ≤ 255 by decide) (by decide)
  unfold TksPost at rA rB
  have hsA := txa_short lA (by decide)
  have hsB := txa_short lB (by decide)
  have hlA := lenA; have hlB := lenB; have hrA := rulesA; have hdB := declsB
  generalize toksF lA = TA at *
  generalize toksF lB = TB at *
  rw [hlA] at rA
  rw [hlB] at rB
  have HsA := Lib.hid hsA; have HsB := Lib.hid hsB; have HlA := Lib.hid hlA; have HlB := Lib.hid hlB; have HrA := Lib.hid hrA; have HdB := Lib.hid hdB
  clear hsA hsB hlA hlB hrA hdB
  have cv := conv_bytes w #[.int .u8 97, .int .u8 123, .int .u8 120, .int .u8 58, .int .u8 49, .int .u8 125, .int .u8 32, .int .u8 64, .int .u8 109, .int .u8 32, .int .u8 121, .int .u8 123, .int .u8 125, .int .u8 32, .int .u8 98, .int .u8 123, .int .u8 32, .int .u8 125] 18 18
  simp at cv
  have HB1 := Lib.hid ((Below.refl w.heap.size w).alloc (Nat.le_refl _) (.cells #[.int .u8 97, .int .u8 123, .int .u8 120, .int .u8 58, .int .u8 49, .int .u8 125, .int .u8 32, .int .u8 64, .int .u8 109, .int .u8 32, .int .u8 121, .int .u8 123, .int .u8 125, .int .u8 32, .int .u8 98, .int .u8 123, .int .u8 32, .int .u8 125] 5 (18, 19)))
  go_enter Try.func7, Try.ntmps7
  go_wp2_with fail
  refine (rA w).mono ?_
  rintro e w2 ⟨a2, c2, rfl, hr2, hb2⟩
  have HB2 := Lib.hid (HB1.out.trans (hb2.mono HB1.out.size))
  have HR2 := Lib.hid hr2
  have cv2 := conv_bytes w2 #[.int .u8 120, .int .u8 32, .int .u8 58, .int .u8 32, .int .u8 49, .int .u8 32, .int .u8 50, .int .u8 32, .int .u8 33, .int .u8 32, .int .u8 73, .int .u8 109, .int .u8 112, .int .u8 111, .int .u8 114, .int .u8 116, .int .u8 97, .int .u8 110, .int .u8 116, .int .u8 32, .int .u8 59, .int .u8 32, .int .u8 121, .int .u8 58] 24 24
  simp at cv2
  have hbx := (Below.refl w2.heap.size w2).alloc (Nat.le_refl _) (.cells #[.int .u8 120, .int .u8 32, .int .u8 58, .int .u8 32, .int .u8 49, .int .u8 32, .int .u8 50, .int .u8 32, .int .u8 33, .int .u8 32, .int .u8 73, .int .u8 109, .int .u8 112, .int .u8 111, .int .u8 114, .int .u8 116, .int .u8 97, .int .u8 110, .int .u8 116, .int .u8 32, .int .u8 59, .int .u8 32, .int .u8 121, .int .u8 58] 5 (24, 25))
  have HB3 := Lib.hid (HB2.out.trans (hbx.mono HB2.out.size))
  have HR3 := Lib.hid (hr2.later hbx)
  clear cv rA HB1 hb2 hr2 HR2 HB2 hbx
  go_wp2_with fail
  refine (rB w2).mono ?_
  rintro e w4 ⟨a4, c4, rfl, hr4, hb4⟩
  have HB4 := Lib.hid (HB3.out.trans (hb4.mono HB3.out.size))
  have hr3 := HR3.out.later hb4
  have hc2 := hr3.1; have hc2b := hr3.2.1; have hc4 := hr4.1; have hc4b := hr4.2.1
  rw [HlA.out] at hc2
  rw [HlB.out] at hc4
  unfold maxLen at hc2b hc4b
  obtain ⟨b2, rfl, t2⟩ := hr3.row
  obtain ⟨b4, rfl, t4⟩ := hr4.row
  rw [HlA.out] at t2
  rw [HlB.out] at t4
  have T2 := Lib.hid t2; have T4 := Lib.hid t4
  clear cv2 rB HB3 HR3 hb4 hr3 hr4 t2 t4
  have cR := brules_any (w := w4) 0 18 true 0 (endF TA 18 0) T2.out hc2 (by omega) (by omega) HsA.out (by decide) (by decide) (by rfl)
  rw [HrA.out] at cR
  go_wp2_with fail
  refine cR.mono ?_
  rintro e w5 ⟨v5, rfl, ho5, hb5⟩
  obtain ⟨a5, c5, rfl, hx5⟩ := readsC_of_own ho5
  have HB5 := Lib.hid (HB4.out.trans (hb5.mono HB4.out.size))
  have T5 := Lib.hid (T4.out.later hb5 T4.out.lt)
  have HX5 := Lib.hid hx5
  clear cR ho5 hb5 hx5 HB4 T2 T4
  have cD := bdecls_any (w := w5) 0 17 0 (endF TB 17 0) T5.out hc4 (by omega) (by omega) HsB.out (by decide) (by decide) (by rfl)
  rw [HdB.out] at cD
  go_wp2_with fail
  refine cD.mono ?_
  rintro e w6 ⟨v6, rfl, ho6, hb6⟩
  obtain ⟨a6, c6, rfl, hx6⟩ := readsC_of_own ho6
  have HB6 := Lib.hid (HB5.out.trans (hb6.mono HB5.out.size))
  have hx5 := HX5.out.later hb6
  clear cD ho6 hb6 HB5 T5 HX5
  obtain ⟨k1, k2, k0 | ⟨b5, rfl, hl5, hc5⟩⟩ := hx5
  · exact absurd k0 (by decide)
  obtain ⟨m1, m2, m0 | ⟨b6, rfl, hl6, hc6⟩⟩ := hx6
  · exact absurd m0 (by decide)
  have x7 : w6.cell? ⟨b5, 7, none⟩ = some (.bool true) := hc5 7 _ rfl
  have x8 : w6.cell? ⟨b5, 8, none⟩ = some (.string ⟨#[109]⟩) := hc5 8 _ rfl
  have y1 : w6.cell? ⟨b6, 1, none⟩ = some (.int .i64 4) := hc6 1 _ rfl
  have y2 : w6.cell? ⟨b6, 2, none⟩ = some (.int .i64 7) := hc6 2 _ rfl
  have y3 : w6.cell? ⟨b6, 3, none⟩ = some (.bool true) := hc6 3 _ rfl
  unfold maxLen at k2 m2
  clear hc5 hc6 HsA HsB HlA HlB HrA HdB
  replace k1 : 3 ≤ c5 := k1
  replace m1 : 2 ≤ c6 := m1
  go_wp2_with fail
  go_quiet (fail)
  go_wp2
  go_ret
  exact ⟨rfl, below_drewN HB6.out _⟩
end
end Go.Proofs.Ytelbjnanpmdnnaa
