/- Texts of mine in one: Jn5. -/
import Derived.Test.YtelbjnanpmdnnaaQ51
namespace Go.Proofs.Ytelbjnanpmdnnaa
section
open Go.RowKit
set_option linter.unusedVariables false
set_option linter.unusedSimpArgs false
theorem strB_numsJ (zs : List Int) : strB (strOfNums zs) = zs.map (fun n => UInt8.ofNat n.toNat) := strOfNums_data zs
theorem conv_readsJ (zs : List Int) (hz : ∀ z ∈ zs, PlC z) (w : World) (hs : zs.length ≤ 1000000) : ∃ cap w', (convert 9 22 (.string (strOfNums zs))).run Try.prog w = .ok (.slice (some ⟨w.heap.size, 0, none⟩) zs.length cap) w' ∧ Below w.heap.size w w' ∧ Reads w' .u8 (some ⟨w.heap.size, 0, none⟩) cap zs := by
  obtain ⟨cap, w2, hrun, hcap, hb2, hz2, hcells, hfz⟩ := conv_strW (strOfNums zs) w
  rw [strOfNums_size] at hrun hcap hfz
  have hm : cap ≤ maxLen := by
    have h1 := run_bytes_of_string w 9 22 5 (strOfNums zs) Try.underlying9 Try.underlying22 Try.underlying5
    rw [strOfNums_size] at h1
    rw [h1] at hrun
    injection hrun with e1 e2
    injection e1 with _ _ e3
    rw [← e3]
    exact grownCap_le_maxLen _ _ _ _ (by unfold maxLen; omega)
  refine ⟨cap, w2, hrun, hb2, hcap, hm, .inr ⟨w.heap.size, 0, rfl, by omega, fun j hj => ?_⟩⟩
  have h1 : (strB (strOfNums zs))[j]? = some (UInt8.ofNat (zs[j]'hj).toNat) := by rw [strB_numsJ, List.getElem?_map, List.getElem?_eq_getElem hj]; rfl
  have h2 := hcells j _ h1
  have h3 := hz _ (List.getElem_mem hj)
  unfold PlC at h3
  rw [Nat.zero_add, h2, List.getElem?_eq_getElem hj, Option.getD_some, UInt8.toNat_ofNat', Nat.mod_eq_of_lt (by omega)]
  congr 2
  omega
def Shift (d : Nat) (r s : Rl) : Prop := s.at_ = r.at_ ∧ s.name = r.name ∧ s.frm = r.frm + d ∧ (s.fin : Int) - s.opn = (r.fin : Int) - r.opn ∧ r.frm ≤ 100000 ∧ r.fin ≤ 100000 ∧ r.opn ≤ 100000 ∧ s.fin ≤ 200000 ∧ s.opn ≤ 200000
theorem rpR_shift (k q d : Nat) (hq : q ≤ 90000) (hd : d ≤ 90000) : Shift d (rpR k q) (rpR k (q + d)) := by
  unfold Shift
  match k with
  | 0 => simp only [rpR]; refine ⟨trivial, trivial, ?_, ?_, ?_, ?_, ?_, ?_, ?_⟩ <;> omega
  | 1 => simp only [rpR]; refine ⟨trivial, trivial, ?_, ?_, ?_, ?_, ?_, ?_, ?_⟩ <;> omega
  | 2 => simp only [rpR]; refine ⟨trivial, trivial, ?_, ?_, ?_, ?_, ?_, ?_, ?_⟩ <;> omega
  | 3 => simp only [rpR]; refine ⟨trivial, trivial, ?_, ?_, ?_, ?_, ?_, ?_, ?_⟩ <;> first | trivial | omega | rfl
  | 4 => simp only [rpR]; refine ⟨trivial, trivial, ?_, ?_, ?_, ?_, ?_, ?_, ?_⟩ <;> omega
  | 5 => simp only [rpR]; refine ⟨trivial, trivial, ?_, ?_, ?_, ?_, ?_, ?_, ?_⟩ <;> omega
  | k + 6 => simp only [rpR]; refine ⟨trivial, trivial, ?_, ?_, ?_, ?_, ?_, ?_, ?_⟩ <;> omega
theorem rulesP_shift (d : Nat) (hd : d ≤ 90000) : ∀ (ks : List Nat) (q i : Nat), q + cntP ks ≤ 90000 → i < ks.length → ∃ r s, (rulesP ks q)[i]? = some r ∧ (rulesP ks (q + d))[i]? = some s ∧ Shift d r s
  | [], q, i, _, h => by simp at h
  | k :: ks, q, 0, hq, _ => ⟨_, _, rfl, rfl, rpR_shift k q d (by omega) hd⟩
  | k :: ks, q, i + 1, hq, h => by
    have hq' : q + ((rpT k 0).length + cntP ks) ≤ 90000 := hq
    obtain ⟨r, s, h1, h2, h3⟩ := rulesP_shift d hd ks (q + (rpT k 0).length) i (by omega) (by simpa using h)
    refine ⟨r, s, h1, ?_, h3⟩
    show (rulesP ks (q + d + (rpT k 0).length))[i]? = some s
    rw [show q + d + (rpT k 0).length = q + (rpT k 0).length + d by omega]
    exact h2
theorem plc_u8 {zs : List Int} (h : ∀ z ∈ zs, PlC z) : U8 zs := fun z hz => by have := h z hz; unfold PlC at this; omega
def ReadP (es : List Nat) (w : World) (e : Ending) (w' : World) : Prop := ∃ b c, e = .returned (.slice (some ⟨b, 0, none⟩) (cntP es + 1) c) ∧ TkRow w' b (cntP es + 1) (toksF (textP es)) ∧ cntP es + 1 ≤ c ∧ c ≤ 9223372036854775807 ∧ Below w.heap.size w w'
theorem readP_any (es : List Nat) (a : Option Addr) (n c : Nat) (w : World) (hn : (textP es).length = n) (hr : Reads w .u8 a c (textP es)) (hs : n ≤ 10000) : Calls Try.prog 8 #[.slice a n c] w (ReadP es w) :=
  (rread_any a n c (textP es) w hn hr (plc_u8 (textP_plc es)) (by omega)).mono fun e w' ⟨a', c', he, hr', hb⟩ => by
    have h1 := hr'.1; have h2 := hr'.2.1
    unfold maxLen at h2
    obtain ⟨b, rfl, ht⟩ := hr'.row
    rw [textP_count] at he ht h1
    exact ⟨b, c', he, ht, h1, by omega, hb⟩
def RulP (es : List Nat) (w : World) (e : Ending) (w' : World) : Prop := ∃ a c, e = .returned (.slice a es.length c) ∧ ReadsC w' a es.length c 7 ((rulesP es 0).flatMap rlCells) ∧ Below w.heap.size w w'
theorem rulP_any (es : List Nat) (b c : Nat) (w : World) (ht : TkRow w b (cntP es + 1) (toksF (textP es))) (hc : cntP es + 1 ≤ c) (hc2 : c ≤ 9223372036854775807) (hs : (textP es).length ≤ 10000) :
    Calls Try.prog 9 #[.slice (some ⟨b, 0, none⟩) (cntP es + 1) c, .int .i64 0, .int .i64 ((cntP es + 1 : Nat) : Int), .bool true] w (RulP es w) := by
  have hle := cntP_le es
  have h1 := brules_any (w := w) 0 ((cntP es + 1 : Nat) : Int) true 0 (endF (toksF (textP es)) (cntP es + 1) 0) ht hc hc2 (by omega) (txa_short _ (by omega)) (by decide) (by decide) (by rw [show min ((cntP es + 1 : Nat) : Int) ((cntP es + 1 : Nat) : Int) = ((cntP es + 1 : Nat) : Int) by omega]; rfl)
  rw [textP_rules es true (cntP es + 1) (textP_count es).symm] at h1
  refine h1.mono fun e w' ⟨v, he, ho, hb⟩ => ?_
  obtain ⟨a, c', rfl, hx⟩ := readsC_of_own ho
  rw [rulesP_len] at he hx
  exact ⟨a, c', he, hx, hb⟩
set_option maxRecDepth 100000 in
set_option maxHeartbeats 16000000 in
theorem lawBlocksJoin_any (a0 a1 : Option Addr) (c0 c1 n0 n1 : Nat) (zs ys : List Int) (w : World) (hn0 : zs.length = n0) (hn1 : ys.length = n1) (hr0 : Reads w .u8 a0 c0 zs) (hr1 : Reads w .u8 a1 c1 ys) (hz0 : U8 zs) (hz1 : U8 ys) :
    Calls Try.prog 5 #[.slice a0 n0 c0, .slice a1 n1 c1] w (Told (.bool true) w) := by
  have cS := speaks19_any w
  by_cases hg0 : 60 < n0
  · have q0 : (60 : Int) < (n0 : Int) := by omega
    clear hr0 hr1 hz0 hz1 hn0 hn1
    go_enter Try.func5, Try.ntmps5
    go_wp2_with fail
    refine cS.mono ?_
    rintro e w1 ⟨rfl, hb1⟩
    go_wp2
    go_ret
    exact ⟨rfl, hb1⟩
  by_cases hg1 : 60 < n1
  · have q0 : ¬ (60 : Int) < (n0 : Int) := by omega
    have q0d : decide ((60 : Int) < (n0 : Int)) = false := decide_eq_false q0
    have q1 : (60 : Int) < (n1 : Int) := by omega
    clear hr0 hr1 hz0 hz1 hn0 hn1
    go_enter Try.func5, Try.ntmps5
    go_wp2_with fail
    refine cS.mono ?_
    rintro e w1 ⟨rfl, hb1⟩
    go_wp2
    go_ret
    exact ⟨rfl, hb1⟩
  have q0 : ¬ (60 : Int) < (n0 : Int) := by omega
  have q1 : ¬ (60 : Int) < (n1 : Int) := by omega
  have hl0 := textP_le (pk zs)
  have hl1 := textP_le (pk ys)
  rw [pk_len, hn0] at hl0
  rw [pk_len, hn1] at hl1
  have hp0 : (pk zs).length = n0 := by rw [pk_len, hn0]
  have hp1 : (pk ys).length = n1 := by rw [pk_len, hn1]
  have t0 := fun w' (hb : Below w.heap.size w w') => ltext_any a0 n0 c0 zs w' hn0 (hr0.later hb) hz0 (by omega)
  have t1 := fun w' (hb : Below w.heap.size w w') => ltext_any a1 n1 c1 ys w' hn1 (hr1.later hb) hz1 (by omega)
  generalize pk zs = P at *
  generalize pk ys = Q at *
  have hcP := cntP_le P
  have hcQ := cntP_le Q
  have HP0 := Lib.hid hp0; have HP1 := Lib.hid hp1
  have T0 := Lib.hid t0; have T1 := Lib.hid t1
  have CV := Lib.hid (fun (es : List Nat) (w' : World) (h : (textP es).length ≤ 10000) => conv_readsJ (textP es) (textP_plc es) w' (by omega))
  clear hr0 hr1 hz0 hz1 hn0 hn1 t0 t1 hp0 hp1
  have HXY : Hid (strOfNums (textP P) ++ strOfNums (textP Q) = strOfNums (textP (P ++ Q))) := Lib.hid (by rw [nums_append, textP_append])
  have hPQ : (textP (P ++ Q)).length ≤ 1440 := by rw [← textP_append, List.length_append]; omega
  go_enter Try.func5, Try.ntmps5
  go_wp2_with fail
  refine cS.mono ?_
  rintro e w1 ⟨rfl, hb1⟩
  go_wp2_with fail
  refine (T0.out w1 hb1).mono ?_
  rintro e w2 ⟨rfl, hb2⟩
  have hb12 := below_trans hb1 hb2
  go_wp2_with fail
  refine (T1.out w2 hb12).mono ?_
  rintro e w3 ⟨rfl, hb3⟩
  have HB3 := Lib.hid (below_trans hb12 hb3)
  clear hb1 hb2 hb12 hb3 T0 T1 cS
  obtain ⟨e4, w4, hcv, hb4, hr4⟩ := CV.out P w3 (by omega)
  have HB4 := Lib.hid (below_trans HB3.out hb4)
  have R4 := readP_any P _ _ e4 w4 rfl hr4 (by omega)
  have hsX : (strOfNums (textP P)).size ≤ 720 := by rw [strOfNums_size]; omega
  have hsY : (strOfNums (textP Q)).size ≤ 720 := by rw [strOfNums_size]; omega
  have CVQ := Lib.hid (CV.out Q); have CVR := Lib.hid (CV.out (P ++ Q))
  rw [← HXY.out] at CVR
  generalize strOfNums (textP P) = X at *
  generalize strOfNums (textP Q) = Y at *
  clear hb4 hr4 HB3 CV HXY
  go_wp2_with fail
  refine R4.mono ?_
  rintro e w5 ⟨b5, c5, rfl, k5, k5a, k5b, hb5⟩
  have HB5 := Lib.hid (below_trans HB4.out hb5)
  have K5 := Lib.hid k5
  clear R4 hcv k5 hb5 HB4
  obtain ⟨e6, w6, hcv, hb6, hr6⟩ := CVQ.out w5 (by omega)
  have HB6 := Lib.hid (below_trans HB5.out hb6)
  have R6 := readP_any Q _ _ e6 w6 rfl hr6 (by omega)
  have K6 := Lib.hid (K5.out.later hb6 K5.out.lt)
  clear hb6 hr6 HB5 K5 CVQ
  go_wp2_with fail
  refine R6.mono ?_
  rintro e w7 ⟨b7, c7, rfl, k7, k7a, k7b, hb7⟩
  have HB7 := Lib.hid (below_trans HB6.out hb7)
  have L7 := Lib.hid k7
  have K7 := Lib.hid (K6.out.later hb7 K6.out.lt)
  clear R6 hcv k7 hb7 HB6 K6
  obtain ⟨e8, w8, hcv, hb8, hr8⟩ := CVR.out w7 (by omega)
  have HB8 := Lib.hid (below_trans HB7.out hb8)
  have R8 := readP_any (P ++ Q) _ _ e8 w8 rfl hr8 (by omega)
  have K8 := Lib.hid (K7.out.later hb8 K7.out.lt)
  have L8 := Lib.hid (L7.out.later hb8 L7.out.lt)
  have q9 : ¬ (9223372036854775807 < X.size + Y.size) := by omega
  clear hb8 hr8 HB7 K7 L7 CVR
  go_wp2_with fail
  refine R8.mono ?_
  rintro e w9 ⟨b9, c9, rfl, k9, k9a, k9b, hb9⟩
  have HB9 := Lib.hid (below_trans HB8.out hb9)
  have M9 := Lib.hid k9
  have K9 := Lib.hid (K8.out.later hb9 K8.out.lt)
  have L9 := Lib.hid (L8.out.later hb9 L8.out.lt)
  clear R8 hcv k9 hb9 HB8 K8 L8
  have hcc : cntP (P ++ Q) ≤ 1440 := by have := cntP_append P Q; omega
  have HPQ : Hid ((P ++ Q).length = n0 + n1) := Lib.hid (by rw [List.length_append, HP0.out, HP1.out])
  have C1 := rulP_any P b5 c5 w9 K9.out k5a k5b (by omega)
  unfold RulP at C1
  rw [HP0.out] at C1
  go_wp2_with fail
  refine C1.mono ?_
  rintro e w10 ⟨a10, c10, rfl, x10, hb10⟩
  have HB10 := Lib.hid (below_trans HB9.out hb10)
  have X10 := Lib.hid x10
  have L10 := Lib.hid (L9.out.later hb10 L9.out.lt)
  have M10 := Lib.hid (M9.out.later hb10 M9.out.lt)
  clear C1 x10 hb10 HB9 K9 L9 M9
  have C2 := rulP_any Q b7 c7 w10 L10.out k7a k7b (by omega)
  unfold RulP at C2
  rw [HP1.out] at C2
  go_wp2_with fail
  refine C2.mono ?_
  rintro e w11 ⟨a11, c11, rfl, x11, hb11⟩
  have HB11 := Lib.hid (below_trans HB10.out hb11)
  have X11 := Lib.hid x11
  have Y11 := Lib.hid (X10.out.later hb11)
  have M11 := Lib.hid (M10.out.later hb11 M10.out.lt)
  clear C2 x11 hb11 HB10 X10 L10 M10
  have C3 := rulP_any (P ++ Q) b9 c9 w11 M11.out k9a k9b (by omega)
  unfold RulP at C3
  rw [HPQ.out] at C3
  go_wp2_with fail
  refine C3.mono ?_
  rintro e w12 ⟨a12, c12, rfl, x12, hb12⟩
  have HB12 := Lib.hid (below_trans HB11.out hb12)
  have X12 := Lib.hid x12
  have Y12 := Lib.hid (X11.out.later hb12)
  clear C3 x12 hb12 HB11 X11 Y11 M11
  have d1 := X12.out.1; have d2 := X12.out.2.1; have d3 := Y12.out.1; have d4 := Y12.out.2.1
  unfold maxLen at d2 d4
  have hPl : Hid (P.length = n0) := HP0
  have z1 : (((n0 + n1 : Nat) : Int) != (n0 : Int) + (n1 : Int)) = false := by
    rw [show ((n0 + n1 : Nat) : Int) = (n0 : Int) + (n1 : Int) by omega]; exact bne_self_eq_false _
  have z2 : ((n0 : Int) != (n0 : Int)) = false := bne_self_eq_false _
  have HSH : Hid (∀ i, i < n1 → ∃ r s, (rulesP Q 0)[i]? = some r ∧ (rulesP (P ++ Q) 0)[n0 + i]? = some s ∧ Shift (cntP P) r s) := Lib.hid fun i hi => by
    obtain ⟨r, s, h1, h2, h3⟩ := rulesP_shift (cntP P) (by omega) Q 0 i (by omega) (by rw [HP1.out]; exact hi)
    refine ⟨r, s, h1, ?_, h3⟩
    rw [rulesP_append, List.getElem?_append_right (by rw [rulesP_len, HP0.out]; omega), rulesP_len, HP0.out, Nat.add_sub_cancel_left]
    exact h2
  have z3 : ((n0 : Int) + (n1 : Int) != (n0 : Int) + (n1 : Int)) = false := bne_self_eq_false _
  have hnn : ((n0 + n1 : Nat) : Int) = (n0 : Int) + (n1 : Int) := by omega
  have HCP := Lib.hid hcP
  go_wp2_with fail
  go_loopw [70] (fun v wr => ∃ (k : Nat), v = .int .i64 k ∧ k ≤ n1 ∧ Hid (Below w12.heap.size w12 wr)) (fun v _ => n1 - (intOf v).toNat)
  case atStart => exact ⟨0, rfl, by omega, Lib.hid (Below.refl _ _)⟩
  case round =>
    obtain ⟨k, rfl, hk, hbl⟩ := hrel
    by_cases hlt : k < n1
    · have hlt' : (k : Int) < (n1 : Int) := by omega
      obtain ⟨r, s, hr, hs, hsh⟩ := HSH.out k hlt
      unfold Shift at hsh
      obtain ⟨s1, s2, s3, s4, s5, s6, s7, s8, s9⟩ := hsh
      obtain ⟨b1, rfl, hc1⟩ := (Y12.out.later hbl.out).at_rlCells hlt
      obtain ⟨b2, rfl, hc2⟩ := (X12.out.later hbl.out).at_rlCells (show n0 + k < n0 + n1 by omega)
      have x0 : wr.cell? ⟨b1, k * 7, none⟩ = some (.bool r.at_) := hc1 k 0 _ _ hr (by decide) rfl
      have x1 := hc1 k 1 _ _ hr (by decide) rfl
      have x2 := hc1 k 2 _ _ hr (by decide) rfl
      have x3 := hc1 k 3 _ _ hr (by decide) rfl
      have x4 := hc1 k 4 _ _ hr (by decide) rfl
      have x5 := hc1 k 5 _ _ hr (by decide) rfl
      have x6 := hc1 k 6 _ _ hr (by decide) rfl
      have y0 : wr.cell? ⟨b2, (n0 + k) * 7, none⟩ = some (.bool s.at_) := hc2 (n0 + k) 0 _ _ hs (by decide) rfl
      have y1 := hc2 (n0 + k) 1 _ _ hs (by decide) rfl
      have y2 := hc2 (n0 + k) 2 _ _ hs (by decide) rfl
      have y3 := hc2 (n0 + k) 3 _ _ hs (by decide) rfl
      have y4 := hc2 (n0 + k) 4 _ _ hs (by decide) rfl
      have y5 := hc2 (n0 + k) 5 _ _ hs (by decide) rfl
      have y6 := hc2 (n0 + k) 6 _ _ hs (by decide) rfl
      obtain ⟨r0, r1, r2, r3, r4, r5, r6⟩ := r
      obtain ⟨t0, t1, t2, t3, t4, t5, t6⟩ := s
      dsimp only at s1 s2 s3 s4 s5 s6 s7 s8 s9 x0 x1 x2 x3 x4 x5 x6 y0 y1 y2 y3 y4 y5 y6
      subst s1 s2 s3
      have hn0k : (n0 : Int) + (k : Int) < (n0 : Int) + (n1 : Int) := by omega
      have HB13 := Lib.hid (hbl.out.alloc hbl.out.size (.cells [.bool t0, .string t1, .int .i64 r2, .int .i64 r3, .bool r4, .int .i64 r5, .int .i64 r6].toArray 32))
      have B1 : Blk (wr.alloc (.cells [.bool t0, .string t1, .int .i64 r2, .int .i64 r3, .bool r4, .int .i64 r5, .int .i64 r6].toArray 32)) wr.heap.size [.bool t0, .string t1, .int .i64 r2, .int .i64 r3, .bool r4, .int .i64 r5, .int .i64 r6] 32 := Blk.alloc _ _
      have hcl := fun o (h : b2 < wr.heap.size) => (cell_blk (heap_alloc_old wr (.cells [.bool t0, .string t1, .int .i64 r2, .int .i64 r3, .bool r4, .int .i64 r5, .int .i64 r6].toArray 32) h) : (wr.alloc (.cells [.bool t0, .string t1, .int .i64 r2, .int .i64 r3, .bool r4, .int .i64 r5, .int .i64 r6].toArray 32)).cell? ⟨b2, o, none⟩ = wr.cell? ⟨b2, o, none⟩)
      have hb2l : b2 < wr.heap.size := World.block_lt_of_cell? _ _ y0
      have yy0 := (hcl _ hb2l).trans y0
      have yy1 := (hcl _ hb2l).trans y1
      have yy2 := (hcl _ hb2l).trans y2
      have yy3 := (hcl _ hb2l).trans y3
      have yy4 := (hcl _ hb2l).trans y4
      have yy5 := (hcl _ hb2l).trans y5
      have yy6 := (hcl _ hb2l).trans y6
      clear hc1 hc2 hr hs hcl hbl
      go_upto_region 15 with (fail)
      generalize wr.alloc (.cells [.bool t0, .string t1, .int .i64 r2, .int .i64 r3, .bool r4, .int .i64 r5, .int .i64 r6].toArray 32) = w13 at *
      generalize wr.heap.size = p1 at *
      clear x0 x1 x2 x3 x4 x5 x6 y0 y1 y2 y3 y4 y5 y6
      go_upto_region 16 with (fail)
      have HB14 := Lib.hid (HB13.out.alloc HB13.out.size (.cells [.bool t0, .string t1, .int .i64 ((r2 : Int) + (cntP P : Nat)), .int .i64 t3, .bool t4, .int .i64 t5, .int .i64 t6].toArray 32))
      have B2 : Blk (w13.alloc (.cells [.bool t0, .string t1, .int .i64 ((r2 : Int) + (cntP P : Nat)), .int .i64 t3, .bool t4, .int .i64 t5, .int .i64 t6].toArray 32)) w13.heap.size [.bool t0, .string t1, .int .i64 ((r2 : Int) + (cntP P : Nat)), .int .i64 t3, .bool t4, .int .i64 t5, .int .i64 t6] 32 := Blk.alloc _ _
      have B1' := B1.alloc_old (.cells [.bool t0, .string t1, .int .i64 ((r2 : Int) + (cntP P : Nat)), .int .i64 t3, .bool t4, .int .i64 t5, .int .i64 t6].toArray 32)
      generalize w13.alloc (.cells [.bool t0, .string t1, .int .i64 ((r2 : Int) + (cntP P : Nat)), .int .i64 t3, .bool t4, .int .i64 t5, .int .i64 t6].toArray 32) = w14 at *
      generalize w13.heap.size = p2 at *
      clear yy0 yy1 yy2 yy3 yy4 yy5 yy6 B1
      have x0 := B1'.cell 0 _ rfl
      have y0 := B2.cell 0 _ rfl
      have x1 := B1'.cell 1 _ rfl
      have y1 := B2.cell 1 _ rfl
      have x2 := B1'.cell 2 _ rfl
      have y2 := B2.cell 2 _ rfl
      have x5 := B1'.cell 5 _ rfl
      have y5 := B2.cell 5 _ rfl
      have x6 := B1'.cell 6 _ rfl
      have y6 := B2.cell 6 _ rfl
      have m0 : (t0 != t0) = false := bne_self_eq_false _
      have m1 : (t1.toList == t1.toList) = true := beq_self_eq_true _
      have m2 : ((r2 : Int) + (cntP P : Nat) != (r2 : Int) + (cntP P : Nat)) = false := bne_self_eq_false _
      have m3 : ((t6 : Int) - (t5 : Int) != (r6 : Int) - (r5 : Int)) = false := by rw [s4]; exact bne_self_eq_false _
      clear s4
      go_wp2
      go_roundw
      case rel => exact ⟨k + 1, by go_num, by omega, HB14⟩
      case measure => simp [intOf]; omega
    · have hlt' : ¬ (k : Int) < (n1 : Int) := by omega
      go_wp2
      go_ret
      exact ⟨rfl, HB12.out.trans (hbl.out.mono HB12.out.size)⟩
end
end Go.Proofs.Ytelbjnanpmdnnaa
