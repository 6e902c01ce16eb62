/- Texts of mine in one: Ec8. -/
import Derived.Test.YtcfhggdiccilaaaGreatQ19
namespace Go.Proofs.YtcfhggdiccilaaaGreat
section
open Go.RowKit
set_option linter.unusedVariables false
set_option linter.unusedSimpArgs false
def RightV (nm : Nm) (N : NmV) (d : Nat) (l : Lx d) : Prop := ∀ (outer : Bool) (a : Option Addr) (n c : Nat) (w : World), NmAt (· < w.heap.size) w N nm → RdL (· < w.heap.size) d w a n c l → Calls Tryz.prog 42 #[.slice a n c, nmV nm N, .bool outer] w (Told (.bool (rightL nm d outer l)) w)
set_option maxRecDepth 100000 in
set_option maxHeartbeats 8000000 in
theorem right_step {nm : Nm} {N : NmV} (d : Nat) (xs : List (List (Int × List (Flat × Lx d)))) (IH : ∀ s ∈ simplesL xs, RightV nm N d s.2) (outer : Bool) (a : Option Addr) (n c : Nat) (w : World) (hN : NmAt (· < w.heap.size) w N nm) (hx : RdL (· < w.heap.size) (d + 1) w a n c xs) :
    Calls Tryz.prog 42 #[.slice a n c, nmV nm N, .bool outer] w (Told (.bool (rightL nm (d + 1) outer xs)) w) := by
  have hx : RsOf (· < w.heap.size) 1 (ComplexAt (· < w.heap.size) (RdL (· < w.heap.size) d w) w) a n c xs := hx
  obtain ⟨R, hRR⟩ : ∃ R, rightL nm (d + 1) outer xs = R := ⟨_, rfl⟩
  rw [hRR]
  have HR := Lib.hid (show (List.all xs (rightX nm outer (lenE d) (rightL nm d false)) && decide (0 < List.length xs)) = R from hRR)
  have HX := Lib.hid hx
  have HXN := Lib.hid hx.1
  have hnm : n ≤ 140737488351232 := hx.2.2.1.2
  have HN := Lib.hid hN
  have HIH := Lib.hid IH
  have HB0 := Lib.hid ((Below.refl w.heap.size w).alloc (Nat.le_refl _) (.cells #[.bool nm.hd, .string nm.df, .slice N.pa N.pn N.pc, .slice N.sa N.sn N.sc] 25))
  have D0 := Lib.hid (show Blk (w.alloc (.cells #[.bool nm.hd, .string nm.df, .slice N.pa N.pn N.pc, .slice N.sa N.sn N.sc] 25)) w.heap.size [.bool nm.hd, .string nm.df, .slice N.pa N.pn N.pc, .slice N.sa N.sn N.sc] 25 from Blk.alloc [.bool nm.hd, .string nm.df, .slice N.pa N.pn N.pc, .slice N.sa N.sn N.sc] _)
  have HFX := Lib.hid (fun (cx : List (Int × List (Flat × Lx d))) (hm : cx ∈ xs) (hf : rightX nm outer (lenE d) (rightL nm d false) cx = false) => show R = false from by rw [← HR.out, xAll_false hm hf, Bool.false_and])
  clear hx hN IH hRR
  unfold nmV
  go_enter Tryz.func42, Tryz.ntmps42
  go_wp2
  go_loopw [7] (fun iv wr => ∃ i : Nat, i ≤ n ∧ iv = .int .i64 i ∧ Hid ((xs.take i).all (rightX nm outer (lenE d) (rightL nm d false)) = true) ∧ Hid (Below w.heap.size w wr) ∧ Hid (Blk wr w.heap.size [.bool nm.hd, .string nm.df, .slice N.pa N.pn N.pc, .slice N.sa N.sn N.sc] 25)) (fun iv _ => n - (intOf iv).toNat)
  case atStart => exact ⟨0, Nat.zero_le _, rfl, Lib.hid rfl, HB0, D0⟩
  case round =>
    obtain ⟨i, hi, rfl, HA, HB, HD⟩ := hrel
    obtain ⟨wo, hwo⟩ : ∃ wo, wo = wr := ⟨_, rfl⟩
    subst hwo
    by_cases hlt : i < n
    · obtain ⟨cx, hcx⟩ : ∃ cx, xs[i]? = some cx := ⟨_, List.getElem?_eq_getElem (by rw [← HXN.out]; exact hlt)⟩
      obtain ⟨b, off, rfl, hb, ka, kn, kc, hk1, hk2⟩ := HX.out.at i cx hcx
      rw [Nat.mul_one] at hk1
      have u0 : wo.cell? ⟨b, off + i, none⟩ = some (.slice ka kn kc) := (HB.out.cell (p := ⟨b, off + i, none⟩) hb).trans hk1
      have hiI : (0 : Int) ≤ (i : Int) := by omega
      have hiI2 : (i : Int) < (n : Int) := by omega
      have hknm : kn ≤ 140737488351232 := hk2.2.2.1.2
      have HKN := Lib.hid (show kn = cx.length from hk2.1)
      have HK2 := Lib.hid hk2
      have HMX := Lib.hid (List.mem_of_getElem? hcx)
      have HTX := Lib.hid (xAll_take (f := rightX nm outer (lenE d) (rightL nm d false)) hcx)
      have HFK := Lib.hid (fun (k : Nat) (hk : k < cx.length) (hf : rightK nm outer (lenE d) (rightL nm d false) cx k = false) => HFX.out cx HMX.out (by unfold rightX; rw [rAll_false hf hk, Bool.false_and]))
      clear hk1 hk2 hcx hb
      go_wp2
      go_loopw [9] (fun kv wr => ∃ k : Nat, k ≤ kn ∧ kv = .int .i64 k ∧ Hid ((List.range k).all (rightK nm outer (lenE d) (rightL nm d false) cx) = true) ∧ Hid (Below w.heap.size w wr) ∧ Hid (Blk wr w.heap.size [.bool nm.hd, .string nm.df, .slice N.pa N.pn N.pc, .slice N.sa N.sn N.sc] 25)) (fun kv _ => kn - (intOf kv).toNat)
      case atStart => exact ⟨0, Nat.zero_le _, rfl, Lib.hid rfl, HB, HD⟩
      case round =>
        obtain ⟨k, hk, rfl, HA2, HB2, HD2⟩ := hrel
        obtain ⟨wk, hwk⟩ : ∃ wk, wk = wr := ⟨_, rfl⟩
        subst hwk
        by_cases hlt2 : k < kn
        · obtain ⟨⟨cc, ys⟩, hkk⟩ : ∃ kk, cx[k]? = some kk := ⟨_, List.getElem?_eq_getElem (by rw [← HKN.out]; exact hlt2)⟩
          obtain ⟨b2, off2, rfl, hb2, hc0, ya, yn, yc, hc1, hys⟩ := HK2.out.at k _ hkk
          have v0 : wk.cell? ⟨b2, off2 + k * 2, none⟩ = some (.int .i64 cc) := (HB2.out.cell (p := ⟨b2, off2 + k * 2, none⟩) hb2).trans hc0
          have v1 : wk.cell? ⟨b2, off2 + k * 2 + 1, none⟩ = some (.slice ya yn yc) := (HB2.out.cell (p := ⟨b2, off2 + k * 2 + 1, none⟩) hb2).trans hc1
          have HV0 := Lib.hid hc0
          have HV1 := Lib.hid hc1
          have HB2L := Lib.hid (show b2 < w.heap.size from hb2)
          have hkI : (0 : Int) ≤ (k : Int) := by omega
          have hkI2 : (k : Int) < (kn : Int) := by omega
          have hynm : yn ≤ 140737488351232 := hys.2.2.1.2
          have HYN := Lib.hid (show yn = ys.length from hys.1)
          have HMK := Lib.hid (List.mem_of_getElem? hkk)
          have HYS := Lib.hid hys
          have HRK := Lib.hid (show rightK nm outer (lenE d) (rightL nm d false) cx k = (combOk cc k ys.length && (List.range ys.length).all (rightM nm outer (lenE d) (rightL nm d false) (k + 1 == cx.length) ys)) from by unfold rightK; rw [hkk])
          have HFC := Lib.hid (fun (hf : combOk cc k ys.length = false) => HFK.out k (by rw [← HKN.out]; exact hlt2) (by rw [HRK.out, hf, Bool.false_and]))
          have HFM := Lib.hid (fun (m : Nat) (hm : m < ys.length) (hf : rightM nm outer (lenE d) (rightL nm d false) (k + 1 == cx.length) ys m = false) => HFK.out k (by rw [← HKN.out]; exact hlt2) (by rw [HRK.out, rAll_false hf hm, Bool.and_false]))
          clear hc0 hc1 hkk hys hb2
          by_cases h1 : cc < 0
          · obtain rfl : R = false := HFC.out (by unfold combOk; rw [decide_eq_true h1]; rfl)
            have q1 : decide (cc < 0) = true := decide_eq_true h1
            go_wp2
            go_ret
            exact ⟨rfl, HB2.out⟩
          have q1 : decide (cc < 0) = false := decide_eq_false h1
          by_cases h2 : 4 < cc
          · obtain rfl : R = false := HFC.out (by unfold combOk; rw [decide_eq_true h2]; simp)
            have q2 : decide (4 < cc) = true := decide_eq_true h2
            go_wp2
            go_ret
            exact ⟨rfl, HB2.out⟩
          have q2 : decide (4 < cc) = false := decide_eq_false h2
          have qk : ((k : Int) == 0) = (k == 0) := by rw [Bool.eq_iff_iff]; simp only [beq_iff_eq]; omega
          by_cases h3 : ((cc == 0) != (k == 0)) = true
          · obtain rfl : R = false := HFC.out (by unfold combOk; rw [h3]; simp)
            have q3 : ((cc == 0) != ((k : Int) == 0)) = true := by rw [qk]; exact h3
            clear qk
            cases hcz : (cc == 0) <;> cases hkz : ((k : Int) == 0)
            all_goals
              rw [hcz, hkz] at q3
              first
                | (exact absurd q3 (by decide))
                | skip
            all_goals
              go_wp2
              go_ret
              exact ⟨rfl, HB2.out⟩
          have h3 : ((cc == 0) != (k == 0)) = false := Bool.eq_false_iff.2 h3
          have q3 : ((cc == 0) != ((k : Int) == 0)) = false := by rw [qk]; exact h3
          by_cases h4 : yn = 0
          · obtain rfl : R = false := HFC.out (by unfold combOk; rw [← HYN.out, h4]; simp)
            subst h4
            clear qk
            cases hcz : (cc == 0) <;> cases hkz : ((k : Int) == 0)
            all_goals
              rw [hcz, hkz] at q3
              first
                | (exact absurd q3 (by decide))
                | skip
            all_goals
              go_wp2
              go_ret
              exact ⟨rfl, HB2.out⟩
          have q4 : ((yn : Int) == 0) = false := beq_eq_false_iff_ne.2 (by omega)
          have HCO := Lib.hid (show combOk cc k ys.length = true from by
            unfold combOk
            rw [decide_eq_false h1, decide_eq_false h2, h3, show (ys.length == 0) = false from beq_eq_false_iff_ne.2 (by rw [← HYN.out]; exact h4)]; rfl)
          clear qk h3
          obtain ⟨z, hkz⟩ : ∃ z, ((k : Int) == 0) = z := ⟨_, rfl⟩
          have hcz : (cc == 0) = z := by
            rw [hkz] at q3
            cases hq : (cc == 0) <;> cases z <;> first | rfl | (rw [hq] at q3; exact absurd q3 (by decide))
          have hzz : (z != z) = false := by cases z <;> rfl
          clear q3
          · go_wp2
            clear hcz hkz hzz
            go_loopw [10] (fun mv wr => ∃ m : Nat, m ≤ yn ∧ mv = .int .i64 m ∧ Hid ((List.range m).all (rightM nm outer (lenE d) (rightL nm d false) (k + 1 == cx.length) ys) = true) ∧ Hid (Below w.heap.size w wr) ∧ Hid (Blk wr w.heap.size [.bool nm.hd, .string nm.df, .slice N.pa N.pn N.pc, .slice N.sa N.sn N.sc] 25)) (fun mv _ => yn - (intOf mv).toNat)
            case atStart => exact ⟨0, Nat.zero_le _, rfl, Lib.hid rfl, HB2, HD2⟩
            case round =>
              obtain ⟨m, hm, rfl, HA3, HB3, HD3⟩ := hrel
              have v0 : wr.cell? ⟨b2, off2 + k * 2, none⟩ = some (.int .i64 cc) := (HB3.out.cell (p := ⟨b2, off2 + k * 2, none⟩) HB2L.out).trans HV0.out
              have v1 : wr.cell? ⟨b2, off2 + k * 2 + 1, none⟩ = some (.slice ya yn yc) := (HB3.out.cell (p := ⟨b2, off2 + k * 2 + 1, none⟩) HB2L.out).trans HV1.out
              by_cases hlt3 : m < yn
              · obtain ⟨⟨f, l⟩, hs⟩ : ∃ s, ys[m]? = some s := ⟨_, List.getElem?_eq_getElem (by rw [← HYN.out]; exact hlt3)⟩
                obtain ⟨b3, off3, rfl, hb3, hF, sa, sn, sc, hs10, hl, hfok⟩ := HYS.out.at m (f, l) hs
                obtain ⟨f0, f1, f2, f3, f4, f5, f6, f7, f8, f9⟩ := hF
                have HV : ∀ o v, w.cell? ⟨b3, off3 + m * 11 + o, none⟩ = some v → wr.cell? ⟨b3, off3 + m * 11 + o, none⟩ = some v := fun o v h => (HB3.out.cell (p := ⟨b3, off3 + m * 11 + o, none⟩) hb3).trans h
                have e0 := HV 0 _ f0
                rw [Nat.add_zero] at e0
                have e1 := HV 1 _ f1
                have e2 := HV 2 _ f2
                have e3 := HV 3 _ f3
                have e4 := HV 4 _ f4
                have e5 := HV 5 _ f5
                have e6 := HV 6 _ f6
                have e7 := HV 7 _ f7
                have e8 := HV 8 _ f8
                have e9 := HV 9 _ f9
                have e10 := HV 10 _ hs10
                have hmI : (0 : Int) ≤ (m : Int) := by omega
                have hmI2 : (m : Int) < (yn : Int) := by omega
                have hbs := HB3.out.alloc HB3.out.size (.cells #[.int .i64 f.kind, .int .i64 f.ns, .string f.pre, .string f.name, .int .i64 f.op, .string f.text, .bool f.fold, .int .i64 f.mark, .int .i64 f.a, .int .i64 f.b, .slice sa sn sc] 118)
                have v1a := (hbs.cell (p := ⟨b2, off2 + k * 2 + 1, none⟩) HB2L.out).trans HV1.out
                have HB5 := Lib.hid hbs
                have S5 := Lib.hid (show Blk (wr.alloc (.cells #[.int .i64 f.kind, .int .i64 f.ns, .string f.pre, .string f.name, .int .i64 f.op, .string f.text, .bool f.fold, .int .i64 f.mark, .int .i64 f.a, .int .i64 f.b, .slice sa sn sc] 118)) wr.heap.size [.int .i64 f.kind, .int .i64 f.ns, .string f.pre, .string f.name, .int .i64 f.op, .string f.text, .bool f.fold, .int .i64 f.mark, .int .i64 f.a, .int .i64 f.b, .slice sa sn sc] 118 from Blk.alloc [.int .i64 f.kind, .int .i64 f.ns, .string f.pre, .string f.name, .int .i64 f.op, .string f.text, .bool f.fold, .int .i64 f.mark, .int .i64 f.a, .int .i64 f.b, .slice sa sn sc] _)
                have D5 := Lib.hid (HD3.out.alloc_old (.cells #[.int .i64 f.kind, .int .i64 f.ns, .string f.pre, .string f.name, .int .i64 f.op, .string f.text, .bool f.fold, .int .i64 f.mark, .int .i64 f.a, .int .i64 f.b, .slice sa sn sc] 118))
                have c0 := D5.out.cell 0 _ rfl
                have c1 := D5.out.cell 1 _ rfl
                have c2 := D5.out.cell 2 _ rfl
                have c3 := D5.out.cell 3 _ rfl
                have hln := RdL.lenE hl
                have hmem : (f, l) ∈ simplesL xs := List.mem_flatMap.2 ⟨cx, HMX.out, List.mem_flatMap.2 ⟨(cc, ys), HMK.out, List.mem_of_getElem? hs⟩⟩
                have fS := simp8_any (w := wr.alloc (.cells #[.int .i64 f.kind, .int .i64 f.ns, .string f.pre, .string f.name, .int .i64 f.op, .string f.text, .bool f.fold, .int .i64 f.mark, .int .i64 f.a, .int .i64 f.b, .slice sa sn sc] 118)) (HN.out.move (fun b hb => ⟨Nat.lt_of_lt_of_le hb hbs.size, hbs.block b hb⟩)) f sa sn sc hln.2 hfok (rightL nm d false l) (fun w' hb' => HIH.out (f, l) hmem false sa sn sc w' (HN.out.move (fun b hb => ⟨Nat.lt_of_lt_of_le hb (Nat.le_trans hbs.size hb'.size), ((hbs.trans (hb'.mono hbs.size)).block b hb)⟩)) (RdL.move (fun b hb => ⟨Nat.lt_of_lt_of_le hb (Nat.le_trans hbs.size hb'.size), ((hbs.trans (hb'.mono hbs.size)).block b hb)⟩) hl))
                unfold sval nmV at fS
                have hrm : rightM nm outer (lenE d) (rightL nm d false) (k + 1 == cx.length) ys m = sOk nm outer ((k + 1 == cx.length) && (m + 1 == ys.length)) m f (decide (0 < sn)) (rightL nm d false l) := by unfold rightM; rw [hs]; dsimp only; rw [← hln.1]
                unfold sOk at hrm
                have qk1 : ((k : Int) == (kn : Int) - 1) = (k + 1 == cx.length) := by rw [← HKN.out, Bool.eq_iff_iff]; simp only [beq_iff_eq]; omega
                have qm1 : ((m : Int) == (yn : Int) - 1) = (m + 1 == ys.length) := by rw [← HYN.out, Bool.eq_iff_iff]; simp only [beq_iff_eq]; omega
                have qm0 : decide ((0 : Int) < (m : Int)) = decide (0 < m) := by rw [Bool.eq_iff_iff]; simp only [decide_eq_true_iff]; omega
                have HGOOD := Lib.hid (fun (hg : rightM nm outer (lenE d) (rightL nm d false) (k + 1 == cx.length) ys m = true) => show (List.range (m + 1)).all (rightM nm outer (lenE d) (rightL nm d false) (k + 1 == cx.length) ys) = true from by rw [rAll_succ, HA3.out, hg]; rfl)
                have HFAIL := Lib.hid (fun (hf : rightM nm outer (lenE d) (rightL nm d false) (k + 1 == cx.length) ys m = false) => HFM.out m (by rw [← HYN.out]; exact hlt3) hf)
                rw [hrm] at HGOOD HFAIL
                clear f0 f1 f2 f3 f4 f5 f6 f7 f8 f9 hs10 hl HV hs hln hrm hbs hb3 hfok
                generalize simpB nm f (decide (0 < sn)) (rightL nm d false l) = sB at *
                generalize hm0 : decide (0 < m) = a1 at *
                obtain ⟨kind, ns, pre, name, op, text, fold, mark, fa, fb⟩ := f
                dsimp only at *
                generalize hk1 : (kind == 1) = a2 at *
                generalize hk2' : (kind == 2) = a3 at *
                generalize hk13 : (kind == 13) = a4 at *
                generalize (k + 1 == cx.length) = lk at *
                generalize (m + 1 == ys.length) = lm at *
                cases lk with
                | false =>
                  cases sB with
                  | false =>
                    obtain rfl : R = false := HFAIL.out (by first | rfl | simp)
                    go_wp2_with (go_at_call 60; (with_reducible refine fS.mono ?_); rintro e w6 ⟨rfl, hb6⟩; have H6 := Lib.hid (HB5.out.trans (hb6.mono HB5.out.size)); have D6 := Lib.hid (D5.out.later hb6 D5.out.lt); have S6 := S5.out.later hb6 S5.out.lt; have g0 := S6.cell 0 _ rfl; clear hb6 S6)
                    all_goals
                      go_ret
                      exact ⟨rfl, H6.out⟩
                  | true =>
                    cases a1 with
                    | true =>
                      have hmp : 0 < m := of_decide_eq_true hm0
                      have hmpI : (0 : Int) < (m : Int) := by omega
                      cases a2 with
                      | true =>
                        obtain rfl : R = false := HFAIL.out (by first | rfl | simp)
                        go_wp2_with (go_at_call 60; (with_reducible refine fS.mono ?_); rintro e w6 ⟨rfl, hb6⟩; have H6 := Lib.hid (HB5.out.trans (hb6.mono HB5.out.size)); have D6 := Lib.hid (D5.out.later hb6 D5.out.lt); have S6 := S5.out.later hb6 S5.out.lt; have g0 := S6.cell 0 _ rfl; clear hb6 S6)
                        all_goals
                          go_ret
                          exact ⟨rfl, H6.out⟩
                      | false =>
                        cases a3 with
                        | true =>
                          obtain rfl : R = false := HFAIL.out (by first | rfl | simp)
                          go_wp2_with (go_at_call 60; (with_reducible refine fS.mono ?_); rintro e w6 ⟨rfl, hb6⟩; have H6 := Lib.hid (HB5.out.trans (hb6.mono HB5.out.size)); have D6 := Lib.hid (D5.out.later hb6 D5.out.lt); have S6 := S5.out.later hb6 S5.out.lt; have g0 := S6.cell 0 _ rfl; clear hb6 S6)
                          all_goals
                            go_ret
                            exact ⟨rfl, H6.out⟩
                        | false =>
                          cases a4 with
                          | false =>
                            have HOK := Lib.hid (HGOOD.out (by first | rfl | simp))
                            go_wp2_with (go_at_call 60; (with_reducible refine fS.mono ?_); rintro e w6 ⟨rfl, hb6⟩; have H6 := Lib.hid (HB5.out.trans (hb6.mono HB5.out.size)); have D6 := Lib.hid (D5.out.later hb6 D5.out.lt); have S6 := S5.out.later hb6 S5.out.lt; have g0 := S6.cell 0 _ rfl; clear hb6 S6)
                            all_goals
                              go_roundw
                              case rel => exact ⟨m + 1, by omega, by go_num, HOK, H6, D6⟩
                              case measure => simp [intOf]; omega
                          | true =>
                            cases outer with
                            | false =>
                              obtain rfl : R = false := HFAIL.out (by first | rfl | simp)
                              go_wp2_with (go_at_call 60; (with_reducible refine fS.mono ?_); rintro e w6 ⟨rfl, hb6⟩; have H6 := Lib.hid (HB5.out.trans (hb6.mono HB5.out.size)); have D6 := Lib.hid (D5.out.later hb6 D5.out.lt); have S6 := S5.out.later hb6 S5.out.lt; have g0 := S6.cell 0 _ rfl; clear hb6 S6)
                              all_goals
                                go_ret
                                exact ⟨rfl, H6.out⟩
                            | true =>
                              obtain rfl : R = false := HFAIL.out (by first | rfl | simp)
                              go_wp2_with (go_at_call 60; (with_reducible refine fS.mono ?_); rintro e w6 ⟨rfl, hb6⟩; have H6 := Lib.hid (HB5.out.trans (hb6.mono HB5.out.size)); have D6 := Lib.hid (D5.out.later hb6 D5.out.lt); have S6 := S5.out.later hb6 S5.out.lt; have g0 := S6.cell 0 _ rfl; clear hb6 S6)
                              all_goals
                                go_ret
                                exact ⟨rfl, H6.out⟩
                    | false =>
                      have hmp : ¬ 0 < m := of_decide_eq_false hm0
                      have hmpI : ¬ (0 : Int) < (m : Int) := by omega
                      cases a4 with
                      | false =>
                        have HOK := Lib.hid (HGOOD.out (by first | rfl | simp))
                        go_wp2_with (go_at_call 60; (with_reducible refine fS.mono ?_); rintro e w6 ⟨rfl, hb6⟩; have H6 := Lib.hid (HB5.out.trans (hb6.mono HB5.out.size)); have D6 := Lib.hid (D5.out.later hb6 D5.out.lt); have S6 := S5.out.later hb6 S5.out.lt; have g0 := S6.cell 0 _ rfl; clear hb6 S6)
                        all_goals
                          go_roundw
                          case rel => exact ⟨m + 1, by omega, by go_num, HOK, H6, D6⟩
                          case measure => simp [intOf]; omega
                      | true =>
                        cases outer with
                        | false =>
                          obtain rfl : R = false := HFAIL.out (by first | rfl | simp)
                          go_wp2_with (go_at_call 60; (with_reducible refine fS.mono ?_); rintro e w6 ⟨rfl, hb6⟩; have H6 := Lib.hid (HB5.out.trans (hb6.mono HB5.out.size)); have D6 := Lib.hid (D5.out.later hb6 D5.out.lt); have S6 := S5.out.later hb6 S5.out.lt; have g0 := S6.cell 0 _ rfl; clear hb6 S6)
                          all_goals
                            go_ret
                            exact ⟨rfl, H6.out⟩
                        | true =>
                          obtain rfl : R = false := HFAIL.out (by first | rfl | simp)
                          go_wp2_with (go_at_call 60; (with_reducible refine fS.mono ?_); rintro e w6 ⟨rfl, hb6⟩; have H6 := Lib.hid (HB5.out.trans (hb6.mono HB5.out.size)); have D6 := Lib.hid (D5.out.later hb6 D5.out.lt); have S6 := S5.out.later hb6 S5.out.lt; have g0 := S6.cell 0 _ rfl; clear hb6 S6)
                          all_goals
                            go_ret
                            exact ⟨rfl, H6.out⟩
                | true =>
                  cases sB with
                  | false =>
                    obtain rfl : R = false := HFAIL.out (by first | rfl | simp)
                    go_wp2_with (go_at_call 60; (with_reducible refine fS.mono ?_); rintro e w6 ⟨rfl, hb6⟩; have H6 := Lib.hid (HB5.out.trans (hb6.mono HB5.out.size)); have D6 := Lib.hid (D5.out.later hb6 D5.out.lt); have S6 := S5.out.later hb6 S5.out.lt; have g0 := S6.cell 0 _ rfl; clear hb6 S6)
                    all_goals
                      go_ret
                      exact ⟨rfl, H6.out⟩
                  | true =>
                    cases a1 with
                    | true =>
                      have hmp : 0 < m := of_decide_eq_true hm0
                      have hmpI : (0 : Int) < (m : Int) := by omega
                      cases a2 with
                      | true =>
                        obtain rfl : R = false := HFAIL.out (by first | rfl | simp)
                        go_wp2_with (go_at_call 60; (with_reducible refine fS.mono ?_); rintro e w6 ⟨rfl, hb6⟩; have H6 := Lib.hid (HB5.out.trans (hb6.mono HB5.out.size)); have D6 := Lib.hid (D5.out.later hb6 D5.out.lt); have S6 := S5.out.later hb6 S5.out.lt; have g0 := S6.cell 0 _ rfl; clear hb6 S6)
                        all_goals
                          go_ret
                          exact ⟨rfl, H6.out⟩
                      | false =>
                        cases a3 with
                        | true =>
                          obtain rfl : R = false := HFAIL.out (by first | rfl | simp)
                          go_wp2_with (go_at_call 60; (with_reducible refine fS.mono ?_); rintro e w6 ⟨rfl, hb6⟩; have H6 := Lib.hid (HB5.out.trans (hb6.mono HB5.out.size)); have D6 := Lib.hid (D5.out.later hb6 D5.out.lt); have S6 := S5.out.later hb6 S5.out.lt; have g0 := S6.cell 0 _ rfl; clear hb6 S6)
                          all_goals
                            go_ret
                            exact ⟨rfl, H6.out⟩
                        | false =>
                          cases a4 with
                          | false =>
                            have HOK := Lib.hid (HGOOD.out (by first | rfl | simp))
                            go_wp2_with (go_at_call 60; (with_reducible refine fS.mono ?_); rintro e w6 ⟨rfl, hb6⟩; have H6 := Lib.hid (HB5.out.trans (hb6.mono HB5.out.size)); have D6 := Lib.hid (D5.out.later hb6 D5.out.lt); have S6 := S5.out.later hb6 S5.out.lt; have g0 := S6.cell 0 _ rfl; clear hb6 S6)
                            all_goals
                              go_roundw
                              case rel => exact ⟨m + 1, by omega, by go_num, HOK, H6, D6⟩
                              case measure => simp [intOf]; omega
                          | true =>
                            cases outer with
                            | false =>
                              obtain rfl : R = false := HFAIL.out (by first | rfl | simp)
                              go_wp2_with (go_at_call 60; (with_reducible refine fS.mono ?_); rintro e w6 ⟨rfl, hb6⟩; have H6 := Lib.hid (HB5.out.trans (hb6.mono HB5.out.size)); have D6 := Lib.hid (D5.out.later hb6 D5.out.lt); have S6 := S5.out.later hb6 S5.out.lt; have g0 := S6.cell 0 _ rfl; clear hb6 S6)
                              all_goals
                                go_ret
                                exact ⟨rfl, H6.out⟩
                            | true =>
                              cases lm with
                              | false =>
                                obtain rfl : R = false := HFAIL.out (by first | rfl | simp)
                                go_wp2_with (go_at_call 60; (with_reducible refine fS.mono ?_); rintro e w6 ⟨rfl, hb6⟩; have H6 := Lib.hid (HB5.out.trans (hb6.mono HB5.out.size)); have D6 := Lib.hid (D5.out.later hb6 D5.out.lt); have S6 := S5.out.later hb6 S5.out.lt; have g0 := S6.cell 0 _ rfl; clear hb6 S6)
                                all_goals
                                  go_ret
                                  exact ⟨rfl, H6.out⟩
                              | true =>
                                have HOK := Lib.hid (HGOOD.out (by first | rfl | simp))
                                go_wp2_with (go_at_call 60; (with_reducible refine fS.mono ?_); rintro e w6 ⟨rfl, hb6⟩; have H6 := Lib.hid (HB5.out.trans (hb6.mono HB5.out.size)); have D6 := Lib.hid (D5.out.later hb6 D5.out.lt); have S6 := S5.out.later hb6 S5.out.lt; have g0 := S6.cell 0 _ rfl; clear hb6 S6)
                                all_goals
                                  go_roundw
                                  case rel => exact ⟨m + 1, by omega, by go_num, HOK, H6, D6⟩
                                  case measure => simp [intOf]; omega
                    | false =>
                      have hmp : ¬ 0 < m := of_decide_eq_false hm0
                      have hmpI : ¬ (0 : Int) < (m : Int) := by omega
                      cases a4 with
                      | false =>
                        have HOK := Lib.hid (HGOOD.out (by first | rfl | simp))
                        go_wp2_with (go_at_call 60; (with_reducible refine fS.mono ?_); rintro e w6 ⟨rfl, hb6⟩; have H6 := Lib.hid (HB5.out.trans (hb6.mono HB5.out.size)); have D6 := Lib.hid (D5.out.later hb6 D5.out.lt); have S6 := S5.out.later hb6 S5.out.lt; have g0 := S6.cell 0 _ rfl; clear hb6 S6)
                        all_goals
                          go_roundw
                          case rel => exact ⟨m + 1, by omega, by go_num, HOK, H6, D6⟩
                          case measure => simp [intOf]; omega
                      | true =>
                        cases outer with
                        | false =>
                          obtain rfl : R = false := HFAIL.out (by first | rfl | simp)
                          go_wp2_with (go_at_call 60; (with_reducible refine fS.mono ?_); rintro e w6 ⟨rfl, hb6⟩; have H6 := Lib.hid (HB5.out.trans (hb6.mono HB5.out.size)); have D6 := Lib.hid (D5.out.later hb6 D5.out.lt); have S6 := S5.out.later hb6 S5.out.lt; have g0 := S6.cell 0 _ rfl; clear hb6 S6)
                          all_goals
                            go_ret
                            exact ⟨rfl, H6.out⟩
                        | true =>
                          cases lm with
                          | false =>
                            obtain rfl : R = false := HFAIL.out (by first | rfl | simp)
                            go_wp2_with (go_at_call 60; (with_reducible refine fS.mono ?_); rintro e w6 ⟨rfl, hb6⟩; have H6 := Lib.hid (HB5.out.trans (hb6.mono HB5.out.size)); have D6 := Lib.hid (D5.out.later hb6 D5.out.lt); have S6 := S5.out.later hb6 S5.out.lt; have g0 := S6.cell 0 _ rfl; clear hb6 S6)
                            all_goals
                              go_ret
                              exact ⟨rfl, H6.out⟩
                          | true =>
                            have HOK := Lib.hid (HGOOD.out (by first | rfl | simp))
                            go_wp2_with (go_at_call 60; (with_reducible refine fS.mono ?_); rintro e w6 ⟨rfl, hb6⟩; have H6 := Lib.hid (HB5.out.trans (hb6.mono HB5.out.size)); have D6 := Lib.hid (D5.out.later hb6 D5.out.lt); have S6 := S5.out.later hb6 S5.out.lt; have g0 := S6.cell 0 _ rfl; clear hb6 S6)
                            all_goals
                              go_roundw
                              case rel => exact ⟨m + 1, by omega, by go_num, HOK, H6, D6⟩
                              case measure => simp [intOf]; omega
              · obtain rfl : m = yn := by omega
                have hmI2 : ¬ (m : Int) < (m : Int) := by omega
                have HOKK := Lib.hid (show (List.range (k + 1)).all (rightK nm outer (lenE d) (rightL nm d false) cx) = true from by rw [rAll_succ, HA2.out, HRK.out, HCO.out, ← HYN.out, HA3.out]; rfl)
                go_wp2
                go_roundw
                case rel => exact ⟨k + 1, by omega, by go_num, HOKK, HB3, HD3⟩
                case measure => simp [intOf]; omega
        · obtain rfl : k = kn := by omega
          have hkI2 : ¬ (k : Int) < (k : Int) := by omega
          by_cases h0 : k = 0
          · have q0 : ((k : Int) == 0) = true := beq_iff_eq.2 (by omega)
            obtain rfl : R = false := HFX.out cx HMX.out (by unfold rightX; rw [show decide (0 < cx.length) = false from decide_eq_false (by rw [← HKN.out]; omega), Bool.and_false])
            subst h0
            go_wp2
            go_ret
            exact ⟨rfl, HB2.out⟩
          · have q0 : ((k : Int) == 0) = false := beq_eq_false_iff_ne.2 (by omega)
            have HOKX := Lib.hid (show (xs.take (i + 1)).all (rightX nm outer (lenE d) (rightL nm d false)) = true from by rw [HTX.out, HA.out]; unfold rightX; rw [← HKN.out, HA2.out, decide_eq_true (by omega)]; rfl)
            go_wp2
            go_roundw
            case rel => exact ⟨i + 1, by omega, by go_num, HOKX, HB2, HD2⟩
            case measure => simp [intOf]; omega
    · obtain rfl : i = n := by omega
      have hiI2 : ¬ (i : Int) < (i : Int) := by omega
      have HT := HA.out
      rw [List.take_of_length_le (by rw [← HXN.out]; exact Nat.le_refl _)] at HT
      have hres : R = decide (0 < i) := by rw [← HR.out, HT, Bool.true_and, HXN.out]
      subst hres
      have qn : decide ((0 : Int) < (i : Int)) = decide (0 < i) := by by_cases h : 0 < i <;> simp [h]
      go_wp2
      go_ret
      exact ⟨by first | rfl | simp, HB.out⟩
theorem rightq_any (nm : Nm) (N : NmV) : ∀ (d : Nat) (l : Lx d), RightV nm N d l
  | 0, l => fun outer a n c w hN hx => by
    obtain ⟨rfl, hc⟩ := hx
    exact right_step (d := 0) [] (fun s hs => by cases hs) outer a 0 c w hN ⟨rfl, Nat.zero_le _, ⟨hc, by omega⟩, .inl rfl⟩
  | d + 1, l => fun outer a n c w hN hx => right_step d l (fun s _ => rightq_any nm N d s.2) outer a n c w hN hx
end
end Go.Proofs.YtcfhggdiccilaaaGreat
