/- Texts of mine in one: Fpr. -/
import Derived.Test.YtcfhggdiccilaaaGreatQ36
import Derived.Test.YtcfhggdiccilaaaGreatQ34
namespace Go.Proofs.YtcfhggdiccilaaaGreat
section
open Go.RowKit
set_option linter.unusedVariables false
set_option linter.unusedSimpArgs false
theorem TryzinfoStp : (Tryz.prog.info? 81).map (fun i => (i.zero, i.size, i.bytes)) = some (some (.agg #[.int .i64 0, .slice none 0 0]), 2, 32) := by kernel_rfl
theorem TryzinfoRow : (Tryz.prog.info? 78).map (fun i => (i.zero, i.size, i.bytes)) = some (some (.agg #[.int .i64 0, .slice none 0 0, .string ⟨#[]⟩]), 3, 48) := by kernel_rfl
theorem stCells_len (x : Int × List Tm) (a : Option Addr) (n c : Nat) : (stCells x a n c).length = 2 := rfl
theorem tmCells_len (x : Tm) (a : Option Addr) (n c : Nat) : (tmCells x a n c).length = 3 := rfl
theorem tmCells_one (x : Tm) (a : Option Addr) (n c : Nat) : ∀ u ∈ tmCells x a n c, u.oneCell' = true := by
  intro u hu
  simp only [tmCells, List.mem_cons, List.not_mem_nil, or_false] at hu
  rcases hu with rfl | rfl | rfl <;> rfl
theorem stCells_one (x : Int × List Tm) (a : Option Addr) (n c : Nat) : ∀ u ∈ stCells x a n c, u.oneCell' = true := by
  intro u hu
  simp only [stCells, List.mem_cons, List.not_mem_nil, or_false] at hu
  rcases hu with rfl | rfl <;> rfl
theorem roCells_one (x : RowF) (a : Option Addr) (n c : Nat) : ∀ u ∈ roCells x a n c, u.oneCell' = true := by
  intro u hu
  simp only [roCells, List.mem_cons, List.not_mem_nil, or_false] at hu
  rcases hu with rfl | rfl | rfl <;> rfl
def RwP (p base : Nat) (N : NmV) (nm : Nm) (X : List (Option Nat)) (r : Int × PenS) (V : PV) (w : World) (e : Ending) (w' : World) : Prop :=
  ∃ V', e = .returned (.int .i64 r.1) ∧ PenAt w' p base N nm r.2 V' X ∧ PG w w' p V V'
set_option maxRecDepth 100000 in
set_option maxHeartbeats 8000000 in
theorem prow_any {d p base : Nat} {N : NmV} {nm : Nm} (hL : ListC d p base N nm) (x : List (Int × List (Flat × Lx d))) {w : World} {st : PenS} {V : PV} {X : List (Option Nat)} {xa : Option Addr} {n c : Nat} (h : PenAt w p base N nm st V X) (hx : RdX (· < p) (RdL (· < p) d w) w xa n c x) (ht : st.tot + cntX (cntL d) x ≤ 1000000) :
    Calls Tryz.prog 43 #[.pointer (some ⟨p, 0, none⟩), .agg #[.slice xa n c]] w (RwP p base N nm X (penRow (penL nm d) nm st x) V w) := by
  obtain ⟨iT, hiT, hzT⟩ := Option.map_eq_some_iff.1 TryzinfoTrm
  obtain ⟨iS, hiS, hzS⟩ := Option.map_eq_some_iff.1 TryzinfoStp
  obtain ⟨iR, hiR, hzR⟩ := Option.map_eq_some_iff.1 TryzinfoRow
  simp only [Prod.mk.injEq] at hzT hzS hzR
  have HIT := Lib.hid (And.intro hiT hzT)
  have HIS := Lib.hid (And.intro hiS hzS)
  have HIR := Lib.hid (And.intro hiR hzR)
  clear hiT hzT hiS hzS hiR hzR
  have hplt := h.blk.lt
  have hpb := h.pb
  have hbA := (Below.refl w.heap.size w).alloc (Nat.le_refl _) (.cells #[.slice xa n c] 107)
  have HBA := Lib.hid hbA
  have PA := Lib.hid (h.fresh (g := w.heap.size) hbA (Nat.le_refl _) (by simp))
  have BA := Lib.hid (show Blk (w.alloc (.cells #[.slice xa n c] 107)) w.heap.size [.slice xa n c] 107 from Blk.alloc [.slice xa n c] _)
  have hxA : RdX (· < (w.alloc (.cells #[.slice xa n c] 107)).heap.size) (RdL (· < p) d w) (w.alloc (.cells #[.slice xa n c] 107)) xa n c x := RdX.move hx (fun b hb => ⟨by show b < (w.alloc (.cells #[.slice xa n c] 107)).heap.size; simp; omega, hbA.block b (by omega)⟩) (fun _ _ _ _ h => h)
  have fP := pseudo8_any x hxA
  obtain ⟨ps, hps⟩ : ∃ ps, pseudoF x = ps := ⟨_, rfl⟩
  rw [hps] at fP
  have a0 := BA.out.cell 0 _ rfl
  have HH := Lib.hid h
  have HX := Lib.hid hx
  have HTT := Lib.hid ht
  have HL := Lib.hid hL
  have HPS := Lib.hid hps
  have HPL := Lib.hid (And.intro hplt hpb)
  have HXN := Lib.hid hx.1
  have hnm : n ≤ 140737488351232 := hx.2.2.1.2
  have HNM := Lib.hid hnm
  have hcl : x.length ≤ 1000000 := by have := penSteps_tot (nm := nm) (fun l st => penL_tot nm d l st) x st; unfold cntX at ht; omega
  have HCL := Lib.hid hcl
  clear h hx ht hL hps hplt hpb hbA hxA
  go_enter Tryz.func43, Tryz.ntmps43
  go_wp2_with (go_at_call 61; (with_reducible refine fP.mono ?_); rintro e w1 ⟨rfl, hb1⟩; have HB1 := Lib.hid (HBA.out.trans (hb1.mono HBA.out.size)); have P1 := Lib.hid (PA.out.later hb1); have B1 := Lib.hid (BA.out.later hb1 BA.out.lt); clear hb1)
  have hb2 := (Below.refl w1.heap.size w1).alloc (Nat.le_refl _) (.cells #[.int .i64 0, .slice none 0 0, .string ps] 78)
  obtain ⟨rb, hrb⟩ : ∃ rb, w1.heap.size = rb := ⟨_, rfl⟩
  obtain ⟨w2, hw2⟩ : ∃ w2, w1.alloc (.cells #[.int .i64 0, .slice none 0 0, .string ps] 78) = w2 := ⟨_, rfl⟩
  have P2 := (P1.out.fresh (g := w1.heap.size) hb2 (Nat.le_refl _) (by simp)).push
  have R2 := (show Blk (w1.alloc (.cells #[.int .i64 0, .slice none 0 0, .string ps] 78)) w1.heap.size [.int .i64 0, .slice none 0 0, .string ps] 78 from Blk.alloc [.int .i64 0, .slice none 0 0, .string ps] _)
  have B2 := B1.out.later hb2 B1.out.lt
  have hbw2 := HB1.out.trans (hb2.mono HB1.out.size)
  rw [hw2] at hb2 P2 R2 B2 hbw2
  rw [hrb] at P2 R2
  have HRB := Lib.hid (show w.heap.size ≤ rb from by rw [← hrb]; exact HB1.out.size)
  have P2 := Lib.hid P2
  have R2 := Lib.hid R2
  have B2 := Lib.hid B2
  have G2 := Lib.hid (PG.of_below (p := p) (V := V) hbw2)
  rw [hrb, hw2]
  clear hb2 hbw2 hw2 hrb
  go_loopw [6] (fun iv wr => ∃ (j : Nat) (vs : Value) (V' : PV), j ≤ n ∧ iv = .int .i64 j ∧ Hid (PenAt wr p base N nm (penSteps (penL nm d) nm st (x.take j)).2 V' (vs.ownBlock :: some rb :: some w.heap.size :: X)) ∧ Hid (RowK 81 2 stCells RSt (okE base wr (V'.own ++ vs.ownBlock :: some rb :: some w.heap.size :: X)) wr w.heap.size vs (penSteps (penL nm d) nm st (x.take j)).1) ∧ Hid (Blk wr rb [.int .i64 0, vs, .string ps] 78) ∧ Hid (Blk wr w.heap.size [.slice xa n c] 107) ∧ Hid (PG w wr p V V')) (fun iv _ => n - (intOf iv).toNat)
  case atStart => exact ⟨0, .slice none 0 0, V, Nat.zero_le _, rfl, P2, Lib.hid (RowK.nil (World.ownsRow_nil _ _ _ _)), R2, B2, G2⟩
  case round =>
    obtain ⟨j, vs, V1, hj, rfl, HP, HS, HR, HB, HG⟩ := hrel
    obtain ⟨wo, hwo⟩ : ∃ wo, wo = wr := ⟨_, rfl⟩
    subst hwo
    have b0 := HB.out.cell 0 _ rfl
    have HIN := Lib.hid (fun b (hb : b < p) => HG.out.block b (by have := HPL.out.1; omega) (by omega) (fun hm => by have := (PV.own_lt HH.out hm).1; have := HPL.out.2; omega))
    have hxr : RdX (· < p) (RdL (· < p) d wo) wo xa n c x := RdX.move HX.out (fun b hb => ⟨hb, HIN.out b hb⟩) (fun _ _ _ _ h => RdL.move (fun b hb => ⟨hb, HIN.out b hb⟩) h)
    by_cases hlt : j < n
    · obtain ⟨k, hk⟩ : ∃ k, x[j]? = some k := ⟨_, List.getElem?_eq_getElem (by rw [← HXN.out]; exact hlt)⟩
      obtain ⟨b, off, rfl, hb, hk1, ka, kn, kc, hk2, hk3⟩ := hxr.at j k hk
      have HHK := Lib.hid hk
      have HK2 := Lib.hid hk2
      have HK3 := Lib.hid hk3
      have HBP := Lib.hid hb
      have hjI : (0 : Int) ≤ (j : Int) := by omega
      have hjI2 : (j : Int) < (n : Int) := by omega
      have hknm : kn ≤ 140737488351232 := hk3.2.2.1.2
      have HKN := Lib.hid hk3.1
      have hbs := (Below.refl wo.heap.size wo).alloc (Nat.le_refl _) (.cells #[.int .i64 k.1, .slice none 0 0] 81)
      have Q1 := (HP.out.fresh (g := wo.heap.size) hbs (Nat.le_refl _) (by simp)).push
      have S1 := (RowK.grows RSt_moves (g := wo.heap.size) hbs (Nat.le_refl _) HS.out).push RSt_moves
      have D1 := (show Blk (wo.alloc (.cells #[.int .i64 k.1, .slice none 0 0] 81)) wo.heap.size [.int .i64 k.1, .slice none 0 0] 81 from Blk.alloc [.int .i64 k.1, .slice none 0 0] _)
      have R1 := HR.out.later hbs HR.out.lt
      have B1 := HB.out.later hbs HB.out.lt
      have G1 := HG.out.trans (PG.of_below hbs)
      have HSB := Lib.hid (show w.heap.size ≤ wo.heap.size from HG.out.size)
      obtain ⟨sb, hsb⟩ : ∃ sb, wo.heap.size = sb := ⟨_, rfl⟩
      obtain ⟨ws, hws⟩ : ∃ ws, wo.alloc (.cells #[.int .i64 k.1, .slice none 0 0] 81) = ws := ⟨_, rfl⟩
      rw [hws] at Q1 S1 D1 R1 B1 G1 hbs
      rw [hsb] at Q1 S1 D1 HSB
      have Q1 := Lib.hid Q1
      have S1 := Lib.hid S1
      have D1 := Lib.hid D1
      have R1 := Lib.hid R1
      have B1 := Lib.hid B1
      have G1 := Lib.hid G1
      have HTJ := Lib.hid (penSteps_tot (nm := nm) (fun l st => penL_tot nm d l st) (x.take j) st)
      have HCK := Lib.hid (sum_take_succ (cntK (cntL d)) hk)
      have HST := Lib.hid (show penSteps (penL nm d) nm st (x.take (j + 1)) = ((penSteps (penL nm d) nm st (x.take j)).1 ++ [(k.1, (penTerms (penL nm d) nm (penSteps (penL nm d) nm st (x.take j)).2 k.2).1)], (penTerms (penL nm d) nm (penSteps (penL nm d) nm st (x.take j)).2 k.2).2) from by rw [take_snoc hk, penSteps_snoc])
      have HSL := Lib.hid (penSteps_len (f := penL nm d) (nm := nm) (x.take j) st)
      generalize penSteps (penL nm d) nm st (x.take j) = sj at *
      obtain ⟨steps, stj⟩ := sj
      dsimp only at Q1 S1 HTJ HST HSL
      have HWS := Lib.hid hws
      have HSE := Lib.hid hsb
      clear hk hk2 hk3 hxr hbs hb hws hsb
      go_wp2
      rw [HSE.out, HWS.out]
      clear HSE HWS
      go_loopw [8] (fun qv wr => ∃ (q : Nat) (vt : Value) (V2 : PV), q ≤ kn ∧ qv = .int .i64 q ∧ Hid (PenAt wr p base N nm (penTerms (penL nm d) nm stj (k.2.take q)).2 V2 (vt.ownBlock :: some sb :: vs.ownBlock :: some rb :: some w.heap.size :: X)) ∧ Hid (RowK 110 3 tmCells RTm (okE base wr (V2.own ++ (vt.ownBlock :: some sb :: vs.ownBlock :: some rb :: some w.heap.size :: X))) wr w.heap.size vt (penTerms (penL nm d) nm stj (k.2.take q)).1) ∧ Hid (RowK 81 2 stCells RSt (okE base wr (V2.own ++ (vt.ownBlock :: some sb :: vs.ownBlock :: some rb :: some w.heap.size :: X))) wr w.heap.size vs steps) ∧ Hid (Blk wr sb [.int .i64 k.1, vt] 81) ∧ Hid (Blk wr rb [.int .i64 0, vs, .string ps] 78) ∧ Hid (Blk wr w.heap.size [.slice (some ⟨b, off, none⟩) n c] 107) ∧ Hid (PG w wr p V V2)) (fun qv _ => kn - (intOf qv).toNat)
      case atStart => exact ⟨0, .slice none 0 0, V1, Nat.zero_le _, rfl, Q1, Lib.hid (RowK.nil (World.ownsRow_nil _ _ _ _)), S1, D1, R1, B1, G1⟩
      case round =>
        obtain ⟨q, vt, V2, hq, rfl, HQ, HT, HS2, HD2, HR2, HB2, HG2⟩ := hrel
        have b0 := HB2.out.cell 0 _ rfl
        have HIN2 := Lib.hid (fun b (hb : b < p) => HG2.out.block b (by have := HPL.out.1; omega) (by omega) (fun hm => by have := (PV.own_lt HH.out hm).1; have := HPL.out.2; omega))
        have HIR := Lib.hid (fun b (hb : b < p) => (HIN2.out b hb).trans (HIN.out b hb).symm)
        have k2 : wr.cell? ⟨b, off + j * 2 + 1, none⟩ = some (.slice ka kn kc) := (cell_sameS (HIR.out b HBP.out) _).trans HK2.out
        by_cases hlt2 : q < kn
        · obtain ⟨⟨f, l⟩, hs⟩ : ∃ s, k.2[q]? = some s := ⟨_, List.getElem?_eq_getElem (by rw [← HKN.out]; exact hlt2)⟩
          obtain ⟨b2, off2, rfl, hb2, hF, sa, sn, sc, hs10, hl, _⟩ := HK3.out.at q (f, l) hs
          obtain ⟨f0, f1, f2, f3, f4, f5, f6, f7, f8, f9⟩ := hF
          have HV : ∀ o v, wo.cell? ⟨b2, off2 + q * 11 + o, none⟩ = some v → wr.cell? ⟨b2, off2 + q * 11 + o, none⟩ = some v := fun o v h => (cell_sameS (HIR.out b2 hb2) _).trans h
          have e0 := HV 0 _ f0
          rw [Nat.add_zero] at e0
          have e1 := HV 1 _ f1
          have e2 := HV 2 _ f2
          have e3 := HV 3 _ f3
          have e4 := HV 4 _ f4
          have e5 := HV 5 _ f5
          have e6 := HV 6 _ f6
          have e7 := HV 7 _ f7
          have e8 := HV 8 _ f8
          have e9 := HV 9 _ f9
          have e10 := HV 10 _ hs10
          have hqI : (0 : Int) ≤ (q : Int) := by omega
          have hqI2 : (q : Int) < (kn : Int) := by omega
          have HTQ := Lib.hid (penTerms_tot (nm := nm) (fun l st => penL_tot nm d l st) (k.2.take q) stj)
          have HCS := Lib.hid (sum_take_succ (cntS (cntL d)) hs)
          have HTT2 := Lib.hid (show penTerms (penL nm d) nm stj (k.2.take (q + 1)) = ((penTerms (penL nm d) nm stj (k.2.take q)).1 ++ [(penTerm (penL nm d) nm (penTerms (penL nm d) nm stj (k.2.take q)).2 (f, l)).1], (penTerm (penL nm d) nm (penTerms (penL nm d) nm stj (k.2.take q)).2 (f, l)).2) from by rw [take_snoc hs, penTerms_snoc])
          have HTL := Lib.hid (penTerms_len (f := penL nm d) (nm := nm) (k.2.take q) stj)
          generalize penTerms (penL nm d) nm stj (k.2.take q) = sq at *
          obtain ⟨terms, stq⟩ := sq
          dsimp only at HQ HT HTQ HTT2 HTL
          have hbud : stq.tot + 4 + cntL d l ≤ 1000000 := by
            have h1 := HTQ.out
            have h2 := HCS.out
            have h3 := HTJ.out
            have h4 := HCK.out
            have h5 := HTT.out
            have e1 : cntS (cntL d) (f, l) = 4 + cntL d l := rfl
            have e2 : cntK (cntL d) k = 1 + (k.2.map (cntS (cntL d))).sum := rfl
            have e3 : cntX (cntL d) x = 1 + (x.map (cntK (cntL d))).sum := rfl
            omega
          have fT := pterm_any HL.out f l HQ.out (RdL.move (fun b hb => ⟨hb, HIR.out b hb⟩) hl) hbud
          have hql : terms.length ≤ 1000000 := by
            have h1 := HTL.out
            rw [List.length_take] at h1
            have h2 : q ≤ (k.2.map (cntS (cntL d))).sum := by
              have : ∀ (l : List (Flat × Lx d)), l.length ≤ (l.map (cntS (cntL d))).sum := by
                intro l
                induction l with
                | nil => exact Nat.le_refl _
                | cons a r ih => rw [List.map_cons, List.sum_cons, List.length_cons]; unfold cntS at *; omega
              have h3 := this k.2
              have h4 := HKN.out
              omega
            have h3 := HTJ.out
            have h4 := HCK.out
            have h5 := HTT.out
            have e2 : cntK (cntL d) k = 1 + (k.2.map (cntS (cntL d))).sum := rfl
            have e3 : cntX (cntL d) x = 1 + (x.map (cntK (cntL d))).sum := rfl
            omega
          have HQL := Lib.hid hql
          have HQE := Lib.hid (show terms.length = q from by have := HTL.out; rw [List.length_take] at this; have := HKN.out; omega)
          generalize penTerm (penL nm d) nm stq (f, l) = tr at *
          obtain ⟨t, st5⟩ := tr
          dsimp only at HTT2
          have fT := fT.mono (R' := fun e w' => ∃ (V' : PV) (a : Option Addr) (n c : Nat), e = .returned (.agg #[.int .i64 t.kind, .int .i64 t.num, .slice a n c]) ∧ TmsAt 5 (okE base w' (V'.own ++ (vt.ownBlock :: some sb :: vs.ownBlock :: some rb :: some w.heap.size :: X))) w' a n c t.subs ∧ PenAt w' p base N nm st5 V' (vt.ownBlock :: some sb :: vs.ownBlock :: some rb :: some w.heap.size :: X) ∧ PG wr w' p V2 V') (fun e w' h => h)
          unfold sval at fT
          obtain ⟨va, vca, hvt⟩ : ∃ va vca, vt = .slice va q vca := by
            obtain ⟨_, _, hh, _⟩ := HT.out
            rw [HQE.out] at hh
            exact own_shape hh
          subst hvt
          have hqm : q ≤ 1000000 := by rw [← HQE.out]; exact hql
          clear f0 f1 f2 f3 f4 f5 f6 f7 f8 f9 hs10 hl HV hs hbud hb2
          go_wp2_with (first
            | (go_at_call 62; (with_reducible refine fT.mono ?_); rintro e w5 ⟨V5, ta, tn, tc, rfl, hT5, hP5, hG5⟩; have hbt := (Below.refl w5.heap.size w5).alloc (Nat.le_refl _) (.cells #[.int .i64 t.kind, .int .i64 t.num, .slice ta tn tc] 110); have hbu := hbt.alloc hbt.size (.cells #[.int .i64 t.kind, .int .i64 t.num, .slice ta tn tc] 110); have P5 := Lib.hid (hP5.later hbu); have T5 := Lib.hid (tms_later hbu hT5); have TM5 := Lib.hid (RowK.later RTm_moves hbu (RowK.pg2 RTm_moves HQ.out hG5 (by simp) HT.out)); have S5 := Lib.hid (RowK.later RSt_moves hbu (RowK.pg2 RSt_moves HQ.out hG5 (by simp) HS2.out)); have D5x := Blk.pg HQ.out (by simp) hG5 HD2.out; have D5 := Lib.hid (D5x.later hbu D5x.lt); have R5x := Blk.pg HQ.out (by simp) hG5 HR2.out; have R5 := Lib.hid (R5x.later hbu R5x.lt); have B5x := Blk.pg HQ.out (by simp) hG5 HB2.out; have B5 := Lib.hid (B5x.later hbu B5x.lt); have G5 := Lib.hid ((HG2.out.trans hG5).trans (PG.of_below hbu)); have hbk := (Blk.alloc (w := w5) [.int .i64 t.kind, .int .i64 t.num, .slice ta tn tc] 110); have y0 := hbk.cell 0 _ rfl; have y1 := hbk.cell 1 _ rfl; have y2 := hbk.cell 2 _ rfl; have x1 := D5x.alloc_old (.cells #[.int .i64 t.kind, .int .i64 t.num, .slice ta tn tc] 110); have x1 := x1.cell 1 _ rfl; have U5 := Lib.hid (show Blk ((w5.alloc (.cells #[.int .i64 t.kind, .int .i64 t.num, .slice ta tn tc] 110)).alloc (.cells #[.int .i64 t.kind, .int .i64 t.num, .slice ta tn tc] 110)) (w5.heap.size + 1) [.int .i64 t.kind, .int .i64 t.num, .slice ta tn tc] 110 from by have hh : Blk ((w5.alloc (.cells #[.int .i64 t.kind, .int .i64 t.num, .slice ta tn tc] 110)).alloc (.cells #[.int .i64 t.kind, .int .i64 t.num, .slice ta tn tc] 110)) (w5.alloc (.cells #[.int .i64 t.kind, .int .i64 t.num, .slice ta tn tc] 110)).heap.size [.int .i64 t.kind, .int .i64 t.num, .slice ta tn tc] 110 := Blk.alloc [.int .i64 t.kind, .int .i64 t.num, .slice ta tn tc] _; rwa [show (w5.alloc (.cells #[.int .i64 t.kind, .int .i64 t.num, .slice ta tn tc] 110)).heap.size = w5.heap.size + 1 from by simp] at hh); have HWS5 := Lib.hid (Nat.le_trans HG2.out.size hG5.size); clear hT5 hP5 hG5 D5x R5x B5x hbk hbt hbu)
            | (at_builtin; obtain ⟨ys, hy1, hy2, hy3⟩ := TM5.out; rw [HQE.out] at hy2; refine wpList_append_row2 rfl _ _ 79 rfl w.heap.size 110 iT _ 3 40 Tryz.underlying79 HIT.out.1 HIT.out.2.1 rfl (by decide) HIT.out.2.2.1 HIT.out.2.2.2 (.slice va q vca) q _ rfl hy2 ⟨w5.heap.size + 1, 0, none⟩ 1 (tmCells t ta tn tc) rfl rfl (tmCells_one _ _ _ _) (fun jj u hu => by rw [show (⟨w5.heap.size + 1, 0, none⟩ : Addr).add jj = ⟨w5.heap.size + 1, jj, none⟩ from by simp [Addr.add]; intro hj; exact hj.symm]; exact U5.out.cell jj u hu) (by unfold maxLen; omega) (by omega) (by have := HWS5.out; simp; omega) ?_; intro v8 w8 hown8 hgr8 hv8; obtain ⟨a8, c8, rfl⟩ := own_shape hown8; have P8 := P5.out.beside hgr8 hv8 (fun b e => (owns_own hown8 e).2); have TM8 := RowK.snoc (ok' := okE base w8 (V5.own ++ ((Value.slice a8 (q + 1) c8).ownBlock :: some sb :: vs.ownBlock :: some rb :: some w.heap.size :: X))) RTm_moves hy1 hy3 T5.out (fun b hb => okE_head hgr8 hv8 hb) (by rw [HQE.out]; exact hown8); have S8 := RowK.beside RSt_moves (X' := ((Value.slice a8 (q + 1) c8).ownBlock :: some sb :: vs.ownBlock :: some rb :: some w.heap.size :: X)) (i := 0) (j := 2) P5.out rfl rfl (by omega) rfl hgr8 hv8 S5.out; have D8 := Blk.beside (i := 0) (j := 1) P5.out rfl rfl (by omega) hgr8 D5.out; have R8 := Blk.beside (i := 0) (j := 3) P5.out rfl rfl (by omega) hgr8 R5.out; have B8 := Blk.beside (i := 0) (j := 4) P5.out rfl rfl (by omega) hgr8 B5.out; have hst := grown_setCell w8 sb 1 (.slice a8 (q + 1) c8); have z1 := D8.cell 1 _ rfl; have zf := D8.frozen 1; have P9 := Lib.hid (P8.writeIn (g := sb) (by simp) hst); have TM9 := Lib.hid (RowK.beside RTm_moves (X' := ((Value.slice a8 (q + 1) c8).ownBlock :: some sb :: vs.ownBlock :: some rb :: some w.heap.size :: X)) (i := 1) (j := 0) P8 rfl rfl (by omega) rfl hst (.inl rfl) TM8); have S9 := Lib.hid (RowK.beside RSt_moves (X' := ((Value.slice a8 (q + 1) c8).ownBlock :: some sb :: vs.ownBlock :: some rb :: some w.heap.size :: X)) (i := 1) (j := 2) P8 rfl rfl (by omega) rfl hst (.inl rfl) S8); have D9 := Lib.hid (D8.setCell 1 (.slice a8 (q + 1) c8)); have R9 := Lib.hid (Blk.beside (i := 1) (j := 3) P8 rfl rfl (by omega) hst R8); have B9 := Lib.hid (Blk.beside (i := 1) (j := 4) P8 rfl rfl (by omega) hst B8); have G9 := Lib.hid ((G5.out.new hgr8 (fun g hg => (owns_own hy2 hg).1)).new hst (fun g hg => by have := Option.some.inj hg; have := HSB.out; omega)); clear hy1 hy2 hy3 hown8 hgr8 hv8 P8 TM8 S8 D8 R8 B8 hst))
          go_roundw
          case rel => exact ⟨q + 1, .slice a8 (q + 1) c8, V5, by omega, by go_num, by rw [HTT2.out]; exact P9, by rw [HTT2.out]; exact TM9, S9, D9, R9, B9, G9⟩
          case measure => simp [intOf]; omega
        · obtain rfl : q = kn := by omega
          have hqI2 : ¬ (q : Int) < (q : Int) := by omega
          have HTK := Lib.hid (show k.2.take q = k.2 from List.take_of_length_le (by rw [← HKN.out]; exact Nat.le_refl _))
          rw [HTK.out] at HQ HT
          have HTLx := Lib.hid (penTerms_len (f := penL nm d) (nm := nm) k.2 stj)
          have hql : k.2.length ≤ 1000000 := by
            have : ∀ (l : List (Flat × Lx d)), l.length ≤ (l.map (cntS (cntL d))).sum := by
              intro l
              induction l with
              | nil => exact Nat.le_refl _
              | cons a r ih => rw [List.map_cons, List.sum_cons, List.length_cons]; unfold cntS at *; omega
            have h3 := this k.2
            have h4 := HCK.out
            have h5 := HTT.out
            have e2 : cntK (cntL d) k = 1 + (k.2.map (cntS (cntL d))).sum := rfl
            have e3 : cntX (cntL d) x = 1 + (x.map (cntK (cntL d))).sum := rfl
            omega
          generalize penTerms (penL nm d) nm stj k.2 = sq at *
          obtain ⟨terms, st6⟩ := sq
          dsimp only at HQ HT HTLx HST
          have hdone := RowK.done RTm_moves tmCells_len HQ.out (by have := HTLx.out; omega) HT.out
          obtain ⟨ta, tc, hvt, hT6⟩ := hdone
          obtain ⟨m, hm⟩ : ∃ m, terms.length = m := ⟨_, rfl⟩
          rw [hm] at hvt hT6
          subst hvt
          have T6 : TmsAt 6 (okE base wr (V2.own ++ vs.ownBlock :: some rb :: some w.heap.size :: X)) wr ta m tc terms := TmsAt_moves 6 _ _ _ _ _ _ _ _ (fun b h' => ⟨⟨h'.1, h'.2.1, fun hm => h'.2.2 (by
            rcases List.mem_append.1 hm with hm | hm
            · exact List.mem_append_left _ hm
            · exact List.mem_append_right _ (List.mem_cons_of_mem _ hm))⟩, rfl⟩) hT6
          obtain ⟨sa, sca, hvs⟩ : ∃ sa sca, vs = .slice sa j sca := by
            obtain ⟨_, _, hh, _⟩ := HS2.out
            rw [show steps.length = j from by have := HSL.out; rw [List.length_take] at this; have := HXN.out; omega] at hh
            exact own_shape hh
          subst hvs
          have HSE := Lib.hid (show steps.length = j from by have := HSL.out; rw [List.length_take] at this; have := HXN.out; omega)
          have hjm : j ≤ 1000000 := by have := HCL.out; have := HXN.out; omega
          have hba := (Below.refl wr.heap.size wr).alloc (Nat.le_refl _) (.cells #[.int .i64 k.1, .slice ta m tc] 81)
          have P6 := Lib.hid (HQ.out.drop.drop.later hba)
          have S6 := Lib.hid (RowK.later RSt_moves hba ((HS2.out.drop RSt_moves).drop RSt_moves))
          have T6 := Lib.hid (show RSt _ _ ta m tc (k.1, terms) from tms_later hba T6)
          have R6 := Lib.hid (HR2.out.later hba HR2.out.lt)
          have B6 := Lib.hid (HB2.out.later hba HB2.out.lt)
          have U6 := Lib.hid (show Blk (wr.alloc (.cells #[.int .i64 k.1, .slice ta m tc] 81)) wr.heap.size [.int .i64 k.1, .slice ta m tc] 81 from Blk.alloc [.int .i64 k.1, .slice ta m tc] _)
          have G6 := Lib.hid (HG2.out.trans (PG.of_below hba))
          have HWS6 := Lib.hid HG2.out.size
          have y0 := HD2.out.cell 0 _ rfl
          have y1 := HD2.out.cell 1 _ rfl
          have x1 := HR2.out.cell 1 _ rfl
          clear hT6 hba hm hql
          go_wp2_with (at_builtin; obtain ⟨ys, hy1, hy2, hy3⟩ := S6.out; rw [HSE.out] at hy2; refine wpList_append_row2 rfl _ _ 76 rfl w.heap.size 81 iS _ 2 32 Tryz.underlying76 HIS.out.1 HIS.out.2.1 rfl (by decide) HIS.out.2.2.1 HIS.out.2.2.2 (.slice sa j sca) j _ rfl hy2 ⟨wr.heap.size, 0, none⟩ 1 (stCells (k.1, terms) ta m tc) rfl rfl (stCells_one _ _ _ _) (fun jj u hu => by rw [show (⟨wr.heap.size, 0, none⟩ : Addr).add jj = ⟨wr.heap.size, jj, none⟩ from by simp [Addr.add]; intro hj; exact hj.symm]; exact U6.out.cell jj u hu) (by unfold maxLen; omega) (by omega) (by have := HWS6.out; simp; omega) ?_; intro v8 w8 hown8 hgr8 hv8; obtain ⟨a8, c8, rfl⟩ := own_shape hown8; have P8 := P6.out.beside hgr8 hv8 (fun b e => (owns_own hown8 e).2); have S8 := RowK.snoc (ok' := okE base w8 (V2.own ++ ((Value.slice a8 (j + 1) c8).ownBlock :: some rb :: some w.heap.size :: X))) RSt_moves hy1 hy3 T6.out (fun b hb => okE_head hgr8 hv8 hb) (by rw [HSE.out]; exact hown8); have R8 := Blk.beside (i := 0) (j := 1) P6.out rfl rfl (by omega) hgr8 R6.out; have B8 := Blk.beside (i := 0) (j := 2) P6.out rfl rfl (by omega) hgr8 B6.out; have hst := grown_setCell w8 rb 1 (.slice a8 (j + 1) c8); have z1 := R8.cell 1 _ rfl; have zf := R8.frozen 1; have P9 := Lib.hid (P8.writeIn (g := rb) (by simp) hst); have S9 := Lib.hid (RowK.beside RSt_moves (X' := ((Value.slice a8 (j + 1) c8).ownBlock :: some rb :: some w.heap.size :: X)) (i := 1) (j := 0) P8 rfl rfl (by omega) rfl hst (.inl rfl) S8); have R9 := Lib.hid (R8.setCell 1 (.slice a8 (j + 1) c8)); have B9 := Lib.hid (Blk.beside (i := 1) (j := 2) P8 rfl rfl (by omega) hst B8); have G9 := Lib.hid ((G6.out.new hgr8 (fun g hg => (owns_own hy2 hg).1)).new hst (fun g hg => by have := Option.some.inj hg; have := HRB.out; omega)); clear hy1 hy2 hy3 hown8 hgr8 hv8 P8 S8 R8 B8 hst)
          go_roundw
          case rel => exact ⟨j + 1, .slice a8 (j + 1) c8, V2, by omega, by go_num, by rw [HST.out]; exact P9, by rw [HST.out]; exact S9, R9, B9, G9⟩
          case measure => simp [intOf]; omega
    · obtain rfl : j = n := by omega
      have hjI2 : ¬ (j : Int) < (j : Int) := by omega
      have HTK := Lib.hid (show x.take j = x from List.take_of_length_le (by rw [← HXN.out]; exact Nat.le_refl _))
      rw [HTK.out] at HP HS
      have HSL := Lib.hid (penSteps_len (f := penL nm d) (nm := nm) x st)
      have HTO := Lib.hid (penSteps_tot (nm := nm) (fun l st => penL_tot nm d l st) x st)
      have hpr : penRow (penL nm d) nm st x = (let q := penSteps (penL nm d) nm st x; (((q.2.rows.length : Nat) : Int), ({ q.2 with rows := q.2.rows ++ [⟨q.2.steps, q.1, pseudoF x⟩], steps := q.2.steps + x.length } : PenS))) := rfl
      generalize penSteps (penL nm d) nm st x = sq at *
      obtain ⟨steps, st6⟩ := sq
      dsimp only at HP HS HSL HTO hpr
      have HPR := Lib.hid hpr
      clear hpr
      have hdone := RowK.done RSt_moves stCells_len HP.out (by have := HSL.out; have := HCL.out; omega) HS.out
      obtain ⟨sa, sca, hvs, hS6⟩ := hdone
      rw [show steps.length = j from by have := HSL.out; have := HXN.out; omega] at hvs hS6
      subst hvs
      have htot : st6.tot + j ≤ 1000000 := by
        have h1 := HTO.out
        have h2 := HTT.out
        have h3 := HXN.out
        have e3 : cntX (cntL d) x = 1 + (x.map (cntK (cntL d))).sum := rfl
        omega
      have hstp : st6.steps ≤ 1000000 := by unfold PenS.tot at htot; omega
      obtain ⟨sn, hsn⟩ : ∃ sn, st6.steps = sn := ⟨_, rfl⟩
      obtain ⟨rn, hrn⟩ : ∃ rn, st6.rows.length = rn := ⟨_, rfl⟩
      have hrnl : rn ≤ 1000000 := by rw [← hrn]; unfold PenS.tot at htot; omega
      rw [hsn] at hstp
      have hj6 : j ≤ 1000000 := by omega
      have p8 := HP.out.blk.cell 8 _ rfl
      rw [hsn] at p8
      have r0 := HR.out.cell 0 _ rfl
      have rf0 := HR.out.frozen 0
      have hg0 := grown_setCell wo rb 0 (.int .i64 (sn : Nat))
      have P10 := HP.out.writeIn (g := rb) (by simp) hg0
      have R10 := Lib.hid (HR.out.setCell 0 (.int .i64 (sn : Nat)))
      have B10 := Lib.hid (Blk.beside (i := 1) (j := 2) HP.out rfl rfl (by omega) hg0 HB.out)
      have S10 := RowK.beside RSt_moves (X' := ((Value.slice sa j sca).ownBlock :: some rb :: some w.heap.size :: X)) (i := 1) (j := 0) HP.out rfl rfl (by omega) rfl hg0 (.inl rfl) HS.out
      have G10 := HG.out.new hg0 (fun g hg => by have := Option.some.inj hg; have := HRB.out; omega)
      obtain ⟨w10, hw10⟩ : ∃ w10, wo.setCell ⟨rb, 0, none⟩ (.int .i64 (sn : Nat)) = w10 := ⟨_, rfl⟩
      rw [hw10] at P10 R10 B10 S10 G10
      have hcount := PenAt.count P10 (sn + j)
      have hcast : ((sn + j : Nat) : Int) = (sn : Int) + (j : Int) := by omega
      have S11 := RowK.pg2 RSt_moves P10 hcount.2 (by simp) S10
      have R11 := Blk.pg P10 (by simp) hcount.2 R10.out
      have B11 := Blk.pg P10 (by simp) hcount.2 B10.out
      rw [hcast] at hcount S11 R11 B11
      have hbd := (Below.refl (w10.setCell ⟨p, 8, none⟩ (.int .i64 ((sn : Int) + (j : Int)))).heap.size (w10.setCell ⟨p, 8, none⟩ (.int .i64 ((sn : Int) + (j : Int))))).drew
      have P11 := Lib.hid (hcount.1.later hbd)
      have G11 := Lib.hid ((G10.trans hcount.2).trans (PG.of_below hbd))
      have R11 := Lib.hid (R11.later hbd R11.lt)
      have B11 := Lib.hid (B11.later hbd B11.lt)
      have S11 := Lib.hid (RowK.later RSt_moves hbd S11)
      have q8 : w10.cell? ⟨p, 8, none⟩ = some (.int .i64 (sn : Nat)) := by have := P10.blk.cell 8 _ rfl; rw [hsn] at this; exact this
      have q8f : w10.frozen? ⟨p, 8, none⟩ = false := P10.blk.frozen 8
      have q8d : w10.drew.cell? ⟨p, 8, none⟩ = some (.int .i64 (sn : Nat)) := q8
      have q8fd : w10.drew.frozen? ⟨p, 8, none⟩ = false := q8f
      have b10 := B10.out.cell 0 _ rfl
      have b10d : w10.drew.cell? ⟨w.heap.size, 0, none⟩ = some (.slice xa j c) := b10
      have HSN := Lib.hid hsn
      have HRN := Lib.hid hrn
      have b0w := HB.out.cell 0 _ rfl
      clear hsn hrn P10 S10 G10 hbd hcount hg0 htot HTO hS6 hcast
      have HW10 := Lib.hid hw10
      have hsI : (sn : Int) ≤ 1000000 := by omega
      have hsI0 : (0 : Int) ≤ (sn : Int) := by omega
      have hjI6 : (j : Int) ≤ 1000000 := by omega
      have hjI0 : (0 : Int) ≤ (j : Int) := by omega
      have hw1 : wrap64 ((sn : Int) + (j : Int)) = (sn : Int) + (j : Int) := by unfold wrap64; omega
      clear hw10
      go_wp2
      rw [HW10.out]
      go_region
      all_goals
        go_wp2
        generalize hw11 : (w10.setCell ⟨p, 8, none⟩ (.int .i64 ((sn : Int) + (j : Int)))).drew = w11 at P11 G11 R11 B11 S11 ⊢
        obtain ⟨ra, rca, hvr⟩ : ∃ ra rca, V1.vr = .slice ra rn rca := by
          obtain ⟨_, _, hh, _⟩ := P11.out.rows
          rw [show ({ st6 with steps := sn + j } : PenS).rows.length = rn from HRN.out] at hh
          exact own_shape hh
        have HVR := Lib.hid hvr
        obtain ⟨sa', sca', hvs', hRS⟩ := RowK.done RSt_moves stCells_len P11.out (by have := HSL.out; have := HCL.out; omega) S11.out
        rw [show steps.length = j from by have := HSL.out; have := HXN.out; omega] at hvs' hRS
        cases hvs'
        have PD := P11.out.drop
        have hbW := ((Below.refl w11.heap.size w11).alloc (Nat.le_refl _) (.cells #[.int .i64 (sn : Nat), .slice sa j sca, .string ps] 78)).drew
        have HPq := Lib.hid (PD.later hbW)
        have HBW := Lib.hid hbW
        have p5 := P11.out.blk.cell 5 _ rfl
        have p5d : w11.drew.cell? ⟨p, 5, none⟩ = _ := p5
        have p5q : (w11.alloc (.cells #[.int .i64 (sn : Nat), .slice sa j sca, .string ps] 78)).cell? ⟨p, 5, none⟩ = _ := HPq.out.blk.cell 5 _ rfl
        rw [hvr] at p5 p5d p5q
        have r0 := R11.out.cell 0 _ rfl
        have r1 := R11.out.cell 1 _ rfl
        have r2 := R11.out.cell 2 _ rfl
        have r0d : w11.drew.cell? ⟨rb, 0, none⟩ = _ := r0
        have r1d : w11.drew.cell? ⟨rb, 1, none⟩ = _ := r1
        have r2d : w11.drew.cell? ⟨rb, 2, none⟩ = _ := r2
        obtain ⟨ys, hy1, hy2, hy3⟩ := HPq.out.rows
        rw [hvr, show ({ st6 with steps := sn + j } : PenS).rows.length = rn from HRN.out] at hy2
        have HY1 := Lib.hid hy1
        have HY2 := Lib.hid hy2
        have HY3 := Lib.hid hy3
        have RQ := Lib.hid (show RRo (okE base (w11.alloc (.cells #[.int .i64 (sn : Nat), .slice sa j sca, .string ps] 78)).drew (V1.own ++ some rb :: some w.heap.size :: X)) (w11.alloc (.cells #[.int .i64 (sn : Nat), .slice sa j sca, .string ps] 78)).drew sa j sca ⟨sn, steps, ps⟩ from Rg_moves RSt_moves _ _ _ _ _ _ _ _ (fun b hb => ⟨⟨hb.1, Nat.lt_of_lt_of_le hb.2.1 hbW.size, hb.2.2⟩, hbW.block b hb.2.1⟩) hRS)
        have CQ := Lib.hid (show Blk (w11.alloc (.cells #[.int .i64 (sn : Nat), .slice sa j sca, .string ps] 78)).drew w11.heap.size [.int .i64 (sn : Nat), .slice sa j sca, .string ps] 78 from Blk.alloc (w := w11) [.int .i64 (sn : Nat), .slice sa j sca, .string ps] _)
        have HOB := Lib.hid (fun g (hg : (Value.slice ra rn rca).ownBlock = some g) => (owns_own HY2.out hg).1)
        clear hvr hbW hy1 hy2 hy3 hRS PD p5
        go_region_law (first
          | (refine step_append_row2 rfl _ _ 33 rfl base 78 iR _ 3 48 Tryz.underlying33 HIR.out.1 HIR.out.2.1 rfl (by decide) HIR.out.2.2.1 HIR.out.2.2.2 (.slice ra rn rca) rn _ rfl w11.heap.size 0 1 (roCells ⟨sn, steps, ps⟩ sa j sca) rfl rfl (roCells_one _ _ _ _) (by unfold maxLen; omega) (by omega) HY2.out (fun k u hu => by rw [Nat.zero_add]; exact CQ.out.cell k u hu) HPq.out.bw ?_
             intro v8 w8 hown8 hgr8 hv8
             obtain ⟨a8, c8, rfl⟩ := own_shape hown8
             have P8 := HPq.out.blk.kept hgr8 (fun hh => by have := HOB.out _ hh; have := HPq.out.pb; omega)
             have P8c := P8.cell 5 _ rfl
             have P8f := P8.frozen 5
             have HA := Lib.hid (PenAt.row (x := ⟨sn, steps, ps⟩) HPq.out HY1.out HY3.out RQ.out (by rw [show ({ st6 with steps := sn + j } : PenS).rows.length = rn from HRN.out]; exact hown8) (by rw [HVR.out]; exact hgr8) (by rw [HVR.out]; exact hv8))
             have P9c := HA.out.1.blk.cell 5 _ rfl
             clear hown8 hgr8 hv8 P8))
        all_goals
          go_wp2
          refine bodyPost_ret (v := .int .i64 (rn : Nat)) (by simp [results, Tryz.results43, go_sem]) rfl ?_
          rw [HPR.out]
          refine ⟨_, by rw [HRN.out], ?_, ((G11.out.trans (PG.of_below HBW.out)).trans HA.out.2)⟩
          have hh := HA.out.1.drop.drop
          rw [← HPS.out, ← HSN.out, show j = x.length from HXN.out] at hh
          exact hh
end
end Go.Proofs.YtcfhggdiccilaaaGreat
