/- Texts of mine in one: Ec2. -/
import Derived.Test.YtcfhggdiccilaaaGreatQ13
namespace Go.Proofs.YtcfhggdiccilaaaGreat
section
open Go.RowKit
set_option linter.unusedVariables false
set_option linter.unusedSimpArgs false
theorem RsOf.take {α : Type} {ok : Nat → Prop} {sz : Nat} {P : Nat → Nat → α → Prop} {a : Option Addr} {n c : Nat} {xs : List α} (h : RsOf ok sz P a n c xs) (k : Nat) (hk : k ≤ n) : RsOf ok sz P a k c (xs.take k) := by
  obtain ⟨h1, h2, h3, h4⟩ := h
  refine ⟨by rw [List.length_take]; omega, Nat.le_trans hk h2, ⟨h3.1, by omega⟩, ?_⟩
  rcases h4 with h4 | ⟨b, off, rfl, hb, hi⟩
  · exact .inl (by rw [h4]; simp)
  · refine .inr ⟨b, off, rfl, hb, fun i x hx => hi i x ?_⟩
    rw [List.getElem?_take] at hx
    split at hx
    · exact hx
    · cases hx
def nmV (nm : Nm) (N : NmV) : Value := .agg #[.bool nm.hd, .string nm.df, .slice N.pa N.pn N.pc, .slice N.sa N.sn N.sc]
structure NmOk (nm : Nm) : Prop where
  df : nm.df.size ≤ 140737488351232
  ps : ∀ s ∈ nm.ps, s.size ≤ 140737488351232
  ss : ∀ s ∈ nm.ss, s.size ≤ 140737488351232
def namesAt (nm : Nm) (i : Nat) : Bool := match nm.ps[i]?, nm.ss[i]? with
  | some p, some s => nameS p && !hasE (nm.ps.take i) p && rightS s
  | _, _ => true
def namesTo (nm : Nm) (k : Nat) : Bool := (List.range k).all (namesAt nm)
def namesB (nm : Nm) : Bool := decide (nm.ps.length = nm.ss.length) && rightS nm.df && namesTo nm nm.ps.length
theorem namesTo_succ (nm : Nm) (k : Nat) : namesTo nm (k + 1) = (namesTo nm k && namesAt nm k) := by unfold namesTo; rw [List.range_succ, List.all_append]; simp
theorem namesTo_false {nm : Nm} {k : Nat} (h : namesAt nm k = false) : ∀ n, k < n → namesTo nm n = false
  | 0, hn => by omega
  | n + 1, hn => by
    rw [namesTo_succ]
    by_cases hk : k = n
    · subst hk; rw [h, Bool.and_false]
    · rw [namesTo_false h n (by omega), Bool.false_and]
set_option maxRecDepth 100000 in
set_option maxHeartbeats 4000000 in
theorem names8_any {nm : Nm} {N : NmV} {w : World} (h : NmAt (· < w.heap.size) w N nm) (hok : NmOk nm) :
    Calls Tryz.prog 36 #[nmV nm N] w (Told (.bool (namesB nm)) w) := by
  obtain ⟨hd, df, ps, ss⟩ := nm
  obtain ⟨pa, pn, pc, sa, sn, sc⟩ := N
  obtain ⟨hP, hS⟩ := h
  dsimp only at hP hS
  obtain ⟨R, hR⟩ : ∃ R, namesB ⟨hd, df, ps, ss⟩ = R := ⟨_, rfl⟩
  rw [hR]
  have HR := Lib.hid hR
  unfold nmV
  dsimp only
  have hpn : pn = ps.length := hP.1
  have hsn : sn = ss.length := hS.1
  have hpm : pn ≤ 140737488351232 := hP.2.2.1.2
  have hsm : sn ≤ 140737488351232 := hS.2.2.1.2
  have hb0 := (Below.refl w.heap.size w).alloc (Nat.le_refl _) (.cells #[.bool hd, .string df, .slice pa pn pc, .slice sa sn sc] 25)
  have B0 : Blk (w.alloc (.cells #[.bool hd, .string df, .slice pa pn pc, .slice sa sn sc] 25)) w.heap.size [.bool hd, .string df, .slice pa pn pc, .slice sa sn sc] 25 := Blk.alloc [.bool hd, .string df, .slice pa pn pc, .slice sa sn sc] _
  have HB0 := Lib.hid hb0
  have D0 := Lib.hid B0
  have z1 := B0.cell 1 _ rfl
  have z2 := B0.cell 2 _ rfl
  have z3 := B0.cell 3 _ rfl
  have HOK := Lib.hid hok
  have HPP := Lib.hid hP
  have HSS := Lib.hid hS
  have HPN := Lib.hid hpn
  have HSN := Lib.hid hsn
  have cR := fun w => right8_any df w hok.df
  obtain ⟨rd, hrd⟩ : ∃ rd, rightS df = rd := ⟨_, rfl⟩
  rw [hrd] at cR
  by_cases hl : pn = sn
  case neg =>
    have q : ((pn : Int) != (sn : Int)) = true := bne_iff_ne.2 (by omega)
    have hRf : R = false := by
      rw [← HR.out]; unfold namesB
      rw [show decide (ps.length = ss.length) = false from decide_eq_false (by omega), Bool.false_and, Bool.false_and]
    subst hRf
    clear hok hP hS hb0 B0 hl hpn hsn
    go_enter Tryz.func36, Tryz.ntmps36
    go_wp2
    go_ret
    exact ⟨rfl, HB0.out⟩
  have q : ((pn : Int) != (sn : Int)) = false := by simp [hl]
  have q' : ((sn : Int) != (sn : Int)) = false := by simp
  have hRd : namesB ⟨hd, df, ps, ss⟩ = (rd && namesTo ⟨hd, df, ps, ss⟩ pn) := by
    unfold namesB
    rw [show decide (ps.length = ss.length) = true from decide_eq_true (by omega), Bool.true_and, hpn]
    show (rightS df && _) = _
    rw [hrd]
  have HRD := Lib.hid hRd
  clear hok hP hS hb0 B0 hpn hsn hR hRd
  have HL := Lib.hid hl
  clear hl
  cases rd with
  | false =>
    have hRf : R = false := by rw [← HR.out, HRD.out, Bool.false_and]
    subst hRf
    go_enter Tryz.func36, Tryz.ntmps36
    go_wp2_with (go_at_call 50; (with_reducible refine (cR _).mono ?_); rintro e w2 ⟨rfl, hb2⟩)
    go_ret
    exact ⟨rfl, HB0.out.trans (hb2.mono HB0.out.size)⟩
  | true =>
    go_enter Tryz.func36, Tryz.ntmps36
    go_wp2_with (go_at_call 50; (with_reducible refine (cR _).mono ?_); rintro e w2 ⟨rfl, hb2⟩; have HB2 := Lib.hid (HB0.out.trans (hb2.mono HB0.out.size)); have D2 := Lib.hid (D0.out.later hb2 D0.out.lt); clear hb2)
    go_loopw [3] (fun i wr => ∃ j : Nat, j ≤ pn ∧ i = .int .i64 j ∧ Hid (namesTo ⟨hd, df, ps, ss⟩ j = true) ∧ Hid (Below w.heap.size w wr) ∧ Hid (Blk wr w.heap.size [.bool hd, .string df, .slice pa pn pc, .slice sa sn sc] 25)) (fun i _ => pn - (intOf i).toNat)
    case atStart => exact ⟨0, Nat.zero_le _, rfl, Lib.hid rfl, HB2, D2⟩
    case round =>
      obtain ⟨j, hj, rfl, HJ, HBr, Dr⟩ := hrel
      have c2 := Dr.out.cell 2 _ rfl
      have c3 := Dr.out.cell 3 _ rfl
      by_cases hlt : j < pn
      · obtain ⟨p, hp⟩ : ∃ p, ps[j]? = some p := ⟨_, List.getElem?_eq_getElem (by rw [← HPN.out]; exact hlt)⟩
        obtain ⟨s, hs⟩ : ∃ s, ss[j]? = some s := ⟨_, List.getElem?_eq_getElem (by rw [← HSN.out, ← HL.out]; exact hlt)⟩
        obtain ⟨bp, op, rfl, hbp, up⟩ := HPP.out.at j p hp
        obtain ⟨bs, os, rfl, hbs, us⟩ := HSS.out.at j s hs
        unfold TxtAt at up us
        rw [Nat.mul_one] at up us
        have upd : wr.drew.cell? ⟨bp, op + j, none⟩ = some (.string p) := (HBr.out.cell hbp).trans up
        have usd : wr.drew.cell? ⟨bs, os + j, none⟩ = some (.string s) := (HBr.out.cell hbs).trans us
        have c2d : wr.drew.cell? ⟨w.heap.size, 2, none⟩ = some (.slice (some ⟨bp, op, none⟩) pn pc) := c2
        have c3d : wr.drew.cell? ⟨w.heap.size, 3, none⟩ = some (.slice (some ⟨bs, os, none⟩) sn sc) := c3
        have hHs := Lib.hid (fun w' (hb : Below w.heap.size w w') => ehas_any (ps.take j) (some ⟨bp, op, none⟩) j pc p w' (· < w'.heap.size) (fun _ h => h) (RsOf.imp (HPP.out.take j hj) (fun b hb' => Nat.lt_of_lt_of_le hb' hb.size) (fun b o x hb' hx => hx.move (hb.block b hb'))))
        have cN := fun w => name8_any p w (HOK.out.ps p (List.mem_of_getElem? hp))
        have cS := fun w => right8_any s w (HOK.out.ss s (List.mem_of_getElem? hs))
        have hat : namesAt ⟨hd, df, ps, ss⟩ j = (nameS p && !hasE (ps.take j) p && rightS s) := by unfold namesAt; dsimp only; rw [hp, hs]
        have HAT := Lib.hid hat
        have hjI : (0 : Int) ≤ (j : Int) := by omega
        have hjI2 : (j : Int) < (pn : Int) := by omega
        have hjI3 : (j : Int) < (sn : Int) := by have := HL.out; omega
        have hjc : j ≤ pc := by have := HPP.out.2.1; omega
        have HUP := Lib.hid (And.intro hbp up)
        have HUS := Lib.hid (And.intro hbs us)
        clear hp hs hat
        obtain ⟨r1, hr1⟩ : ∃ r, nameS p = r := ⟨_, rfl⟩
        obtain ⟨r2, hr2⟩ : ∃ r, hasE (ps.take j) p = r := ⟨_, rfl⟩
        obtain ⟨r3, hr3⟩ : ∃ r, rightS s = r := ⟨_, rfl⟩
        rw [hr1] at cN HAT
        rw [hr2] at hHs HAT
        rw [hr3] at cS HAT
        clear hr1 hr2 hr3
        have hFalse := Lib.hid (fun (hz : namesAt ⟨hd, df, ps, ss⟩ j = false) => show R = false from by rw [← HR.out, HRD.out, namesTo_false hz pn hlt, Bool.and_false])
        cases r1 with
        | false =>
          have hRf : R = false := hFalse.out (by rw [HAT.out]; rfl)
          subst hRf
          go_wp2
          refine wp_region_any (by kernel_rfl) ?_
          change wpAny _ _ _ _ _ _ _ (World.drew _)
          refine wpAny_take (i := 0) (v := ?_) rfl (by kernel_rfl) (by kernel_rfl) (by kernel_rfl) (fun _ _ _ h => h) (Or.inl ⟨by rfl, ?_⟩) ?_
          rotate_left
          · (intro w; go_simp; try with_reducible rfl)
          refine wpAny_take (i := 2) (v := ?_) rfl (by kernel_rfl) (by kernel_rfl) (by kernel_rfl) (fun _ _ _ h => h) (Or.inl ⟨by rfl, ?_⟩) ?_
          rotate_left
          · (intro w; go_simp; try with_reducible rfl)
          refine wpAny_ready (rs := [1]) (by kernel_rfl) (by simp) ?_
          refine AllReady.cons rfl (fun K hK => ?_) AllReady.nil
          go_simp
          refine hK _ _ ?_
          clear hK K
          refine wpAny_take (i := 3) (v := ?_) rfl (by kernel_rfl) (by kernel_rfl) (by kernel_rfl) (fun _ _ _ h => h) (Or.inl ⟨by rfl, ?_⟩) ?_
          rotate_left
          · (intro w; go_simp; try with_reducible rfl)
          refine wpAny_ready (rs := [4]) (by kernel_rfl) (by simp) ?_
          refine AllReady.cons rfl (fun K hK => ?_) AllReady.nil
          go_simp
          refine hK _ _ ?_
          clear hK K
          refine wpAny_ready (rs := [5]) (by kernel_rfl) (by simp) ?_
          refine AllReady.cons rfl (fun K hK => ?_) AllReady.nil
          go_simp
          go_wp2_with (go_at_call 51; (with_reducible refine (cN _).mono ?_); rintro e w7 ⟨rfl, hb7⟩; have H7 := Lib.hid (HBr.out.drew.trans (hb7.mono HBr.out.drew.size)); have D7 := Lib.hid (Blk.later (Dr.out.drewN 1) hb7 Dr.out.lt); have c7 := D7.out.cell 2 _ rfl; have e7 := D7.out.cell 3 _ rfl; have u7 := (H7.out.cell (p := ⟨bp, op + j, none⟩) HUP.out.1).trans HUP.out.2; have v7 := (H7.out.cell (p := ⟨bs, os + j, none⟩) HUS.out.1).trans HUS.out.2; have fH := hHs.out _ H7.out)
          refine wpAny_take (i := 6) (v := ?_) rfl (by kernel_rfl) (by kernel_rfl) (by kernel_rfl) (fun _ _ _ h => h) (Or.inl ⟨by rfl, ?_⟩) ?_
          rotate_left
          · (intro w; go_simp; try with_reducible rfl)
          refine wpAny_take (i := 7) (v := ?_) rfl (by kernel_rfl) (by kernel_rfl) (by kernel_rfl) (fun _ _ _ h => h) (Or.inl ⟨by rfl, ?_⟩) ?_
          rotate_left
          · (intro w; go_simp; try with_reducible rfl)
          refine wpAny_take (i := 8) (v := undef) rfl (by kernel_rfl) (by kernel_rfl) (by kernel_rfl) (fun _ _ _ h => h) (Or.inr ⟨by kernel_rfl, rfl⟩) ?_
          refine wpAny_take (i := 9) (v := undef) rfl (by kernel_rfl) (by kernel_rfl) (by kernel_rfl) (fun _ _ _ h => h) (Or.inr ⟨by kernel_rfl, rfl⟩) ?_
          refine wpAny_take (i := 10) (v := undef) rfl (by kernel_rfl) (by kernel_rfl) (by kernel_rfl) (fun _ _ _ h => h) (Or.inr ⟨by kernel_rfl, rfl⟩) ?_
          refine wpAny_take (i := 11) (v := undef) rfl (by kernel_rfl) (by kernel_rfl) (by kernel_rfl) (fun _ _ _ h => h) (Or.inr ⟨by kernel_rfl, rfl⟩) ?_
          refine wpAny_take (i := 12) (v := undef) rfl (by kernel_rfl) (by kernel_rfl) (by kernel_rfl) (fun _ _ _ h => h) (Or.inr ⟨by kernel_rfl, rfl⟩) ?_
          refine wpAny_take (i := 13) (v := undef) rfl (by kernel_rfl) (by kernel_rfl) (by kernel_rfl) (fun _ _ _ h => h) (Or.inr ⟨by kernel_rfl, rfl⟩) ?_
          refine wpAny_take (i := 14) (v := undef) rfl (by kernel_rfl) (by kernel_rfl) (by kernel_rfl) (fun _ _ _ h => h) (Or.inr ⟨by kernel_rfl, rfl⟩) ?_
          refine wpAny_take (i := 15) (v := undef) rfl (by kernel_rfl) (by kernel_rfl) (by kernel_rfl) (fun _ _ _ h => h) (Or.inr ⟨by kernel_rfl, rfl⟩) ?_
          refine wpAny_take (i := 16) (v := undef) rfl (by kernel_rfl) (by kernel_rfl) (by kernel_rfl) (fun _ _ _ h => h) (Or.inr ⟨by kernel_rfl, rfl⟩) ?_
          refine wpAny_take (i := 17) (v := undef) rfl (by kernel_rfl) (by kernel_rfl) (by kernel_rfl) (fun _ _ _ h => h) (Or.inr ⟨by kernel_rfl, rfl⟩) ?_
          refine wpAny_take (i := 18) (v := ?_) rfl (by kernel_rfl) (by kernel_rfl) (by kernel_rfl) (fun _ _ _ h => h) (Or.inl ⟨by rfl, ?_⟩) ?_
          rotate_left
          · (intro w; go_simp; try with_reducible rfl)
          refine wpAny_take (i := 19) (v := ?_) rfl (by kernel_rfl) (by kernel_rfl) (by kernel_rfl) (fun _ _ _ h => h) (Or.inl ⟨by rfl, ?_⟩) ?_
          rotate_left
          · (intro w; go_simp; try with_reducible rfl)
          refine wpAny_take (i := 20) (v := undef) rfl (by kernel_rfl) (by kernel_rfl) (by kernel_rfl) (fun _ _ _ h => h) (Or.inr ⟨by kernel_rfl, rfl⟩) ?_
          refine wpAny_take (i := 21) (v := undef) rfl (by kernel_rfl) (by kernel_rfl) (by kernel_rfl) (fun _ _ _ h => h) (Or.inr ⟨by kernel_rfl, rfl⟩) ?_
          refine wpAny_take (i := 22) (v := undef) rfl (by kernel_rfl) (by kernel_rfl) (by kernel_rfl) (fun _ _ _ h => h) (Or.inr ⟨by kernel_rfl, rfl⟩) ?_
          refine wpAny_take (i := 23) (v := undef) rfl (by kernel_rfl) (by kernel_rfl) (by kernel_rfl) (fun _ _ _ h => h) (Or.inr ⟨by kernel_rfl, rfl⟩) ?_
          refine wpAny_take (i := 24) (v := undef) rfl (by kernel_rfl) (by kernel_rfl) (by kernel_rfl) (fun _ _ _ h => h) (Or.inr ⟨by kernel_rfl, rfl⟩) ?_
          refine wpAny_take (i := 25) (v := undef) rfl (by kernel_rfl) (by kernel_rfl) (by kernel_rfl) (fun _ _ _ h => h) (Or.inr ⟨by kernel_rfl, rfl⟩) ?_
          refine wpAny_take (i := 26) (v := undef) rfl (by kernel_rfl) (by kernel_rfl) (by kernel_rfl) (fun _ _ _ h => h) (Or.inr ⟨by kernel_rfl, rfl⟩) ?_
          refine wpAny_take (i := 27) (v := ?_) rfl (by kernel_rfl) (by kernel_rfl) (by kernel_rfl) (fun _ _ _ h => h) (Or.inl ⟨by rfl, ?_⟩) ?_
          rotate_left
          · (intro w; go_simp; try with_reducible rfl)
          refine wpAny_done (by kernel_rfl) ?_ _
          go_simp
          go_wp2
          go_ret
          exact ⟨rfl, H7.out⟩
        | true =>
          cases r2 with
          | true =>
            have hRf : R = false := hFalse.out (by rw [HAT.out]; rfl)
            subst hRf
            go_wp2
            refine wp_region_any (by kernel_rfl) ?_
            change wpAny _ _ _ _ _ _ _ (World.drew _)
            refine wpAny_take (i := 0) (v := ?_) rfl (by kernel_rfl) (by kernel_rfl) (by kernel_rfl) (fun _ _ _ h => h) (Or.inl ⟨by rfl, ?_⟩) ?_
            rotate_left
            · (intro w; go_simp; try with_reducible rfl)
            refine wpAny_take (i := 2) (v := ?_) rfl (by kernel_rfl) (by kernel_rfl) (by kernel_rfl) (fun _ _ _ h => h) (Or.inl ⟨by rfl, ?_⟩) ?_
            rotate_left
            · (intro w; go_simp; try with_reducible rfl)
            refine wpAny_ready (rs := [1]) (by kernel_rfl) (by simp) ?_
            refine AllReady.cons rfl (fun K hK => ?_) AllReady.nil
            go_simp
            refine hK _ _ ?_
            clear hK K
            refine wpAny_take (i := 3) (v := ?_) rfl (by kernel_rfl) (by kernel_rfl) (by kernel_rfl) (fun _ _ _ h => h) (Or.inl ⟨by rfl, ?_⟩) ?_
            rotate_left
            · (intro w; go_simp; try with_reducible rfl)
            refine wpAny_ready (rs := [4]) (by kernel_rfl) (by simp) ?_
            refine AllReady.cons rfl (fun K hK => ?_) AllReady.nil
            go_simp
            refine hK _ _ ?_
            clear hK K
            refine wpAny_ready (rs := [5]) (by kernel_rfl) (by simp) ?_
            refine AllReady.cons rfl (fun K hK => ?_) AllReady.nil
            go_simp
            go_wp2_with (go_at_call 51; (with_reducible refine (cN _).mono ?_); rintro e w7 ⟨rfl, hb7⟩; have H7 := Lib.hid (HBr.out.drew.trans (hb7.mono HBr.out.drew.size)); have D7 := Lib.hid (Blk.later (Dr.out.drewN 1) hb7 Dr.out.lt); have c7 := D7.out.cell 2 _ rfl; have e7 := D7.out.cell 3 _ rfl; have u7 := (H7.out.cell (p := ⟨bp, op + j, none⟩) HUP.out.1).trans HUP.out.2; have v7 := (H7.out.cell (p := ⟨bs, os + j, none⟩) HUS.out.1).trans HUS.out.2; have fH := hHs.out _ H7.out)
            refine wpAny_take (i := 6) (v := ?_) rfl (by kernel_rfl) (by kernel_rfl) (by kernel_rfl) (fun _ _ _ h => h) (Or.inl ⟨by rfl, ?_⟩) ?_
            rotate_left
            · (intro w; go_simp; try with_reducible rfl)
            refine wpAny_take (i := 7) (v := ?_) rfl (by kernel_rfl) (by kernel_rfl) (by kernel_rfl) (fun _ _ _ h => h) (Or.inl ⟨by rfl, ?_⟩) ?_
            rotate_left
            · (intro w; go_simp; try with_reducible rfl)
            refine wpAny_take (i := 8) (v := ?_) rfl (by kernel_rfl) (by kernel_rfl) (by kernel_rfl) (fun _ _ _ h => h) (Or.inl ⟨by rfl, ?_⟩) ?_
            rotate_left
            · (intro w; go_simp; try with_reducible rfl)
            refine wpAny_take (i := 10) (v := ?_) rfl (by kernel_rfl) (by kernel_rfl) (by kernel_rfl) (fun _ _ _ h => h) (Or.inl ⟨by rfl, ?_⟩) ?_
            rotate_left
            · (intro w; go_simp; try with_reducible rfl)
            refine wpAny_take (i := 12) (v := ?_) rfl (by kernel_rfl) (by kernel_rfl) (by kernel_rfl) (fun _ _ _ h => h) (Or.inl ⟨by rfl, ?_⟩) ?_
            rotate_left
            · (intro w; go_simp; try with_reducible rfl)
            refine wpAny_take (i := 14) (v := ?_) rfl (by kernel_rfl) (by kernel_rfl) (by kernel_rfl) (fun _ _ _ h => h) (Or.inl ⟨by rfl, ?_⟩) ?_
            rotate_left
            · (intro w; go_simp; try with_reducible rfl)
            refine wpAny_ready (rs := [9, 13]) (by kernel_rfl) (by simp) ?_
            refine AllReady.cons rfl (fun K hK => ?_) ?_
            · skip
              go_simp
              refine hK _ _ ?_
              clear hK K
              refine wpAny_ready (rs := [11, 13]) (by kernel_rfl) (by simp) ?_
              refine AllReady.cons rfl (fun K hK => ?_) ?_
              · skip
                go_simp
                refine hK _ _ ?_
                clear hK K
                refine wpAny_ready (rs := [13]) (by kernel_rfl) (by simp) ?_
                refine AllReady.cons rfl (fun K hK => ?_) AllReady.nil
                go_simp
                refine hK _ _ ?_
                clear hK K
                refine wpAny_take (i := 15) (v := ?_) rfl (by kernel_rfl) (by kernel_rfl) (by kernel_rfl) (fun _ _ _ h => h) (Or.inl ⟨by rfl, ?_⟩) ?_
                rotate_left
                · (intro w; go_simp; try with_reducible rfl)
                refine wpAny_ready (rs := [16]) (by kernel_rfl) (by simp) ?_
                refine AllReady.cons rfl (fun K hK => ?_) AllReady.nil
                go_simp
                refine hK _ _ ?_
                clear hK K
                refine wpAny_ready (rs := [17]) (by kernel_rfl) (by simp) ?_
                refine AllReady.cons rfl (fun K hK => ?_) AllReady.nil
                go_simp
                go_wp2_with (go_at_call 52; (with_reducible refine fH.mono ?_); rintro e w8 ⟨rfl, hb8⟩; have H8 := Lib.hid (H7.out.trans (hb8.mono H7.out.size)); have D8 := Lib.hid (D7.out.later hb8 D7.out.lt); have c8 := D8.out.cell 2 _ rfl; have e8 := D8.out.cell 3 _ rfl; have u8 := (H8.out.cell (p := ⟨bp, op + j, none⟩) HUP.out.1).trans HUP.out.2; have v8 := (H8.out.cell (p := ⟨bs, os + j, none⟩) HUS.out.1).trans HUS.out.2)
                refine wpAny_take (i := 18) (v := ?_) rfl (by kernel_rfl) (by kernel_rfl) (by kernel_rfl) (fun _ _ _ h => h) (Or.inl ⟨by rfl, ?_⟩) ?_
                rotate_left
                · (intro w; go_simp; try with_reducible rfl)
                refine wpAny_take (i := 19) (v := ?_) rfl (by kernel_rfl) (by kernel_rfl) (by kernel_rfl) (fun _ _ _ h => h) (Or.inl ⟨by rfl, ?_⟩) ?_
                rotate_left
                · (intro w; go_simp; try with_reducible rfl)
                refine wpAny_take (i := 20) (v := undef) rfl (by kernel_rfl) (by kernel_rfl) (by kernel_rfl) (fun _ _ _ h => h) (Or.inr ⟨by kernel_rfl, rfl⟩) ?_
                refine wpAny_take (i := 21) (v := undef) rfl (by kernel_rfl) (by kernel_rfl) (by kernel_rfl) (fun _ _ _ h => h) (Or.inr ⟨by kernel_rfl, rfl⟩) ?_
                refine wpAny_take (i := 22) (v := undef) rfl (by kernel_rfl) (by kernel_rfl) (by kernel_rfl) (fun _ _ _ h => h) (Or.inr ⟨by kernel_rfl, rfl⟩) ?_
                refine wpAny_take (i := 23) (v := undef) rfl (by kernel_rfl) (by kernel_rfl) (by kernel_rfl) (fun _ _ _ h => h) (Or.inr ⟨by kernel_rfl, rfl⟩) ?_
                refine wpAny_take (i := 24) (v := undef) rfl (by kernel_rfl) (by kernel_rfl) (by kernel_rfl) (fun _ _ _ h => h) (Or.inr ⟨by kernel_rfl, rfl⟩) ?_
                refine wpAny_take (i := 25) (v := undef) rfl (by kernel_rfl) (by kernel_rfl) (by kernel_rfl) (fun _ _ _ h => h) (Or.inr ⟨by kernel_rfl, rfl⟩) ?_
                refine wpAny_take (i := 26) (v := undef) rfl (by kernel_rfl) (by kernel_rfl) (by kernel_rfl) (fun _ _ _ h => h) (Or.inr ⟨by kernel_rfl, rfl⟩) ?_
                refine wpAny_take (i := 27) (v := ?_) rfl (by kernel_rfl) (by kernel_rfl) (by kernel_rfl) (fun _ _ _ h => h) (Or.inl ⟨by rfl, ?_⟩) ?_
                rotate_left
                · (intro w; go_simp; try with_reducible rfl)
                refine wpAny_done (by kernel_rfl) ?_ _
                go_simp
                go_wp2
                go_ret
                exact ⟨rfl, H8.out⟩
              refine AllReady.cons rfl (fun K hK => ?_) AllReady.nil
              go_simp
              refine hK _ _ ?_
              clear hK K
              refine wpAny_take (i := 15) (v := ?_) rfl (by kernel_rfl) (by kernel_rfl) (by kernel_rfl) (fun _ _ _ h => h) (Or.inl ⟨by rfl, ?_⟩) ?_
              rotate_left
              · (intro w; go_simp; try with_reducible rfl)
              refine wpAny_ready (rs := [11, 16]) (by kernel_rfl) (by simp) ?_
              refine AllReady.cons rfl (fun K hK => ?_) ?_
              · skip
                go_simp
                refine hK _ _ ?_
                clear hK K
                refine wpAny_ready (rs := [16]) (by kernel_rfl) (by simp) ?_
                refine AllReady.cons rfl (fun K hK => ?_) AllReady.nil
                go_simp
                refine hK _ _ ?_
                clear hK K
                refine wpAny_ready (rs := [17]) (by kernel_rfl) (by simp) ?_
                refine AllReady.cons rfl (fun K hK => ?_) AllReady.nil
                go_simp
                go_wp2_with (go_at_call 52; (with_reducible refine fH.mono ?_); rintro e w8 ⟨rfl, hb8⟩; have H8 := Lib.hid (H7.out.trans (hb8.mono H7.out.size)); have D8 := Lib.hid (D7.out.later hb8 D7.out.lt); have c8 := D8.out.cell 2 _ rfl; have e8 := D8.out.cell 3 _ rfl; have u8 := (H8.out.cell (p := ⟨bp, op + j, none⟩) HUP.out.1).trans HUP.out.2; have v8 := (H8.out.cell (p := ⟨bs, os + j, none⟩) HUS.out.1).trans HUS.out.2)
                refine wpAny_take (i := 18) (v := ?_) rfl (by kernel_rfl) (by kernel_rfl) (by kernel_rfl) (fun _ _ _ h => h) (Or.inl ⟨by rfl, ?_⟩) ?_
                rotate_left
                · (intro w; go_simp; try with_reducible rfl)
                refine wpAny_take (i := 19) (v := ?_) rfl (by kernel_rfl) (by kernel_rfl) (by kernel_rfl) (fun _ _ _ h => h) (Or.inl ⟨by rfl, ?_⟩) ?_
                rotate_left
                · (intro w; go_simp; try with_reducible rfl)
                refine wpAny_take (i := 20) (v := undef) rfl (by kernel_rfl) (by kernel_rfl) (by kernel_rfl) (fun _ _ _ h => h) (Or.inr ⟨by kernel_rfl, rfl⟩) ?_
                refine wpAny_take (i := 21) (v := undef) rfl (by kernel_rfl) (by kernel_rfl) (by kernel_rfl) (fun _ _ _ h => h) (Or.inr ⟨by kernel_rfl, rfl⟩) ?_
                refine wpAny_take (i := 22) (v := undef) rfl (by kernel_rfl) (by kernel_rfl) (by kernel_rfl) (fun _ _ _ h => h) (Or.inr ⟨by kernel_rfl, rfl⟩) ?_
                refine wpAny_take (i := 23) (v := undef) rfl (by kernel_rfl) (by kernel_rfl) (by kernel_rfl) (fun _ _ _ h => h) (Or.inr ⟨by kernel_rfl, rfl⟩) ?_
                refine wpAny_take (i := 24) (v := undef) rfl (by kernel_rfl) (by kernel_rfl) (by kernel_rfl) (fun _ _ _ h => h) (Or.inr ⟨by kernel_rfl, rfl⟩) ?_
                refine wpAny_take (i := 25) (v := undef) rfl (by kernel_rfl) (by kernel_rfl) (by kernel_rfl) (fun _ _ _ h => h) (Or.inr ⟨by kernel_rfl, rfl⟩) ?_
                refine wpAny_take (i := 26) (v := undef) rfl (by kernel_rfl) (by kernel_rfl) (by kernel_rfl) (fun _ _ _ h => h) (Or.inr ⟨by kernel_rfl, rfl⟩) ?_
                refine wpAny_take (i := 27) (v := ?_) rfl (by kernel_rfl) (by kernel_rfl) (by kernel_rfl) (fun _ _ _ h => h) (Or.inl ⟨by rfl, ?_⟩) ?_
                rotate_left
                · (intro w; go_simp; try with_reducible rfl)
                refine wpAny_done (by kernel_rfl) ?_ _
                go_simp
                go_wp2
                go_ret
                exact ⟨rfl, H8.out⟩
              refine AllReady.cons rfl (fun K hK => ?_) AllReady.nil
              go_simp
              refine hK _ _ ?_
              clear hK K
              refine wpAny_ready (rs := [11]) (by kernel_rfl) (by simp) ?_
              refine AllReady.cons rfl (fun K hK => ?_) AllReady.nil
              go_simp
              refine hK _ _ ?_
              clear hK K
              refine wpAny_ready (rs := [17]) (by kernel_rfl) (by simp) ?_
              refine AllReady.cons rfl (fun K hK => ?_) AllReady.nil
              go_simp
              go_wp2_with (go_at_call 52; (with_reducible refine fH.mono ?_); rintro e w8 ⟨rfl, hb8⟩; have H8 := Lib.hid (H7.out.trans (hb8.mono H7.out.size)); have D8 := Lib.hid (D7.out.later hb8 D7.out.lt); have c8 := D8.out.cell 2 _ rfl; have e8 := D8.out.cell 3 _ rfl; have u8 := (H8.out.cell (p := ⟨bp, op + j, none⟩) HUP.out.1).trans HUP.out.2; have v8 := (H8.out.cell (p := ⟨bs, os + j, none⟩) HUS.out.1).trans HUS.out.2)
              refine wpAny_take (i := 18) (v := ?_) rfl (by kernel_rfl) (by kernel_rfl) (by kernel_rfl) (fun _ _ _ h => h) (Or.inl ⟨by rfl, ?_⟩) ?_
              rotate_left
              · (intro w; go_simp; try with_reducible rfl)
              refine wpAny_take (i := 19) (v := ?_) rfl (by kernel_rfl) (by kernel_rfl) (by kernel_rfl) (fun _ _ _ h => h) (Or.inl ⟨by rfl, ?_⟩) ?_
              rotate_left
              · (intro w; go_simp; try with_reducible rfl)
              refine wpAny_take (i := 20) (v := undef) rfl (by kernel_rfl) (by kernel_rfl) (by kernel_rfl) (fun _ _ _ h => h) (Or.inr ⟨by kernel_rfl, rfl⟩) ?_
              refine wpAny_take (i := 21) (v := undef) rfl (by kernel_rfl) (by kernel_rfl) (by kernel_rfl) (fun _ _ _ h => h) (Or.inr ⟨by kernel_rfl, rfl⟩) ?_
              refine wpAny_take (i := 22) (v := undef) rfl (by kernel_rfl) (by kernel_rfl) (by kernel_rfl) (fun _ _ _ h => h) (Or.inr ⟨by kernel_rfl, rfl⟩) ?_
              refine wpAny_take (i := 23) (v := undef) rfl (by kernel_rfl) (by kernel_rfl) (by kernel_rfl) (fun _ _ _ h => h) (Or.inr ⟨by kernel_rfl, rfl⟩) ?_
              refine wpAny_take (i := 24) (v := undef) rfl (by kernel_rfl) (by kernel_rfl) (by kernel_rfl) (fun _ _ _ h => h) (Or.inr ⟨by kernel_rfl, rfl⟩) ?_
              refine wpAny_take (i := 25) (v := undef) rfl (by kernel_rfl) (by kernel_rfl) (by kernel_rfl) (fun _ _ _ h => h) (Or.inr ⟨by kernel_rfl, rfl⟩) ?_
              refine wpAny_take (i := 26) (v := undef) rfl (by kernel_rfl) (by kernel_rfl) (by kernel_rfl) (fun _ _ _ h => h) (Or.inr ⟨by kernel_rfl, rfl⟩) ?_
              refine wpAny_take (i := 27) (v := ?_) rfl (by kernel_rfl) (by kernel_rfl) (by kernel_rfl) (fun _ _ _ h => h) (Or.inl ⟨by rfl, ?_⟩) ?_
              rotate_left
              · (intro w; go_simp; try with_reducible rfl)
              refine wpAny_done (by kernel_rfl) ?_ _
              go_simp
              go_wp2
              go_ret
              exact ⟨rfl, H8.out⟩
            refine AllReady.cons rfl (fun K hK => ?_) AllReady.nil
            go_simp
            refine hK _ _ ?_
            clear hK K
            refine wpAny_take (i := 15) (v := ?_) rfl (by kernel_rfl) (by kernel_rfl) (by kernel_rfl) (fun _ _ _ h => h) (Or.inl ⟨by rfl, ?_⟩) ?_
            rotate_left
            · (intro w; go_simp; try with_reducible rfl)
            refine wpAny_ready (rs := [9, 16]) (by kernel_rfl) (by simp) ?_
            refine AllReady.cons rfl (fun K hK => ?_) ?_
            · skip
              go_simp
              refine hK _ _ ?_
              clear hK K
              refine wpAny_ready (rs := [11, 16]) (by kernel_rfl) (by simp) ?_
              refine AllReady.cons rfl (fun K hK => ?_) ?_
              · skip
                go_simp
                refine hK _ _ ?_
                clear hK K
                refine wpAny_ready (rs := [16]) (by kernel_rfl) (by simp) ?_
                refine AllReady.cons rfl (fun K hK => ?_) AllReady.nil
                go_simp
                refine hK _ _ ?_
                clear hK K
                refine wpAny_ready (rs := [17]) (by kernel_rfl) (by simp) ?_
                refine AllReady.cons rfl (fun K hK => ?_) AllReady.nil
                go_simp
                go_wp2_with (go_at_call 52; (with_reducible refine fH.mono ?_); rintro e w8 ⟨rfl, hb8⟩; have H8 := Lib.hid (H7.out.trans (hb8.mono H7.out.size)); have D8 := Lib.hid (D7.out.later hb8 D7.out.lt); have c8 := D8.out.cell 2 _ rfl; have e8 := D8.out.cell 3 _ rfl; have u8 := (H8.out.cell (p := ⟨bp, op + j, none⟩) HUP.out.1).trans HUP.out.2; have v8 := (H8.out.cell (p := ⟨bs, os + j, none⟩) HUS.out.1).trans HUS.out.2)
                refine wpAny_take (i := 18) (v := ?_) rfl (by kernel_rfl) (by kernel_rfl) (by kernel_rfl) (fun _ _ _ h => h) (Or.inl ⟨by rfl, ?_⟩) ?_
                rotate_left
                · (intro w; go_simp; try with_reducible rfl)
                refine wpAny_take (i := 19) (v := ?_) rfl (by kernel_rfl) (by kernel_rfl) (by kernel_rfl) (fun _ _ _ h => h) (Or.inl ⟨by rfl, ?_⟩) ?_
                rotate_left
                · (intro w; go_simp; try with_reducible rfl)
                refine wpAny_take (i := 20) (v := undef) rfl (by kernel_rfl) (by kernel_rfl) (by kernel_rfl) (fun _ _ _ h => h) (Or.inr ⟨by kernel_rfl, rfl⟩) ?_
                refine wpAny_take (i := 21) (v := undef) rfl (by kernel_rfl) (by kernel_rfl) (by kernel_rfl) (fun _ _ _ h => h) (Or.inr ⟨by kernel_rfl, rfl⟩) ?_
                refine wpAny_take (i := 22) (v := undef) rfl (by kernel_rfl) (by kernel_rfl) (by kernel_rfl) (fun _ _ _ h => h) (Or.inr ⟨by kernel_rfl, rfl⟩) ?_
                refine wpAny_take (i := 23) (v := undef) rfl (by kernel_rfl) (by kernel_rfl) (by kernel_rfl) (fun _ _ _ h => h) (Or.inr ⟨by kernel_rfl, rfl⟩) ?_
                refine wpAny_take (i := 24) (v := undef) rfl (by kernel_rfl) (by kernel_rfl) (by kernel_rfl) (fun _ _ _ h => h) (Or.inr ⟨by kernel_rfl, rfl⟩) ?_
                refine wpAny_take (i := 25) (v := undef) rfl (by kernel_rfl) (by kernel_rfl) (by kernel_rfl) (fun _ _ _ h => h) (Or.inr ⟨by kernel_rfl, rfl⟩) ?_
                refine wpAny_take (i := 26) (v := undef) rfl (by kernel_rfl) (by kernel_rfl) (by kernel_rfl) (fun _ _ _ h => h) (Or.inr ⟨by kernel_rfl, rfl⟩) ?_
                refine wpAny_take (i := 27) (v := ?_) rfl (by kernel_rfl) (by kernel_rfl) (by kernel_rfl) (fun _ _ _ h => h) (Or.inl ⟨by rfl, ?_⟩) ?_
                rotate_left
                · (intro w; go_simp; try with_reducible rfl)
                refine wpAny_done (by kernel_rfl) ?_ _
                go_simp
                go_wp2
                go_ret
                exact ⟨rfl, H8.out⟩
              refine AllReady.cons rfl (fun K hK => ?_) AllReady.nil
              go_simp
              refine hK _ _ ?_
              clear hK K
              refine wpAny_ready (rs := [11]) (by kernel_rfl) (by simp) ?_
              refine AllReady.cons rfl (fun K hK => ?_) AllReady.nil
              go_simp
              refine hK _ _ ?_
              clear hK K
              refine wpAny_ready (rs := [17]) (by kernel_rfl) (by simp) ?_
              refine AllReady.cons rfl (fun K hK => ?_) AllReady.nil
              go_simp
              go_wp2_with (go_at_call 52; (with_reducible refine fH.mono ?_); rintro e w8 ⟨rfl, hb8⟩; have H8 := Lib.hid (H7.out.trans (hb8.mono H7.out.size)); have D8 := Lib.hid (D7.out.later hb8 D7.out.lt); have c8 := D8.out.cell 2 _ rfl; have e8 := D8.out.cell 3 _ rfl; have u8 := (H8.out.cell (p := ⟨bp, op + j, none⟩) HUP.out.1).trans HUP.out.2; have v8 := (H8.out.cell (p := ⟨bs, os + j, none⟩) HUS.out.1).trans HUS.out.2)
              refine wpAny_take (i := 18) (v := ?_) rfl (by kernel_rfl) (by kernel_rfl) (by kernel_rfl) (fun _ _ _ h => h) (Or.inl ⟨by rfl, ?_⟩) ?_
              rotate_left
              · (intro w; go_simp; try with_reducible rfl)
              refine wpAny_take (i := 19) (v := ?_) rfl (by kernel_rfl) (by kernel_rfl) (by kernel_rfl) (fun _ _ _ h => h) (Or.inl ⟨by rfl, ?_⟩) ?_
              rotate_left
              · (intro w; go_simp; try with_reducible rfl)
              refine wpAny_take (i := 20) (v := undef) rfl (by kernel_rfl) (by kernel_rfl) (by kernel_rfl) (fun _ _ _ h => h) (Or.inr ⟨by kernel_rfl, rfl⟩) ?_
              refine wpAny_take (i := 21) (v := undef) rfl (by kernel_rfl) (by kernel_rfl) (by kernel_rfl) (fun _ _ _ h => h) (Or.inr ⟨by kernel_rfl, rfl⟩) ?_
              refine wpAny_take (i := 22) (v := undef) rfl (by kernel_rfl) (by kernel_rfl) (by kernel_rfl) (fun _ _ _ h => h) (Or.inr ⟨by kernel_rfl, rfl⟩) ?_
              refine wpAny_take (i := 23) (v := undef) rfl (by kernel_rfl) (by kernel_rfl) (by kernel_rfl) (fun _ _ _ h => h) (Or.inr ⟨by kernel_rfl, rfl⟩) ?_
              refine wpAny_take (i := 24) (v := undef) rfl (by kernel_rfl) (by kernel_rfl) (by kernel_rfl) (fun _ _ _ h => h) (Or.inr ⟨by kernel_rfl, rfl⟩) ?_
              refine wpAny_take (i := 25) (v := undef) rfl (by kernel_rfl) (by kernel_rfl) (by kernel_rfl) (fun _ _ _ h => h) (Or.inr ⟨by kernel_rfl, rfl⟩) ?_
              refine wpAny_take (i := 26) (v := undef) rfl (by kernel_rfl) (by kernel_rfl) (by kernel_rfl) (fun _ _ _ h => h) (Or.inr ⟨by kernel_rfl, rfl⟩) ?_
              refine wpAny_take (i := 27) (v := ?_) rfl (by kernel_rfl) (by kernel_rfl) (by kernel_rfl) (fun _ _ _ h => h) (Or.inl ⟨by rfl, ?_⟩) ?_
              rotate_left
              · (intro w; go_simp; try with_reducible rfl)
              refine wpAny_done (by kernel_rfl) ?_ _
              go_simp
              go_wp2
              go_ret
              exact ⟨rfl, H8.out⟩
            refine AllReady.cons rfl (fun K hK => ?_) AllReady.nil
            go_simp
            refine hK _ _ ?_
            clear hK K
            refine wpAny_ready (rs := [9]) (by kernel_rfl) (by simp) ?_
            refine AllReady.cons rfl (fun K hK => ?_) AllReady.nil
            go_simp
            refine hK _ _ ?_
            clear hK K
            refine wpAny_ready (rs := [11]) (by kernel_rfl) (by simp) ?_
            refine AllReady.cons rfl (fun K hK => ?_) AllReady.nil
            go_simp
            refine hK _ _ ?_
            clear hK K
            refine wpAny_ready (rs := [17]) (by kernel_rfl) (by simp) ?_
            refine AllReady.cons rfl (fun K hK => ?_) AllReady.nil
            go_simp
            go_wp2_with (go_at_call 52; (with_reducible refine fH.mono ?_); rintro e w8 ⟨rfl, hb8⟩; have H8 := Lib.hid (H7.out.trans (hb8.mono H7.out.size)); have D8 := Lib.hid (D7.out.later hb8 D7.out.lt); have c8 := D8.out.cell 2 _ rfl; have e8 := D8.out.cell 3 _ rfl; have u8 := (H8.out.cell (p := ⟨bp, op + j, none⟩) HUP.out.1).trans HUP.out.2; have v8 := (H8.out.cell (p := ⟨bs, os + j, none⟩) HUS.out.1).trans HUS.out.2)
            refine wpAny_take (i := 18) (v := ?_) rfl (by kernel_rfl) (by kernel_rfl) (by kernel_rfl) (fun _ _ _ h => h) (Or.inl ⟨by rfl, ?_⟩) ?_
            rotate_left
            · (intro w; go_simp; try with_reducible rfl)
            refine wpAny_take (i := 19) (v := ?_) rfl (by kernel_rfl) (by kernel_rfl) (by kernel_rfl) (fun _ _ _ h => h) (Or.inl ⟨by rfl, ?_⟩) ?_
            rotate_left
            · (intro w; go_simp; try with_reducible rfl)
            refine wpAny_take (i := 20) (v := undef) rfl (by kernel_rfl) (by kernel_rfl) (by kernel_rfl) (fun _ _ _ h => h) (Or.inr ⟨by kernel_rfl, rfl⟩) ?_
            refine wpAny_take (i := 21) (v := undef) rfl (by kernel_rfl) (by kernel_rfl) (by kernel_rfl) (fun _ _ _ h => h) (Or.inr ⟨by kernel_rfl, rfl⟩) ?_
            refine wpAny_take (i := 22) (v := undef) rfl (by kernel_rfl) (by kernel_rfl) (by kernel_rfl) (fun _ _ _ h => h) (Or.inr ⟨by kernel_rfl, rfl⟩) ?_
            refine wpAny_take (i := 23) (v := undef) rfl (by kernel_rfl) (by kernel_rfl) (by kernel_rfl) (fun _ _ _ h => h) (Or.inr ⟨by kernel_rfl, rfl⟩) ?_
            refine wpAny_take (i := 24) (v := undef) rfl (by kernel_rfl) (by kernel_rfl) (by kernel_rfl) (fun _ _ _ h => h) (Or.inr ⟨by kernel_rfl, rfl⟩) ?_
            refine wpAny_take (i := 25) (v := undef) rfl (by kernel_rfl) (by kernel_rfl) (by kernel_rfl) (fun _ _ _ h => h) (Or.inr ⟨by kernel_rfl, rfl⟩) ?_
            refine wpAny_take (i := 26) (v := undef) rfl (by kernel_rfl) (by kernel_rfl) (by kernel_rfl) (fun _ _ _ h => h) (Or.inr ⟨by kernel_rfl, rfl⟩) ?_
            refine wpAny_take (i := 27) (v := ?_) rfl (by kernel_rfl) (by kernel_rfl) (by kernel_rfl) (fun _ _ _ h => h) (Or.inl ⟨by rfl, ?_⟩) ?_
            rotate_left
            · (intro w; go_simp; try with_reducible rfl)
            refine wpAny_done (by kernel_rfl) ?_ _
            go_simp
            go_wp2
            go_ret
            exact ⟨rfl, H8.out⟩
          | false =>
            cases r3 with
            | true =>
              have hst := Lib.hid (show namesTo ⟨hd, df, ps, ss⟩ (j + 1) = true from by rw [namesTo_succ, HJ.out, HAT.out]; rfl)
              go_wp2
              go_region_held3 (fun w' => w'.cell? ⟨w.heap.size, 2, none⟩ = some (.slice (some ⟨bp, op, none⟩) pn pc) ∧ w'.cell? ⟨w.heap.size, 3, none⟩ = some (.slice (some ⟨bs, os, none⟩) sn sc) ∧ w'.cell? ⟨bp, op + j, none⟩ = some (.string p) ∧ w'.cell? ⟨bs, os + j, none⟩ = some (.string s)) (first | exact ⟨c2d, c3d, upd, usd⟩ | exact ⟨c7, e7, u7, v7⟩ | exact ⟨c8, e8, u8, v8⟩ | exact ⟨c9, e9, u9, v9⟩) (first
                | (go_at_call 51; (with_reducible refine (cN _).mono ?_); rintro e w7 ⟨rfl, hb7⟩; have H7 := Lib.hid (HBr.out.drew.trans (hb7.mono HBr.out.drew.size)); have D7 := Lib.hid (Blk.later (Dr.out.drewN 1) hb7 Dr.out.lt); have c7 := D7.out.cell 2 _ rfl; have e7 := D7.out.cell 3 _ rfl; have u7 := (H7.out.cell (p := ⟨bp, op + j, none⟩) HUP.out.1).trans HUP.out.2; have v7 := (H7.out.cell (p := ⟨bs, os + j, none⟩) HUS.out.1).trans HUS.out.2; have fH := hHs.out _ H7.out)
                | (go_at_call 52; (with_reducible refine fH.mono ?_); rintro e w8 ⟨rfl, hb8⟩; have H8 := Lib.hid (H7.out.trans (hb8.mono H7.out.size)); have D8 := Lib.hid (D7.out.later hb8 D7.out.lt); have c8 := D8.out.cell 2 _ rfl; have e8 := D8.out.cell 3 _ rfl; have u8 := (H8.out.cell (p := ⟨bp, op + j, none⟩) HUP.out.1).trans HUP.out.2; have v8 := (H8.out.cell (p := ⟨bs, os + j, none⟩) HUS.out.1).trans HUS.out.2)
                | (go_at_call 50; (with_reducible refine (cS _).mono ?_); rintro e w9 ⟨rfl, hb9⟩; have H9 := Lib.hid (H8.out.trans (hb9.mono H8.out.size)); have D9 := Lib.hid (D8.out.later hb9 D8.out.lt); have c9 := D9.out.cell 2 _ rfl; have e9 := D9.out.cell 3 _ rfl; have u9 := (H9.out.cell (p := ⟨bp, op + j, none⟩) HUP.out.1).trans HUP.out.2; have v9 := (H9.out.cell (p := ⟨bs, os + j, none⟩) HUS.out.1).trans HUS.out.2))
              go_wp2
              go_roundw
              case rel => exact ⟨j + 1, by omega, by go_num, hst, H9, D9⟩
              case measure => simp [intOf]; omega
            | false =>
              have hRf : R = false := hFalse.out (by rw [HAT.out]; rfl)
              subst hRf
              go_wp2
              go_region_held3 (fun w' => w'.cell? ⟨w.heap.size, 2, none⟩ = some (.slice (some ⟨bp, op, none⟩) pn pc) ∧ w'.cell? ⟨w.heap.size, 3, none⟩ = some (.slice (some ⟨bs, os, none⟩) sn sc) ∧ w'.cell? ⟨bp, op + j, none⟩ = some (.string p) ∧ w'.cell? ⟨bs, os + j, none⟩ = some (.string s)) (first | exact ⟨c2d, c3d, upd, usd⟩ | exact ⟨c7, e7, u7, v7⟩ | exact ⟨c8, e8, u8, v8⟩ | exact ⟨c9, e9, u9, v9⟩) (first
                | (go_at_call 51; (with_reducible refine (cN _).mono ?_); rintro e w7 ⟨rfl, hb7⟩; have H7 := Lib.hid (HBr.out.drew.trans (hb7.mono HBr.out.drew.size)); have D7 := Lib.hid (Blk.later (Dr.out.drewN 1) hb7 Dr.out.lt); have c7 := D7.out.cell 2 _ rfl; have e7 := D7.out.cell 3 _ rfl; have u7 := (H7.out.cell (p := ⟨bp, op + j, none⟩) HUP.out.1).trans HUP.out.2; have v7 := (H7.out.cell (p := ⟨bs, os + j, none⟩) HUS.out.1).trans HUS.out.2; have fH := hHs.out _ H7.out)
                | (go_at_call 52; (with_reducible refine fH.mono ?_); rintro e w8 ⟨rfl, hb8⟩; have H8 := Lib.hid (H7.out.trans (hb8.mono H7.out.size)); have D8 := Lib.hid (D7.out.later hb8 D7.out.lt); have c8 := D8.out.cell 2 _ rfl; have e8 := D8.out.cell 3 _ rfl; have u8 := (H8.out.cell (p := ⟨bp, op + j, none⟩) HUP.out.1).trans HUP.out.2; have v8 := (H8.out.cell (p := ⟨bs, os + j, none⟩) HUS.out.1).trans HUS.out.2)
                | (go_at_call 50; (with_reducible refine (cS _).mono ?_); rintro e w9 ⟨rfl, hb9⟩; have H9 := Lib.hid (H8.out.trans (hb9.mono H8.out.size)); have D9 := Lib.hid (D8.out.later hb9 D8.out.lt); have c9 := D9.out.cell 2 _ rfl; have e9 := D9.out.cell 3 _ rfl; have u9 := (H9.out.cell (p := ⟨bp, op + j, none⟩) HUP.out.1).trans HUP.out.2; have v9 := (H9.out.cell (p := ⟨bs, os + j, none⟩) HUS.out.1).trans HUS.out.2))
              go_wp2
              go_ret
              exact ⟨rfl, H9.out⟩
      · obtain rfl : j = pn := by omega
        have hjI2 : ¬ (j : Int) < (j : Int) := by omega
        have hRt : R = true := by rw [← HR.out, HRD.out, HJ.out]; rfl
        subst hRt
        go_wp2
        go_ret
        exact ⟨rfl, HBr.out⟩
end
end Go.Proofs.YtcfhggdiccilaaaGreat
