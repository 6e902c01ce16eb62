/- Texts of mine in one: Bpd. -/
import Derived.Test.YtelbjnanpmdnnaaQ28
import Derived.Test.YtelbjnanpmdnnaaQ27
namespace Go.Proofs.Ytelbjnanpmdnnaa
section
open Go.RowKit
set_option linter.unusedVariables false
set_option linter.unusedSimpArgs false
theorem decls_over (ts : List Tk) (E : Nat) : ∀ (n j : Nat), E - j ≤ n → declsF ts E j = declsF ts E (overF ts (inK [13, 17]) E j) := by
  intro n
  induction n with
  | zero => intro j h; rw [overF_step, if_neg (by omega)]
  | succ n ih =>
    intro j h
    rw [overF_step]
    by_cases hg : j < E ∧ inK [13, 17] (kdA ts j) = true
    · rw [if_pos hg, declsF_step, if_pos hg.1, if_pos (by
        have h1 := hg.2
        unfold inK at h1
        rw [isK2_iff]
        simpa using h1)]
      exact ih (j + 1) (by omega)
    · rw [if_neg hg]
theorem kin_no {k : Int} (h : inK [13, 17] k = false) : k ≠ 13 ∧ k ≠ 17 := by
  unfold inK at h
  refine ⟨fun e => ?_, fun e => ?_⟩ <;> (subst e; exact absurd h (by decide))
set_option maxRecDepth 100000 in
set_option maxHeartbeats 16000000 in
theorem bdecls_any {ts : List Tk} {b n cap : Nat} {w : World} (f t : Int) (a E : Nat) (hT : TkRow w b n ts) (hcap : n ≤ cap) (hc2 : cap ≤ 9223372036854775807) (hn : n ≤ 1000000) (hs : ∀ j, (txA ts j).size ≤ 1000000) (ha : (a : Int) = max f 0) (ha2 : (a : Int) ≤ 9223372036854775807) (hE : endF ts (min t n).toNat a = E) :
    Calls Try.prog 14 #[.slice (some ⟨b, 0, none⟩) n cap, .int .i64 f, .int .i64 t] w (DlsPost (declsF ts E a) w) := by
  obtain ⟨i0, hi, hz0, hz1, hz2⟩ := info_parts Try.infoDecl
  have hge : a ≤ E := by rw [← hE]; exact endF_ge _ _ _
  have hle : E ≤ max a n := by have := endF_le ts (min t n).toNat a; omega
  have HNE : Hid (∀ j m, a ≤ j → m ≤ E → NoEnd ts j m) := Lib.hid fun j m h1 h2 => noEnd_of ts (min t n).toNat a j m h1 (by rw [hE]; exact h2)
  have cN := bnew_any (w := w) f t a hT hcap hc2 hn ha ha2 E hE
  have HS := Lib.hid hs
  generalize hR : declsF ts E a = R
  have HR := Lib.hid hR
  clear hR hT hE ha hs
  go_enter Try.func14, Try.ntmps14
  go_wp2_with fail
  refine cN.mono ?_
  rintro e1 w1 ⟨p, rfl, hrd, hb1, hpl⟩
  have H0 := Lib.hid hrd
  have HB1 := Lib.hid hb1
  have hbB := hrd.lb
  have hBp := hrd.lp
  have hsz := hb1.size
  have hpl0 := hpl
  generalize hmt : min t (n : Int) = mt at *
  have own0 := World.ownsRow_nil w1 w1.heap.size 41 4
  clear cN hrd hb1 hmt hpl
  go_wp2_with fail
  go_loopw [7] (fun v wr => ∃ (j : Nat) (acc : List Dl), Hid (Rdr wr w.heap.size p b n cap ts mt E j) ∧ wr.ownsRow w1.heap.size 41 4 v acc.length (acc.flatMap dlCells) ∧ Hid (acc ++ declsF ts E j = R) ∧ a ≤ j ∧ j ≤ E ∧ acc.length ≤ j - a ∧ Hid (w1.grownBy wr (some p)))
    (fun _ wr => E - placeIn wr p)
  case atStart => exact ⟨a, [], H0, own0, HR, by omega, by omega, by simp, Lib.hid (World.grownBy.refl _ _)⟩
  case round =>
    obtain ⟨j, acc, H, hown, hG, haj, hjE, hal, G⟩ := hrel
    clear H0 HR own0
    have hplc := Lib.hid H.out.place
    have hwr := H.out.blk.lt
    have hov := decls_over ts E _ j (Nat.le_refl _)
    have hob := overF_bounds ts (inK [13, 17]) E _ j (Nat.le_refl _)
    have HG2 : Hid (acc ++ declsF ts E (overF ts (inK [13, 17]) E j) = R) := Lib.hid (by rw [← hov]; exact hG.out)
    clear hov hG
    go_wp2_with fail
    have o11 := hown.alloc (.cells [Value.int .i64 13, Value.int .i64 17].toArray 3)
    have Kk1 : KsAt (wr.alloc (.cells [Value.int .i64 13, Value.int .i64 17].toArray 3)) p (some ⟨wr.heap.size, 0, none⟩) 2 [13, 17] := (ks_alloc (w := wr) [13, 17] (by have := H.out.blk.lt; omega) (by decide))
    have H11 := Lib.hid ((H.out.later ((Below.refl wr.heap.size wr).alloc (Nat.le_refl _) (.cells [Value.int .i64 13, Value.int .i64 17].toArray 3))))
    have G11 := Lib.hid (grown_drewN (grown_trans G.out (World.grownBy_alloc wr (.cells [Value.int .i64 13, Value.int .i64 17].toArray 3) (some p))) 0)
    have G11 : Hid (w1.grownBy (wr.alloc (.cells [Value.int .i64 13, Value.int .i64 17].toArray 3)) (some p)) := G11
    have hz11 : wr.heap.size < (wr.alloc (.cells [Value.int .i64 13, Value.int .i64 17].toArray 3)).heap.size := by show wr.heap.size < (wr.alloc (.cells [Value.int .i64 13, Value.int .i64 17].toArray 3)).heap.size; simp
    have hk11 := H.out.blk.lt
    generalize (wr.alloc (.cells [Value.int .i64 13, Value.int .i64 17].toArray 3)) = w11 at *
    generalize wr.heap.size = k1 at *
    have HKk1 := Lib.hid Kk1; clear Kk1
    clear H G
    clear hown
    have cP := bpass_any _ 2 2 [13, 17] H11.out rfl HKk1.out.1 (fun b off e => (HKk1.out.2 b off e).1)
    generalize overF ts (inK [13, 17]) E j = j1 at *
    obtain ⟨ho1, ho2, ho3⟩ := hob
    have HO3 := Lib.hid ho3
    clear ho3
    have hlo12 := fun k hk => o11.lt k hk
    refine (cP).mono ?_
    rintro e12 w12 ⟨rfl, h12, g12⟩
    have H12 := Lib.hid h12
    have G12 := Lib.hid (grown_trans G11.out g12)
    have hs12 := G12.out.size
    have o12 := o11.kept g12 (.inr (fun e => by have := (hlo12 p e).1; omega))
    clear H11 G11 g12 h12 o11 hlo12
    clear cP
    by_cases hj1 : j1 < E
    · rw [decide_eq_true hj1]
      have hk := kin_no (HO3.out hj1)
      have hjn := (H12.out.lt (Nat.le_refl _) hj1).1
      clear HO3
      go_wp2_with fail
      have o13 := o12.alloc (.cells [Value.int .i64 3].toArray 3)
      have Kk2 : KsAt (w12.alloc (.cells [Value.int .i64 3].toArray 3)) p (some ⟨w12.heap.size, 0, none⟩) 1 [3] := (ks_alloc (w := w12) [3] (by have := H12.out.blk.lt; omega) (by decide))
      have H13 := Lib.hid ((H12.out.later ((Below.refl w12.heap.size w12).alloc (Nat.le_refl _) (.cells [Value.int .i64 3].toArray 3))))
      have G13 := Lib.hid (grown_drewN (grown_trans G12.out (World.grownBy_alloc w12 (.cells [Value.int .i64 3].toArray 3) (some p))) 0)
      have G13 : Hid (w1.grownBy (w12.alloc (.cells [Value.int .i64 3].toArray 3)) (some p)) := G13
      have hz13 : w12.heap.size < (w12.alloc (.cells [Value.int .i64 3].toArray 3)).heap.size := by show w12.heap.size < (w12.alloc (.cells [Value.int .i64 3].toArray 3)).heap.size; simp
      have hk13 := H12.out.blk.lt
      generalize (w12.alloc (.cells [Value.int .i64 3].toArray 3)) = w13 at *
      generalize w12.heap.size = k2 at *
      have HKk2 := Lib.hid Kk2; clear Kk2
      clear H12 G12
      clear o12
      have cI := bis_any _ 1 1 [3] H13.out rfl HKk2.out.1
      have hib : isB2 ts E j1 [3] = decide (kdA ts j1 = 3) := by unfold isB2; rw [decide_eq_true hj1, Bool.true_and]; simp
      rw [hib] at cI
      clear hib
      by_cases h3 : kdA ts j1 = 3
      · have hab := atruleF_bounds ts E j1 hj1
        have HG3 : Hid (acc ++ declsF ts E (atruleF ts E j1).2 = R) := Lib.hid (by rw [← HG2.out]; conv => rhs; rw [declsF_step, if_pos hj1, if_neg (fun h => by rcases isK2_iff.1 h with h | h; exact hk.1 h; exact hk.2 h), if_pos h3])
        rw [decide_eq_true h3] at cI
        clear HG2 hk h3
        have hlo14 := fun k hk => o13.lt k hk
        refine (cI).mono ?_
        rintro e14 w14 ⟨rfl, hq14⟩
        have g14 := quiet_grown hq14 (World.grownBy.refl w13 (some p))
        have h14 := quiet_rdr hq14 H13.out
        have H14 := Lib.hid h14
        have G14 := Lib.hid (grown_trans G13.out g14)
        have hs14 := G14.out.size
        have o14 := o13.kept g14 (.inr (fun e => by have := (hlo14 p e).1; omega))
        clear H13 G13 g14 h14 hq14 o13 hlo14
        clear cI
        go_wp2_with fail
        have cA := batrule_any H14.out hj1 (HS.out j1)
        generalize atruleF ts E j1 = Y at *
        obtain ⟨⟨y0, y1, y2, y3, y4, y5, y6⟩, jn⟩ := Y
        unfold RlGo rlCells at cA
        dsimp only at cA hab HG3
        have hlo15 := fun k hk => o14.lt k hk
        refine (cA).mono ?_
        rintro e15 w15 ⟨rfl, h15, g15⟩
        have H15 := Lib.hid h15
        have G15 := Lib.hid (grown_trans G14.out g15)
        have hs15 := G15.out.size
        have o15 := o14.kept g15 (.inr (fun e => by have := (hlo15 p e).1; omega))
        clear H14 G14 g15 h15 o14 hlo15
        clear cA
        have hp9 := Lib.hid H15.out.place
        go_wp2
        go_roundw
        case rel => exact ⟨jn, acc, H15, o15, HG3, by omega, by omega, by omega, G15⟩
        case measure => rw [hp9.out, hplc.out]; omega
      · have hon := scanF_on ts (isK 17) E j1 hj1 (isK_no hk.2)
        have HG3 : Hid (acc ++ (if declB ts (scanF ts (isK 17) E j1) j1 = true then declF ts (scanF ts (isK 17) E j1) j1 :: declsF ts E (scanF ts (isK 17) E j1) else declsF ts E (scanF ts (isK 17) E j1)) = R) := Lib.hid (by rw [← HG2.out]; conv => rhs; rw [declsF_step, if_pos hj1, if_neg (fun h => by rcases isK2_iff.1 h with h | h; exact hk.1 h; exact hk.2 h), if_neg h3])
        have hsc : scanF ts (inK [17]) E j1 = scanF ts (isK 17) E j1 := scanF_congr ts _ _ E (fun k => by unfold inK isK; simp) _
        rw [decide_eq_false h3] at cI
        clear HG2 hk h3
        have hlo14 := fun k hk => o13.lt k hk
        refine (cI).mono ?_
        rintro e14 w14 ⟨rfl, hq14⟩
        have g14 := quiet_grown hq14 (World.grownBy.refl w13 (some p))
        have h14 := quiet_rdr hq14 H13.out
        have H14 := Lib.hid h14
        have G14 := Lib.hid (grown_trans G13.out g14)
        have hs14 := G14.out.size
        have o14 := o13.kept g14 (.inr (fun e => by have := (hlo14 p e).1; omega))
        clear H13 G13 g14 h14 hq14 o13 hlo14
        clear cI
        have cr1 := H14.out.blk.cell 1 _ rfl
        go_upto_region 7 with (fail)
        clear cr1
        go_wp2_with fail
        have o15 := o14.alloc (.cells [Value.int .i64 17].toArray 3)
        have Kk3 : KsAt (w14.alloc (.cells [Value.int .i64 17].toArray 3)) p (some ⟨w14.heap.size, 0, none⟩) 1 [17] := (ks_alloc (w := w14) [17] (by have := H14.out.blk.lt; omega) (by decide))
        have H15 := Lib.hid ((H14.out.later ((Below.refl w14.heap.size w14).alloc (Nat.le_refl _) (.cells [Value.int .i64 17].toArray 3))))
        have G15 := Lib.hid (grown_drewN (grown_trans G14.out (World.grownBy_alloc w14 (.cells [Value.int .i64 17].toArray 3) (some p))) 0)
        have G15 : Hid (w1.grownBy (w14.alloc (.cells [Value.int .i64 17].toArray 3)) (some p)) := G15
        have hz15 : w14.heap.size < (w14.alloc (.cells [Value.int .i64 17].toArray 3)).heap.size := by show w14.heap.size < (w14.alloc (.cells [Value.int .i64 17].toArray 3)).heap.size; simp
        have hk15 := H14.out.blk.lt
        generalize (w14.alloc (.cells [Value.int .i64 17].toArray 3)) = w15 at *
        generalize w14.heap.size = k3 at *
        have HKk3 := Lib.hid Kk3; clear Kk3
        clear H14 G14
        clear o14
        have cU := bupto_any _ 1 1 [17] H15.out rfl HKk3.out.1 (fun b off e => (HKk3.out.2 b off e).1)
        rw [hsc] at cU
        clear hsc
        generalize scanF ts (isK 17) E j1 = K at *
        have hlo16 := fun k hk => o15.lt k hk
        refine (cU).mono ?_
        rintro e16 w16 ⟨rfl, h16, g16⟩
        have H16 := Lib.hid h16
        have G16 := Lib.hid (grown_trans G15.out g16)
        have hs16 := G16.out.size
        have o16 := o15.kept g16 (.inr (fun e => by have := (hlo16 p e).1; omega))
        clear H15 G15 g16 h16 o15 hlo16
        clear cU
        have cr1 := H16.out.blk.cell 1 _ rfl
        go_wp2_with fail
        clear cr1
        have cD := bdecl_any (w := w16) j1 H16.out.row hcap hc2 hn (by omega) hon.1 HS.out (HNE.out j1 K (by omega) hon.2)
        generalize hok : declB ts K j1 = ok at *
        generalize hx : (if ok = true then declF ts K j1 else (⟨⟨#[]⟩, 0, 0, false⟩ : Dl)) = x at *
        have HX := Lib.hid hx
        clear hx hok
        obtain ⟨d0, d1, d2, d3⟩ := x
        unfold DlPost dlCells at cD
        dsimp only at cD
        refine (cD).mono ?_
        rintro e17 w17 ⟨rfl, hb17⟩
        have H17 := Lib.hid (H16.out.later hb17)
        have G17 := Lib.hid (grown_below G16.out hb17)
        have hs17 := G17.out.size
        have o17 := owns_later o16 hb17
        clear H16 G16 hb17 o16
        clear cD
        go_upto_region 9 with (fail)
        have o18 := o17.alloc (.cells [.string d0, .int .i64 d1, .int .i64 d2, .bool d3].toArray 41)
        have b18 : Blk (w17.alloc (.cells [.string d0, .int .i64 d1, .int .i64 d2, .bool d3].toArray 41)) w17.heap.size [.string d0, .int .i64 d1, .int .i64 d2, .bool d3] 41 := Blk.alloc _ _
        have H18 := Lib.hid (H17.out.later ((Below.refl w17.heap.size w17).alloc (Nat.le_refl _) (.cells [.string d0, .int .i64 d1, .int .i64 d2, .bool d3].toArray 41)))
        have G18 := Lib.hid (grown_trans G17.out (World.grownBy_alloc w17 (.cells [.string d0, .int .i64 d1, .int .i64 d2, .bool d3].toArray 41) (some p)))
        have hz18 : w17.heap.size < (w17.alloc (.cells [.string d0, .int .i64 d1, .int .i64 d2, .bool d3].toArray 41)).heap.size := by simp
        have hs18 := G17.out.size
        generalize hw18 : (w17.alloc (.cells [.string d0, .int .i64 d1, .int .i64 d2, .bool d3].toArray 41)) = w18 at *
        generalize hg18 : w17.heap.size = q0 at *
        clear hw18 hg18
        clear H17 G17
        clear o17
        have cX0 := b18.cell 0 _ rfl
        have cX1 := b18.cell 1 _ rfl
        have cX2 := b18.cell 2 _ rfl
        have cX3 := b18.cell 3 _ rfl
        cases ok with
        | true =>
          have HG4 : Hid (acc ++ ((Dl.mk d0 d1 d2 d3) :: declsF ts E K) = R) := Lib.hid (by have h5 := HX.out; rw [if_pos (show true = true from rfl)] at h5; rw [← HG3.out, if_pos (show true = true from rfl), h5])
          clear HG3 HX
          have hB := Blk.alloc (w := w18) (dlCells (Dl.mk d0 d1 d2 d3)) 41
          have hnews : ∀ q u, (dlCells (Dl.mk d0 d1 d2 d3))[q]? = some u → (w18.alloc (.cells (dlCells (Dl.mk d0 d1 d2 d3)).toArray 41)).cell? ((⟨w18.heap.size, 0, none⟩ : Addr).add q) = some u := fun q u hu => by
            have h0 := hB.cell q u hu
            rw [← h0]; congr 1; unfold Addr.add; simp <;> (intro h; exact h.symm)
          have hown6 := o18.alloc (.cells (dlCells (Dl.mk d0 d1 d2 d3)).toArray 41)
          have H6' := Lib.hid (H18.out.later ((Below.refl w18.heap.size w18).alloc (Nat.le_refl _) (.cells (dlCells (Dl.mk d0 d1 d2 d3)).toArray 41)))
          have G6' := Lib.hid (grown_trans G18.out (World.grownBy_alloc w18 (.cells (dlCells (Dl.mk d0 d1 d2 d3)).toArray 41) (some p)))
          have hone := dl_cells (Dl.mk d0 d1 d2 d3)
          have hlA : (acc ++ [(Dl.mk d0 d1 d2 d3)]).flatMap dlCells = acc.flatMap dlCells ++ dlCells (Dl.mk d0 d1 d2 d3) := by simp
          have HLA := Lib.hid hlA
          have hszw := G18.out.size
          have hlt5 := fun k hk => o18.lt k hk
          clear hlA hB o18 H18 G18
          unfold dlCells at hown6 H6' G6' hnews hone
          dsimp only at hown6 H6' G6' hnews hone
          go_wp2_with (at_builtin; refine wpList_append_own _ rfl _ _ 35 rfl w1.heap.size 41 i0 _ 4 40 Try.underlying35 hi hz0 hz1 hz2 rfl (by decide) _ acc.length _ rfl hown6 ⟨w18.heap.size, 0, none⟩ 1 1 [.string d0, .int .i64 d1, .int .i64 d2, .bool d3] rfl rfl hnews hone (by unfold maxLen; omega) (by omega) (by simp <;> omega) ?_; intro v' w77 hown7 hgrow7 _)
          have H7' := Lib.hid (H6'.out.grown hgrow7 (fun e => by have := (hlt5 p e).1; omega) (fun e => by have := (hlt5 b e).1; omega))
          have G7' := Lib.hid (grown_own G6'.out hgrow7 (fun k hk => (hlt5 k hk).1))
          have hpl7 := Lib.hid H7'.out.place
          go_roundw
          case rel => exact ⟨K, acc ++ [(Dl.mk d0 d1 d2 d3)], H7', by rw [HLA.out, List.length_append]; exact hown7, Lib.hid (by rw [← HG4.out]; simp), by omega, by omega, by rw [List.length_append]; simp; omega, G7'⟩
          case measure => rw [hpl7.out, hplc.out]; omega
        | false =>
          have HG4 : Hid (acc ++ declsF ts E K = R) := Lib.hid (by rw [← HG3.out, if_neg (show ¬ (false = true) by simp)])
          clear HG3 HX
          have hp9 := Lib.hid H18.out.place
          go_wp2
          go_roundw
          case rel => exact ⟨K, acc, H18, o18, HG4, by omega, by omega, by omega, G18⟩
          case measure => rw [hp9.out, hplc.out]; omega
    · have hRv : R = acc := by rw [← HG2.out, declsF_step, if_neg hj1, List.append_nil]
      subst hRv
      rw [decide_eq_false hj1]
      clear HG2 HO3
      go_wp2
      go_ret
      exact ⟨_, rfl, own_weak o12 hsz, below_own HB1.out G12.out hBp⟩
end
end Go.Proofs.Ytelbjnanpmdnnaa
