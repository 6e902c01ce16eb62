/- NthMorgan: the law's walk. -/
import Derived.Test.YtcfcoojnjdoeeaaNthLb
import Derived.Deep.DeepCutAuto
namespace Go.Proofs.Ytcfcoojnjdoeeaa
open Go.RowKit

/-- What a statement that keeps a set leaves. -/
def CutSet (S : Nat → Bool) (D P : Nat) (W wx : World) (s : Value) : Prop := ∃ g a n c d r, s = .pointer (some ⟨g, 0, none⟩) ∧ Blk wx g [.int .i64 (d : Nat), .slice a n c] 28 ∧ IsSet wx (.agg #[.int .i64 d, .slice a n c]) S d r ∧ d ≤ D ∧ r ≤ P ∧ Below W.heap.size W wx
theorem blk_st {w : World} {b : Nat} {T : TypeId} (z : Blk w b [.int .i64 0, .slice none 0 0] T) (v0 v1 : Value) : Blk ((w.setCell ⟨b, 0, none⟩ v0).setCell ⟨b, 1, none⟩ v1) b [v0, v1] T := by
  have := (z.setCell 0 v0).setCell 1 v1
  simpa using this
theorem isSet_st {w : World} {a : Option Addr} {n c d r : Nat} {S : Nat → Bool} (s : IsSet w (.agg #[.int .i64 d, .slice a n c]) S d r) (B b : Nat) (hf : FreshS B (.agg #[.int .i64 d, .slice a n c])) (hb : b < B) :
    IsSet ((w.setCell ⟨b, 0, none⟩ (.int .i64 d)).setCell ⟨b, 1, none⟩ (.slice a n c)) (.agg #[.int .i64 d, .slice a n c]) S d r :=
  isSet_setCell (isSet_setCell s B ⟨b, 0, none⟩ (.int .i64 d) hf hb) B ⟨b, 1, none⟩ (.slice a n c) hf hb
theorem keepC {W0 w' : World} {b o : Nat} {c : Value} (h : W0.cell? ⟨b, o, none⟩ = some c) (hb : Below W0.heap.size W0 w') : w'.cell? ⟨b, o, none⟩ = some c :=
  (hb.cell (p := ⟨b, o, none⟩) (World.block_lt_of_cell? _ _ h)).trans h
theorem morgan1 : ∀ a b : Bool, (!(a || b)) = (!a && !b) := by decide
theorem morgan2 : ∀ a b : Bool, (a || (a && b)) = a := by decide
theorem morgan3 : ∀ a : Bool, (a || !a) = true := by decide
theorem sameM1 (S T : Nat → Bool) : (true = true ↔ ∀ n, 1 ≤ n → (fun n => !(fun n => S n || T n) n) n = (fun n => !S n && !T n) n) := ⟨fun _ n _ => morgan1 (S n) (T n), fun _ => rfl⟩
theorem sameM2 (S T : Nat → Bool) : (true = true ↔ ∀ n, 1 ≤ n → (fun n => S n || (fun n => S n && T n) n) n = S n) := ⟨fun _ n _ => morgan2 (S n) (T n), fun _ => rfl⟩
theorem sameM3 (S : Nat → Bool) : (true = true ↔ ∀ n, 1 ≤ n → (fun n => S n || !S n) n = (fun _ : Nat => true) n) := ⟨fun _ n _ => morgan3 (S n), fun _ => rfl⟩
theorem keep2 {W0 w' : World} {b : Nat} {c0 c1 : Value} (h0 : W0.cell? ⟨b, 0, none⟩ = some c0) (h1 : W0.cell? ⟨b, 1, none⟩ = some c1) (hb : Below W0.heap.size W0 w') :
    w'.cell? ⟨b, 0, none⟩ = some c0 ∧ w'.cell? ⟨b, 1, none⟩ = some c1 ∧ Below W0.heap.size W0 w' := keepB h0 h1 hb

set_option maxRecDepth 100000 in
set_option maxHeartbeats 16000000 in
theorem lawMorgan_any (x y x' y' : Int) (w : World) (hx : -9223372036854775808 ≤ x ∧ x ≤ 9223372036854775807) (hy : -9223372036854775808 ≤ y ∧ y ≤ 9223372036854775807) (hx' : -9223372036854775808 ≤ x' ∧ x' ≤ 9223372036854775807) (hy' : -9223372036854775808 ≤ y' ∧ y' ≤ 9223372036854775807) :
    Calls Try.prog 6 #[.agg #[.int .i64 x, .int .i64 y], .agg #[.int .i64 x', .int .i64 y']] w (ToldB (.bool true) w) := by
  have B1 : Below w.heap.size w ((w.alloc (.cells #[.int .i64 x, .int .i64 y] 23)).alloc (.cells #[.int .i64 x', .int .i64 y'] 23)) := ((Below.refl _ w).alloc (Nat.le_refl _) _).alloc (by simp) _
  have X := Lib.hid ((Blk.alloc (w := w) [.int .i64 x, .int .i64 y] 23).alloc_old (.cells #[.int .i64 x', .int .i64 y'] 23))
  have hY := Blk.alloc (w := w.alloc (.cells #[.int .i64 x, .int .i64 y] 23)) [.int .i64 x', .int .i64 y'] 23
  rw [show (w.alloc (.cells #[.int .i64 x, .int .i64 y] 23)).heap.size = w.heap.size + 1 by simp] at hY
  have Y := Lib.hid hY
  have cS := fun w => small_any x y 12 w (by omega)
  have cS' := fun w => small_any x' y' 12 w (by omega)
  clear hY
  go_enter Try.func6, Try.ntmps6
  go_wp2_with fail
  refine (speaks5_any _).mono ?_
  rintro e w1 ⟨rfl, hb1⟩
  have B2 := below_from B1 hb1
  clear B1
  obtain ⟨XB, X0, X1⟩ := blk2 X.out hb1
  replace X := Lib.hid XB
  clear XB
  obtain ⟨YB, Y0, Y1⟩ := blk2 Y.out hb1
  replace Y := Lib.hid YB
  clear YB
  cases hs : smallB x y 12
  · rw [hs] at cS
    clear hs hx hy hx' hy'
    go_wp2_with fail
    refine (cS _).mono ?_
    rintro e w2 ⟨rfl, hb2⟩
    go_wp2
    go_ret
    exact ⟨rfl, below_from B2 hb2⟩
  · rw [hs] at cS
    go_wp2_with fail
    refine (cS _).mono ?_
    rintro e w2 ⟨rfl, hb2⟩
    have B3 := below_from B2 hb2
    clear B2
    clear X0 X1 Y0 Y1
    obtain ⟨XB, X0, X1⟩ := blk2 X.out hb2
    replace X := Lib.hid XB
    clear XB
    obtain ⟨YB, Y0, Y1⟩ := blk2 Y.out hb2
    replace Y := Lib.hid YB
    clear YB
    cases hs' : smallB x' y' 12
    · rw [hs'] at cS'
      clear hs hs' hx hy hx' hy'
      go_wp2_with fail
      refine (cS' _).mono ?_
      rintro e w3 ⟨rfl, hb3⟩
      go_wp2
      go_ret
      exact ⟨rfl, below_from B3 hb3⟩
    · rw [hs'] at cS'
      obtain ⟨p1, p2⟩ := parts_small hs
      obtain ⟨⟨x1, x2⟩, y1, y2⟩ := smallB_yes hs
      obtain ⟨p1', p2'⟩ := parts_small hs'
      obtain ⟨⟨x1', x2'⟩, y1', y2'⟩ := smallB_yes hs'
      have cO := fun w => of_any x y w ⟨by omega, by omega⟩ ⟨by omega, by omega⟩ (by omega)
      have cO' := fun w => of_any x' y' w ⟨by omega, by omega⟩ ⟨by omega, by omega⟩ (by omega)
      have cR : ∀ w, Calls Try.prog 10 #[.agg #[.int .i64 x, .int .i64 y], .int .i64 400] w (ToldRow (hasN x y) 400 w) := fun w => row_any x y 400 w ⟨by omega, by omega⟩ ⟨by omega, by omega⟩ (by omega)
      have cR' : ∀ w, Calls Try.prog 10 #[.agg #[.int .i64 x', .int .i64 y'], .int .i64 400] w (ToldRow (hasN x' y') 400 w) := fun w => row_any x' y' 400 w ⟨by omega, by omega⟩ ⟨by omega, by omega⟩ (by omega)
      have hh : headF x y ≤ 12 ∧ roundF x ≤ 12 ∧ headF x' y' ≤ 12 ∧ roundF x' ≤ 12 := by omega
      obtain ⟨h12, h12p, k12, k12q⟩ := hh
      have LS := Lib.hid (least_of x y)
      have LT := Lib.hid (least_of x' y')
      have hpq : roundF x * roundF x' ≤ 144 := Nat.mul_le_mul h12p k12q
      clear hs hs' hx hy hx' hy' x1 x2 y1 y2 x1' x2' y1' y2' p1 p2 p1' p2'
      generalize hasN x y = S at *
      generalize hasN x' y' = T at *
      generalize headF x y = gs at *
      generalize roundF x = p at *
      generalize headF x' y' = gt at *
      generalize roundF x' = q at *
      have hmx : max gs gt ≤ 12 := by omega
      go_wp2_with fail
      refine (cS' _).mono ?_
      rintro e w3 ⟨rfl, hb3⟩
      have B4 := below_from B3 hb3
      clear B3 cS cS'
      clear X0 X1 Y0 Y1
      obtain ⟨XB, X0, X1⟩ := blk2 X.out hb3
      replace X := Lib.hid XB
      clear XB
      obtain ⟨YB, Y0, Y1⟩ := blk2 Y.out hb3
      replace Y := Lib.hid YB
      clear YB
      go_wp2_with fail
      refine (cO _).mono ?_
      rintro e w4 ⟨vs, rfl, hs4, -, hb4⟩
      have B5 := below_from B4 hb4
      obtain ⟨as0, ns0, cs0, rfl⟩ := isSet_val hs4
      have al4 := (Below.refl _ w4).alloc (Nat.le_refl _) (.cells #[.int .i64 gs, .slice as0 ns0 cs0] 28)
      have B6 := below_from B5 al4
      have SB := Lib.hid (Blk.alloc (w := w4) [.int .i64 gs, .slice as0 ns0 cs0] 28)
      have IS := Lib.hid (hs4.later al4)
      clear B4 B5 hs4
      clear X0 X1 Y0 Y1
      obtain ⟨XB, X0, X1⟩ := blk2 X.out (hb4.trans (al4.mono hb4.size))
      replace X := Lib.hid XB
      clear XB
      obtain ⟨YB, Y0, Y1⟩ := blk2 Y.out (hb4.trans (al4.mono hb4.size))
      replace Y := Lib.hid YB
      clear YB
      go_wp2_with fail
      refine (cO' _).mono ?_
      rintro e w5 ⟨vt, rfl, ht5, -, hb5⟩
      have B7 := below_from B6 hb5
      obtain ⟨at', nt, ct, rfl⟩ := isSet_val ht5
      have al5 := (Below.refl _ w5).alloc (Nat.le_refl _) (.cells #[.int .i64 gt, .slice at' nt ct] 28)
      have B8 := below_from B7 al5
      have hb5' := hb5.trans (al5.mono hb5.size)
      have TB := Lib.hid (Blk.alloc (w := w5) [.int .i64 gt, .slice at' nt ct] 28)
      have IT := Lib.hid (ht5.later al5)
      replace IS := Lib.hid (IS.out.later hb5')
      have TB0 := TB.out.cell 0 _ rfl
      have TB1 := TB.out.cell 1 _ rfl
      clear B6 B7 ht5 cO cO'
      clear X0 X1 Y0 Y1
      obtain ⟨XB, X0, X1⟩ := blk2 X.out hb5'
      replace X := Lib.hid XB
      clear XB
      obtain ⟨YB, Y0, Y1⟩ := blk2 Y.out hb5'
      replace Y := Lib.hid YB
      clear YB
      obtain ⟨SBB, SB0, SB1⟩ := blk2 SB.out hb5'
      replace SB := Lib.hid SBB
      clear SBB
      have BB := B8
      clear B8 cR cR' hb1 hb2 hb3
      clear X Y
      go_wp2_with fail
      refine (union_any _ _ _ S T gs p gt q IS.out IT.out (by omega) ).mono ?_
      rintro e w6 ⟨d6, r6, ⟨v6, rfl, hv6, -, hb6⟩, hd6, hr6⟩
      have BB6 := below_from BB hb6
      obtain ⟨a6, n6, c6, rfl⟩ := isSet_val hv6
      have al6 := (Below.refl _ w6).alloc (Nat.le_refl _) (.cells #[.int .i64 d6, .slice a6 n6 c6] 28)
      replace BB := below_from BB6 al6
      have hq6 := hb6.trans (al6.mono hb6.size)
      have UB := Lib.hid (Blk.alloc (w := w6) [.int .i64 d6, .slice a6 n6 c6] 28)
      have IU := Lib.hid (hv6.later al6)
      have UB0 := UB.out.cell 0 _ rfl
      have UB1 := UB.out.cell 1 _ rfl
      clear BB6 hv6
      clear X0 X1 Y0 Y1
      clear SB0 SB1 TB0 TB1
      obtain ⟨SBB, SB0, SB1⟩ := blk2 SB.out hq6
      replace SB := Lib.hid SBB
      clear SBB
      obtain ⟨TBB, TB0, TB1⟩ := blk2 TB.out hq6
      replace TB := Lib.hid TBB
      clear TBB
      replace IS := Lib.hid (IS.out.later hq6)
      replace IT := Lib.hid (IT.out.later hq6)
      go_upto_region 8 with fail
      generalize hW : w6.alloc (.cells #[.int .i64 d6, .slice a6 n6 c6] 28) = W at *
      clear hW
      have x0 : W.drew.cell? ⟨w4.heap.size, 0, none⟩ = some (.int .i64 gs) := SB0
      have x1 : W.drew.cell? ⟨w4.heap.size, 1, none⟩ = some (.slice as0 ns0 cs0) := SB1
      have y0 : W.drew.cell? ⟨w5.heap.size, 0, none⟩ = some (.int .i64 gt) := TB0
      have y1 : W.drew.cell? ⟨w5.heap.size, 1, none⟩ = some (.slice at' nt ct) := TB1
      have dr := (Below.refl W.heap.size W).drew
      have HS1 := Lib.hid (IS.out.later dr)
      have HT1 := Lib.hid (IT.out.later dr)
      have NB : ∀ X : World, Blk (X.alloc (.cells #[.int .i64 0, .slice none 0 0] 28)) X.heap.size [.int .i64 0, .slice none 0 0] 28 := fun X => Blk.alloc _ _
      go_cut [11, 12] (fun s11 s12 wx => s12 = .nilIface ∧ CutSet (fun n => !S n && !T n) (max gs gt) (p * q) W.drew wx s11)
      case first =>
        go_region_held3 (fun w' => w'.cell? ⟨w4.heap.size, 0, none⟩ = some (.int .i64 gs) ∧ w'.cell? ⟨w4.heap.size, 1, none⟩ = some (.slice as0 ns0 cs0) ∧ w'.cell? ⟨w5.heap.size, 0, none⟩ = some (.int .i64 gt) ∧ w'.cell? ⟨w5.heap.size, 1, none⟩ = some (.slice at' nt ct) ∧ Below W.drew.heap.size W.drew w')
          (first
            | exact ⟨x0, x1, y0, y1, Below.refl _ _⟩
            | exact keep4 x0 x1 y0 y1 ((Below.refl _ _).alloc (Nat.le_refl _) _)
            | exact keep4 x0 x1 y0 y1 bC
            | exact keep4 x0 x1 y0 y1 (bC.alloc bC.size _)
            | exact keep4 x0 x1 y0 y1 bB
            | exact keep4 x0 x1 y0 y1 (bB.alloc bB.size _)
            | exact keep4 x0 x1 y0 y1 bA
            | exact keep4 x0 x1 y0 y1 (bA.alloc bA.size _)
            | exact keep4 x0 x1 y0 y1 (below_st bC zC bB.size _ _)
            | exact keep4 x0 x1 y0 y1 (below_st bC zC bA.size _ _)
            | exact keep4 x0 x1 y0 y1 (below_st bC zC (Nat.le_refl _) _ _))
          (first
            | (go_at_call 12; (with_reducible refine (not_any _ (.agg #[.int .i64 gs, .slice as0 ns0 cs0]) S gs p ?_).mono ?_); (first | exact HS1.out | exact isSet_al HS1.out _); rintro e wA ⟨v1, rfl, hs1, -, hA⟩; have bA : Below W.drew.heap.size W.drew wA := (by first | exact hA | exact below_al hA); (try have zA : Blk wA W.heap.size [.int .i64 0, .slice none 0 0] 28 := (NB W.drew).later hA (lt_of_block (NB W.drew))))
            | (go_at_call 12; (with_reducible refine (not_any _ (.agg #[.int .i64 gt, .slice at' nt ct]) T gt q ?_).mono ?_); (first | exact HT1.out.later bA | exact isSet_al (HT1.out.later bA) _); rintro e wB ⟨v2, rfl, hs2, -, hB⟩; have bAB : Below wA.heap.size wA wB := (by first | exact hB | exact below_al hB); have bB := bA.trans (bAB.mono bA.size); (first | have zB := zA.later bAB (lt_of_block zA) | have zB := (NB wA).later hB (lt_of_block (NB wA)) | skip))
            | (go_at_call 15; (with_reducible refine (inter_any _ v1 v2 (fun n => !S n) (fun n => !T n) gs p gt q ?_ ?_ (by omega)).mono ?_); (first | exact hs1.later bAB | exact isSet_al (hs1.later bAB) _); (first | exact hs2 | exact isSet_al hs2 _); rintro e wC ⟨d, r, ⟨vI, rfl, hsI, hfI, hC⟩, hd, hr⟩; have bBC : Below wB.heap.size wB wC := (by first | exact hC | exact below_al hC); have bC := bB.trans (bBC.mono bB.size); obtain ⟨aI, nI, cI, rfl⟩ := isSet_val hsI; (first | have zC := zB.later bBC (lt_of_block zB) | have zC := (NB wB).later hC (lt_of_block (NB wB)) | have zC := trivial); (try have q0 := zC.cell 0 _ rfl); (try have q1 := zC.cell 1 _ rfl); (try have f0 := zC.frozen 0); (try have f1 := zC.frozen 1)))
        all_goals
          have s1 := bA.size
          have s2 := bAB.size
          have s3 := bBC.size
          go_wp2_with fail
          go_meet
          first
            | exact ⟨rfl, wC.heap.size, aI, nI, cI, d, r, rfl, Blk.alloc _ _, isSet_al hsI _, hd, hr, bC.alloc bC.size _⟩
            | exact ⟨rfl, wB.heap.size, aI, nI, cI, d, r, rfl, blk_st zC _ _, isSet_st hsI _ _ hfI (by simp at s1 ⊢ <;> omega), hd, hr, below_st bC zC bB.size _ _⟩
            | exact ⟨rfl, wA.heap.size, aI, nI, cI, d, r, rfl, blk_st zC _ _, isSet_st hsI _ _ hfI (by simp at s1 ⊢ <;> omega), hd, hr, below_st bC zC bA.size _ _⟩
            | exact ⟨rfl, W.heap.size, aI, nI, cI, d, r, rfl, blk_st zC _ _, isSet_st hsI _ _ hfI (by simp at s1 ⊢ <;> omega), hd, hr, below_st bC zC (Nat.le_refl _) _ _⟩
      case rest =>
        obtain ⟨rfl, gv, av, nv, cv, d7, r7, rfl, hVB, hVI, hd7, hr7, bV⟩ := hcut
        have dV := dr.trans (bV.mono (Nat.le_refl _))
        replace BB := below_from BB dV
        have VB := Lib.hid hVB
        have IV := Lib.hid hVI
        clear hVB hVI HS1 HT1 NB x0 x1 y0 y1 SB0 SB1 TB0 TB1 UB0 UB1
        replace IS := Lib.hid (IS.out.later dV)
        replace IT := Lib.hid (IT.out.later dV)
        replace IU := Lib.hid (IU.out.later dV)
        obtain ⟨SBB, SB0, SB1⟩ := blk2 SB.out dV
        replace SB := Lib.hid SBB
        clear SBB
        obtain ⟨TBB, TB0, TB1⟩ := blk2 TB.out dV
        replace TB := Lib.hid TBB
        clear TBB
        obtain ⟨UBB, UB0, UB1⟩ := blk2 UB.out dV
        replace UB := Lib.hid UBB
        clear UBB
        clear dV bV dr al4 al5 al6 hb4 hb5 hb5' hb6 hq6
        go_wp2_with fail
        refine (inter_any _ _ _ S T gs p gt q IS.out IT.out (by omega) ).mono ?_
        rintro e w9 ⟨d9, r9, ⟨v9, rfl, hv9, -, hb9⟩, hd9, hr9⟩
        have BB9 := below_from BB hb9
        obtain ⟨a9, n9, c9, rfl⟩ := isSet_val hv9
        have al9 := (Below.refl _ w9).alloc (Nat.le_refl _) (.cells #[.int .i64 d9, .slice a9 n9 c9] 28)
        replace BB := below_from BB9 al9
        have hq9 := hb9.trans (al9.mono hb9.size)
        have WB := Lib.hid (Blk.alloc (w := w9) [.int .i64 d9, .slice a9 n9 c9] 28)
        have IW := Lib.hid (hv9.later al9)
        have WB0 := WB.out.cell 0 _ rfl
        have WB1 := WB.out.cell 1 _ rfl
        clear BB9 hv9
        clear SB0 SB1 TB0 TB1 UB0 UB1
        obtain ⟨SBB, SB0, SB1⟩ := blk2 SB.out hq9
        replace SB := Lib.hid SBB
        clear SBB
        obtain ⟨TBB, TB0, TB1⟩ := blk2 TB.out hq9
        replace TB := Lib.hid TBB
        clear TBB
        obtain ⟨UBB, UB0, UB1⟩ := blk2 UB.out hq9
        replace UB := Lib.hid UBB
        clear UBB
        obtain ⟨VBB, VB0, VB1⟩ := blk2 VB.out hq9
        replace VB := Lib.hid VBB
        clear VBB
        replace IS := Lib.hid (IS.out.later hq9)
        replace IT := Lib.hid (IT.out.later hq9)
        replace IU := Lib.hid (IU.out.later hq9)
        replace IV := Lib.hid (IV.out.later hq9)
        have hp9 : p * r9 ≤ 1728 := Nat.mul_le_mul h12p (Nat.le_trans hr9 hpq)
        go_wp2_with fail
        refine (union_any _ _ _ S (fun n => S n && T n) gs p d9 r9 IS.out IW.out (by omega) ).mono ?_
        rintro e w10 ⟨d10, r10, ⟨v10, rfl, hv10, -, hb10⟩, hd10, hr10⟩
        have BB10 := below_from BB hb10
        obtain ⟨a10, n10, c10, rfl⟩ := isSet_val hv10
        have al10 := (Below.refl _ w10).alloc (Nat.le_refl _) (.cells #[.int .i64 d10, .slice a10 n10 c10] 28)
        replace BB := below_from BB10 al10
        have hq10 := hb10.trans (al10.mono hb10.size)
        have KB := Lib.hid (Blk.alloc (w := w10) [.int .i64 d10, .slice a10 n10 c10] 28)
        have IK := Lib.hid (hv10.later al10)
        have KB0 := KB.out.cell 0 _ rfl
        have KB1 := KB.out.cell 1 _ rfl
        clear BB10 hv10
        clear SB0 SB1 TB0 TB1 UB0 UB1 VB0 VB1 WB0 WB1
        obtain ⟨SBB, SB0, SB1⟩ := blk2 SB.out hq10
        replace SB := Lib.hid SBB
        clear SBB
        obtain ⟨UBB, UB0, UB1⟩ := blk2 UB.out hq10
        replace UB := Lib.hid UBB
        clear UBB
        obtain ⟨VBB, VB0, VB1⟩ := blk2 VB.out hq10
        replace VB := Lib.hid VBB
        clear VBB
        replace IS := Lib.hid (IS.out.later hq10)
        replace IU := Lib.hid (IU.out.later hq10)
        replace IV := Lib.hid (IV.out.later hq10)
        clear IT IW TB WB al9 al10 hb9 hb10 hq9 hq10
        have hpp : p * p ≤ 144 := Nat.mul_le_mul h12p h12p
        go_upto_region 11 with fail
        generalize hW2 : w10.alloc (.cells #[.int .i64 d10, .slice a10 n10 c10] 28) = W2 at *
        clear hW2
        have x0 : W2.drew.cell? ⟨w4.heap.size, 0, none⟩ = some (.int .i64 gs) := SB0
        have x1 : W2.drew.cell? ⟨w4.heap.size, 1, none⟩ = some (.slice as0 ns0 cs0) := SB1
        have dr := (Below.refl W2.heap.size W2).drew
        have HS1 := Lib.hid (IS.out.later dr)
        have NB : ∀ X : World, Blk (X.alloc (.cells #[.int .i64 0, .slice none 0 0] 28)) X.heap.size [.int .i64 0, .slice none 0 0] 28 := fun X => Blk.alloc _ _
        go_cut [17, 18] (fun s17 s18 wx => s18 = .nilIface ∧ CutSet (fun n => S n || !S n) (max gs gs) (p * p) W2.drew wx s17)
        case first =>
          go_region_held3 (fun w' => w'.cell? ⟨w4.heap.size, 0, none⟩ = some (.int .i64 gs) ∧ w'.cell? ⟨w4.heap.size, 1, none⟩ = some (.slice as0 ns0 cs0) ∧ Below W2.drew.heap.size W2.drew w')
            (first
              | exact ⟨x0, x1, Below.refl _ _⟩
              | exact keep2 x0 x1 ((Below.refl _ _).alloc (Nat.le_refl _) _)
              | exact keep2 x0 x1 bC
              | exact keep2 x0 x1 (bC.alloc bC.size _)
              | exact keep2 x0 x1 bA
              | exact keep2 x0 x1 (bA.alloc bA.size _)
              | exact keep2 x0 x1 (below_st bC zC bA.size _ _)
              | exact keep2 x0 x1 (below_st bC zC (Nat.le_refl _) _ _))
            (first
              | (go_at_call 12; (with_reducible refine (not_any _ (.agg #[.int .i64 gs, .slice as0 ns0 cs0]) S gs p ?_).mono ?_); (first | exact HS1.out | exact isSet_al HS1.out _); rintro e wA ⟨v1, rfl, hs1, -, hA⟩; have bA : Below W2.drew.heap.size W2.drew wA := (by first | exact hA | exact below_al hA); (try have zA : Blk wA W2.heap.size [.int .i64 0, .slice none 0 0] 28 := (NB W2.drew).later hA (lt_of_block (NB W2.drew))))
              | (go_at_call 14; (with_reducible refine (union_any _ (.agg #[.int .i64 gs, .slice as0 ns0 cs0]) v1 S (fun n => !S n) gs p gs p ?_ ?_ (by omega)).mono ?_); (first | exact HS1.out.later bA | exact isSet_al (HS1.out.later bA) _); (first | exact hs1 | exact isSet_al hs1 _); rintro e wC ⟨d, r, ⟨vI, rfl, hsI, hfI, hC⟩, hd, hr⟩; have bBC : Below wA.heap.size wA wC := (by first | exact hC | exact below_al hC); have bC := bA.trans (bBC.mono bA.size); obtain ⟨aI, nI, cI, rfl⟩ := isSet_val hsI; (first | have zC := zA.later bBC (lt_of_block zA) | have zC := (NB wA).later hC (lt_of_block (NB wA)) | have zC := trivial); (try have q0 := zC.cell 0 _ rfl); (try have q1 := zC.cell 1 _ rfl); (try have f0 := zC.frozen 0); (try have f1 := zC.frozen 1)))
          all_goals
            have s1 := bA.size
            have s3 := bBC.size
            go_wp2_with fail
            go_meet
            first
              | exact ⟨rfl, wC.heap.size, aI, nI, cI, d, r, rfl, Blk.alloc _ _, isSet_al hsI _, hd, hr, bC.alloc bC.size _⟩
              | exact ⟨rfl, wA.heap.size, aI, nI, cI, d, r, rfl, blk_st zC _ _, isSet_st hsI _ _ hfI (by simp at s1 ⊢ <;> omega), hd, hr, below_st bC zC bA.size _ _⟩
              | exact ⟨rfl, W2.heap.size, aI, nI, cI, d, r, rfl, blk_st zC _ _, isSet_st hsI _ _ hfI (by simp at s1 ⊢ <;> omega), hd, hr, below_st bC zC (Nat.le_refl _) _ _⟩
        case rest =>
          obtain ⟨rfl, gl, al, nl, cl, d11, r11, rfl, hLB, hLI, hd11, hr11, bV⟩ := hcut
          have dV := dr.trans (bV.mono (Nat.le_refl _))
          replace BB := below_from BB dV
          have LB := Lib.hid hLB
          have IL := Lib.hid hLI
          clear hLB hLI HS1 NB x0 x1 SB0 SB1 UB0 UB1 VB0 VB1 KB0 KB1
          replace IS := Lib.hid (IS.out.later dV)
          replace IU := Lib.hid (IU.out.later dV)
          replace IV := Lib.hid (IV.out.later dV)
          replace IK := Lib.hid (IK.out.later dV)
          obtain ⟨SBB, SB0, SB1⟩ := blk2 SB.out dV
          replace SB := Lib.hid SBB
          clear SBB
          obtain ⟨UBB, UB0, UB1⟩ := blk2 UB.out dV
          replace UB := Lib.hid UBB
          clear UBB
          obtain ⟨VBB, VB0, VB1⟩ := blk2 VB.out dV
          replace VB := Lib.hid VBB
          clear VBB
          obtain ⟨KBB, KB0, KB1⟩ := blk2 KB.out dV
          replace KB := Lib.hid KBB
          clear KBB
          clear dV bV dr
          go_wp2_with fail
          obtain ⟨W3, rfl⟩ : ∃ X, X = wc := ⟨_, rfl⟩
          have dr := (Below.refl W3.heap.size W3).drew
          have l0 : W3.drew.cell? ⟨gl, 0, none⟩ = some (.int .i64 (d11 : Nat)) := LB.out.cell 0 _ rfl
          have l1 : W3.drew.cell? ⟨gl, 1, none⟩ = some (.slice al nl cl) := LB.out.cell 1 _ rfl
          have IL' := Lib.hid (IL.out.later dr)
          have cH : ∀ X v, IsSet X v (fun _ => true) 0 1 → Calls Try.prog 22 #[v, .int .i64 1] X (ToldB (.bool true) X) := fun X v h => hasS_any X v _ 0 1 h 1 ⟨by omega, by omega⟩
          go_region_held3 (fun w' => w'.cell? ⟨gl, 0, none⟩ = some (.int .i64 (d11 : Nat)) ∧ w'.cell? ⟨gl, 1, none⟩ = some (.slice al nl cl) ∧ Below W3.drew.heap.size W3.drew w')
            (first
              | exact ⟨l0, l1, Below.refl _ _⟩
              | exact keep2 l0 l1 bD
              | exact keep2 l0 l1 bC
              | exact keep2 l0 l1 bB
              | exact keep2 l0 l1 bA)
            (first
              | (go_at_call 21; (with_reducible refine (all_any W3.drew).mono ?_); rintro e wA ⟨vA, rfl, hsA, -, bA⟩)
              | (go_at_call 13; (with_reducible refine (same_set _ (.agg #[.int .i64 d11, .slice al nl cl]) vA (fun n => S n || !S n) (fun _ => true) d11 r11 0 1 (IL'.out.later bA) hsA true (sameM3 S)).mono ?_); rintro e wB ⟨rfl, hB⟩; have bB := bA.trans (hB.mono bA.size))
              | (go_at_call 21; (with_reducible refine (all_any wB).mono ?_); rintro e wC ⟨vC, rfl, hsC, -, hC⟩; have bC := bB.trans (hC.mono bB.size))
              | (go_at_call 22; (with_reducible refine (cH _ vC hsC).mono ?_); rintro e wD ⟨rfl, hD⟩; have bD := bC.trans (hD.mono bC.size)))
          have dV := dr.trans (bD.mono (Nat.le_refl _))
          replace BB := below_from BB dV
          replace IS := Lib.hid (IS.out.later dV)
          replace IU := Lib.hid (IU.out.later dV)
          replace IV := Lib.hid (IV.out.later dV)
          replace IK := Lib.hid (IK.out.later dV)
          clear SB0 SB1 UB0 UB1 VB0 VB1 KB0 KB1
          obtain ⟨SBB, SB0, SB1⟩ := blk2 SB.out dV
          replace SB := Lib.hid SBB
          clear SBB
          obtain ⟨UBB, UB0, UB1⟩ := blk2 UB.out dV
          replace UB := Lib.hid UBB
          clear UBB
          obtain ⟨VBB, VB0, VB1⟩ := blk2 VB.out dV
          replace VB := Lib.hid VBB
          clear VBB
          obtain ⟨KBB, KB0, KB1⟩ := blk2 KB.out dV
          replace KB := Lib.hid KBB
          clear KBB
          clear l0 l1 IL IL' LB dV dr cH
          go_wp2_with fail
          have dr := (Below.refl wD.heap.size wD).drew
          have sb0 : wD.drew.cell? ⟨w4.heap.size, 0, none⟩ = some (.int .i64 gs) := SB0
          have sb1 : wD.drew.cell? ⟨w4.heap.size, 1, none⟩ = some (.slice as0 ns0 cs0) := SB1
          have ub0 : wD.drew.cell? ⟨w6.heap.size, 0, none⟩ = some (.int .i64 d6) := UB0
          have ub1 : wD.drew.cell? ⟨w6.heap.size, 1, none⟩ = some (.slice a6 n6 c6) := UB1
          have vb0 : wD.drew.cell? ⟨gv, 0, none⟩ = some (.int .i64 (d7 : Nat)) := VB0
          have vb1 : wD.drew.cell? ⟨gv, 1, none⟩ = some (.slice av nv cv) := VB1
          have kb0 : wD.drew.cell? ⟨w10.heap.size, 0, none⟩ = some (.int .i64 d10) := KB0
          have kb1 : wD.drew.cell? ⟨w10.heap.size, 1, none⟩ = some (.slice a10 n10 c10) := KB1
          have IS' := Lib.hid (IS.out.later dr)
          have IU' := Lib.hid (IU.out.later dr)
          have IV' := Lib.hid (IV.out.later dr)
          have IK' := Lib.hid (IK.out.later dr)
          go_region_held3 (fun w' => w'.cell? ⟨w4.heap.size, 0, none⟩ = some (.int .i64 gs) ∧ w'.cell? ⟨w4.heap.size, 1, none⟩ = some (.slice as0 ns0 cs0) ∧ w'.cell? ⟨w6.heap.size, 0, none⟩ = some (.int .i64 d6) ∧ w'.cell? ⟨w6.heap.size, 1, none⟩ = some (.slice a6 n6 c6) ∧ w'.cell? ⟨gv, 0, none⟩ = some (.int .i64 (d7 : Nat)) ∧ w'.cell? ⟨gv, 1, none⟩ = some (.slice av nv cv) ∧ w'.cell? ⟨w10.heap.size, 0, none⟩ = some (.int .i64 d10) ∧ w'.cell? ⟨w10.heap.size, 1, none⟩ = some (.slice a10 n10 c10) ∧ Below wD.drew.heap.size wD.drew w')
            (first
              | exact ⟨sb0, sb1, ub0, ub1, vb0, vb1, kb0, kb1, Below.refl _ _⟩
              | exact ⟨keepC sb0 bZ, keepC sb1 bZ, keepC ub0 bZ, keepC ub1 bZ, keepC vb0 bZ, keepC vb1 bZ, keepC kb0 bZ, keepC kb1 bZ, bZ⟩
              | exact ⟨keepC sb0 bY, keepC sb1 bY, keepC ub0 bY, keepC ub1 bY, keepC vb0 bY, keepC vb1 bY, keepC kb0 bY, keepC kb1 bY, bY⟩
              | exact ⟨keepC sb0 bX, keepC sb1 bX, keepC ub0 bX, keepC ub1 bX, keepC vb0 bX, keepC vb1 bX, keepC kb0 bX, keepC kb1 bX, bX⟩)
            (first
              | (go_at_call 12; (with_reducible refine (not_any _ (.agg #[.int .i64 d6, .slice a6 n6 c6]) (fun n => S n || T n) d6 r6 IU'.out).mono ?_); rintro e wX ⟨vX, rfl, hsX, -, bX⟩)
              | (go_at_call 13; (with_reducible refine (same_set _ vX (.agg #[.int .i64 d7, .slice av nv cv]) _ (fun n => !S n && !T n) d6 r6 d7 r7 hsX (IV'.out.later bX) true (sameM1 S T)).mono ?_); rintro e wY ⟨rfl, hY⟩; have bY := bX.trans (hY.mono bX.size))
              | (go_at_call 13; (with_reducible refine (same_set _ (.agg #[.int .i64 d10, .slice a10 n10 c10]) (.agg #[.int .i64 gs, .slice as0 ns0 cs0]) _ S d10 r10 gs p (IK'.out.later bY) (IS'.out.later bY) true (sameM2 S T)).mono ?_); rintro e wZ ⟨rfl, hZ⟩; have bZ := bY.trans (hZ.mono bY.size)))
          have bE := below_from BB (dr.trans (bZ.mono (Nat.le_refl _)))
          go_wp2
          go_ret
          exact ⟨rfl, bE⟩
end Go.Proofs.Ytcfcoojnjdoeeaa
