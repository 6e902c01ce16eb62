/- NthOf: the law's walk. -/
import Derived.Test.YtcfcoojnjdoeeaaNthI
import Derived.Test.YtcfcoojnjdoeeaaNthLs
namespace Go.Proofs.Ytcfcoojnjdoeeaa
open Go.RowKit

theorem parts_small {a b m : Int} (h : smallB a b m = true) : (headF a b : Int) ≤ max 0 m ∧ (roundF a : Int) ≤ max 1 m := by
  obtain ⟨⟨h1, h2⟩, h3, h4⟩ := smallB_yes h
  unfold headF roundF
  constructor <;> split <;> omega

theorem keepB {W0 w' : World} {b : Nat} {c0 c1 : Value} (h0 : W0.cell? ⟨b, 0, none⟩ = some c0) (h1 : W0.cell? ⟨b, 1, none⟩ = some c1) (hb : Below W0.heap.size W0 w') :
    w'.cell? ⟨b, 0, none⟩ = some c0 ∧ w'.cell? ⟨b, 1, none⟩ = some c1 ∧ Below W0.heap.size W0 w' :=
  ⟨(hb.cell (p := ⟨b, 0, none⟩) (World.block_lt_of_cell? _ _ h0)).trans h0, (hb.cell (p := ⟨b, 1, none⟩) (World.block_lt_of_cell? _ _ h1)).trans h1, hb⟩

theorem below_from {w W0 w' : World} (h : Below w.heap.size w W0) (k : Below W0.heap.size W0 w') : Below w.heap.size w w' := h.trans (k.mono h.size)

set_option maxRecDepth 100000 in
set_option maxHeartbeats 8000000 in
theorem lawOf_any (x y : Int) (w : World) (hx : -9223372036854775808 ≤ x ∧ x ≤ 9223372036854775807) (hy : -9223372036854775808 ≤ y ∧ y ≤ 9223372036854775807) :
    Calls Try.prog 3 #[.agg #[.int .i64 x, .int .i64 y]] w (ToldB (.bool true) w) := by
  have B1 : Below w.heap.size w (w.alloc (.cells #[.int .i64 x, .int .i64 y] 23)) := ((Below.refl _ w).alloc (Nat.le_refl _) _)
  have hX := Lib.hid (Blk.alloc (w := w) [.int .i64 x, .int .i64 y] 23)
  have cS := fun w => small_any x y 40 w (by omega)
  cases hs : smallB x y 40
  · rw [hs] at cS
    clear hs hx hy
    go_enter Try.func3, Try.ntmps3
    go_wp2_with fail
    refine (speaks5_any _).mono ?_
    rintro e w1 ⟨rfl, hb1⟩
    have B2 := below_from B1 hb1
    have hX1 := hX.out.later hb1 (lt_of_block hX.out)
    have c0 := hX1.cell 0 _ rfl
    have c1 := hX1.cell 1 _ rfl
    clear hX1
    go_wp2_with fail
    refine (cS _).mono ?_
    rintro e w2 ⟨rfl, hb2⟩
    go_wp2
    go_ret
    exact ⟨rfl, below_from B2 hb2⟩
  · rw [hs] at cS
    obtain ⟨p1, p2⟩ := parts_small hs
    obtain ⟨⟨x1, x2⟩, y1, y2⟩ := smallB_yes hs
    have cO := fun w => of_any x y w ⟨by omega, by omega⟩ ⟨by omega, by omega⟩ (by omega)
    have cR := fun w => row_any x y 400 w ⟨by omega, by omega⟩ ⟨by omega, by omega⟩ (by omega)
    clear hs hx hy x1 x2 y1 y2
    generalize hasN x y = S at *
    have hsz : headF x y + roundF x ≤ 200 := by omega
    clear p1 p2
    generalize headF x y = h at *
    generalize roundF x = p at *
    go_enter Try.func3, Try.ntmps3
    go_wp2_with fail
    refine (speaks5_any _).mono ?_
    rintro e w1 ⟨rfl, hb1⟩
    have B2 := below_from B1 hb1
    have hX1 := hX.out.later hb1 (lt_of_block hX.out)
    have c0 := hX1.cell 0 _ rfl
    have c1 := hX1.cell 1 _ rfl
    go_wp2_with fail
    refine (cS _).mono ?_
    rintro e w2 ⟨rfl, hb2⟩
    have B3 := below_from B2 hb2
    have hX2 := hX1.later hb2 (lt_of_block hX1)
    have c0 := hX2.cell 0 _ rfl
    have c1 := hX2.cell 1 _ rfl
    go_wp2_with fail
    refine (cO _).mono ?_
    rintro e w3 ⟨v, rfl, hs3, hf3, hb3⟩
    have B4 := below_from B3 hb3
    have hX3 := (hX2.later hb3 (lt_of_block hX2))
    have HS3 := Lib.hid hs3
    obtain ⟨a', m, c, rfl⟩ := isSet_val hs3
    have hX3b := hX3.alloc_old (.cells #[.int .i64 h, .slice a' m c] 28)
    have hV := Blk.alloc (w := w3) [.int .i64 h, .slice a' m c] 28
    have B5 := B4.alloc B4.size (.cells #[.int .i64 h, .slice a' m c] 28)
    have c0 := hX3b.cell 0 _ rfl
    have c1 := hX3b.cell 1 _ rfl
    have HV := Lib.hid hV
    clear hs3 hX3 hX3b hX1 hX2 hV hf3 hb1 hb2 B1 B2 B3 hX cS cO
    go_wp2_with fail
    refine (cR _).mono ?_
    rintro e w4 ⟨ar, cr, rfl, hr4, hb4⟩
    have B6 := below_from B5 hb4
    have hV4 := Lib.hid (HV.out.later hb4 (lt_of_block HV.out))
    have HS4 := Lib.hid ((HS3.out.later ((Below.refl _ w3).alloc (Nat.le_refl _) (.cells #[.int .i64 h, .slice a' m c] 28))).later hb4)
    have HR4 := Lib.hid hr4
    have own0 := World.ownsRow_made (base := w4.heap.size) (e := 4) (size := 1) w4 #[] 0 (Nat.le_refl _) (by simp [maxLen]) (by simp)
    have hV4l := lt_of_block hV4.out
    clear hr4 hb4 B4 B5 c0 c1 HV HS3 hb3 cR
    go_wp2
    go_loopw [6, 8, 24] (fun v _ i wr => ∃ k : Nat, k ≤ 400 ∧ i = .int .i64 k ∧ wr.ownsRow w4.heap.size 4 1 v k ((rowOf (fun n => !S n) k).map Value.bool) ∧ Below w4.heap.size w4 wr)
      (fun _ _ i _ => 400 - (intOf i).toNat)
    case atStart => exact ⟨0, by omega, rfl, own0, (Below.refl _ w4).alloc (Nat.le_refl _) _⟩
    case round =>
      obtain ⟨k, hk, rfl, hown, hbl⟩ := hrel
      clear own0
      by_cases hlt : k < 400
      · obtain ⟨b, off, rfl, hc⟩ := rdB_at (HR4.out.later hbl) k hlt
        have hkI : (0 : Int) ≤ (k : Int) := by omega
        have hkI2 : (k : Int) < 400 := by omega
        have HO := Lib.hid hown
        obtain ⟨av, cv, rfl⟩ : ∃ av cv, _ = Value.slice av k cv := by
          obtain ⟨x, y, hxy, _⟩ := RdB.of_owns hown
          exact ⟨x, y, hxy⟩
        clear hown
        have hsz4 := hbl.size
        obtain ⟨r, hr⟩ : ∃ r, S (k + 1) = r := ⟨_, rfl⟩
        have HK := Lib.hid (show (!r) = (fun n => !S n) (k + 1) by rw [← hr])
        rw [hr] at hc
        clear hr
        generalize hnr : (!r) = nr at *
        go_wp2_with (at_builtin; refine wpList_append_bool rfl _ _ 26 rfl w4.heap.size 4 Try.underlying26 TryinfoBool _ k (fun n => !S n) rfl wr _ rfl HO.out rfl HK.out (by omega) hsz4 ?_; intro v' w2 hown2 hgrow2)
        have hbl2 := (hbl.alloc hbl.size (.cells #[.bool nr] 4)).grown hgrow2 (by simp; omega) (fun j hj => (HO.out.lt j hj).1)
        go_roundw
        case rel => exact ⟨k + 1, by omega, by go_num, hown2, hbl2⟩
        case measure => simp [intOf]; omega
      · obtain rfl : k = 400 := by omega
        obtain ⟨ao, co, rfl, hro⟩ := RdB.of_owns hown
        have HRo := Lib.hid (p := RdB wr.drew ao 400 co (fun i => !S (i + 1))) hro
        have hd : Below w4.heap.size w4 wr.drew := hbl.drew
        have HRr := Lib.hid (HR4.out.later hd)
        have HSr := Lib.hid (HS4.out.later hd)
        have hVr := hV4.out.later hd hV4l
        have c0 := hVr.cell 0 _ rfl
        have c1 := hVr.cell 1 _ rfl
        have B7 := Lib.hid (below_from B6 hd)
        have nn : ∀ n, 1 ≤ n → (fun n => !(fun n => !S n) n) n = S n := fun n _ => by simp
        have NN := Lib.hid nn
        clear hown hro hbl hd hVr B6 HR4 HS4 hV4 nn
        go_wp2
        go_region_held3 (fun w' => w'.cell? ⟨w3.heap.size, 0, none⟩ = some (.int .i64 h) ∧ w'.cell? ⟨w3.heap.size, 1, none⟩ = some (.slice a' m c) ∧ Below wr.drew.heap.size wr.drew w')
          (first
            | exact ⟨c0, c1, Below.refl _ _⟩
            | exact keepB c0 c1 bG
            | exact keepB c0 c1 bF
            | exact keepB c0 c1 bE
            | exact keepB c0 c1 bD
            | exact keepB c0 c1 bC
            | exact keepB c0 c1 bB
            | exact keepB c0 c1 bA)
          (first
            | (go_at_call 11; (with_reducible refine (is_any _ (.agg #[.int .i64 h, .slice a' m c]) S h p ar cr HSr.out hsz HRr.out).mono ?_); rintro e wA ⟨rfl, bA⟩)
            | (go_at_call 12; (with_reducible refine (not_any _ (.agg #[.int .i64 h, .slice a' m c]) S h p (HSr.out.later bA)).mono ?_); rintro e wB ⟨v1, rfl, hs1, -, hB⟩; have bB := bA.trans (hB.mono bA.size))
            | (go_at_call 11; (with_reducible refine (is_any _ v1 (fun n => !S n) h p ao co hs1 hsz (HRo.out.later bB)).mono ?_); rintro e wC ⟨rfl, hC⟩; have bC := bB.trans (hC.mono bB.size))
            | (go_at_call 12; (with_reducible refine (not_any _ (.agg #[.int .i64 h, .slice a' m c]) S h p (HSr.out.later bC)).mono ?_); rintro e wD ⟨v2, rfl, hs2, -, hD⟩; have bD := bC.trans (hD.mono bC.size))
            | (go_at_call 12; (with_reducible refine (not_any _ v2 (fun n => !S n) h p hs2).mono ?_); rintro e wE ⟨v3, rfl, hs3, -, hE⟩; have bE := bD.trans (hE.mono bD.size))
            | (go_at_call 13; (with_reducible refine (same_set _ v3 (.agg #[.int .i64 h, .slice a' m c]) _ S h p h p hs3 (HSr.out.later bE) true ⟨fun _ => NN.out, fun _ => rfl⟩).mono ?_); rintro e wF ⟨rfl, hF⟩; have bF := bE.trans (hF.mono bE.size))
            | (go_at_call 13; (with_reducible refine (same_set _ (.agg #[.int .i64 h, .slice a' m c]) (.agg #[.int .i64 h, .slice a' m c]) S S h p h p (HSr.out.later bF) (HSr.out.later bF) true ⟨fun _ _ _ => rfl, fun _ => rfl⟩).mono ?_); rintro e wG ⟨rfl, hG⟩; have bG := bF.trans (hG.mono bF.size)))
        go_wp2
        go_ret
        exact ⟨rfl, below_from B7.out bG⟩
end Go.Proofs.Ytcfcoojnjdoeeaa
